import PyProof.Rows.All
import Wide.All
import OpenK.AllK
import Wide.FinOn
import HandS.ForExc
import HandS.Evl
import HandS.Comp
import HandS.Iter
import HandS.Text
import HandS.More
import HandS.IsInst
import HandS.Zip
import HandS.TupAny
import HandS.FStr
import HandS.Small
import HandS.ExcIs
import KE.GoesEnumKw
import KE.GoesMore
import HandS.RevRange
import PyProof.DictUpdate
import HandS.Dict
import PyProof.DictTable
import PyProof.Tail
import PySem.Challenge.RW_askmark_k05_steps_without_asks
set_option Elab.async false
set_option linter.all false
set_option maxRecDepth 100000
/-! The values of a run without a heap, and rules that tell a def's answer as a plain function of them. -/
namespace Ask
open PySem L2 Evl
/-- a value with all that it holds -/
inductive D where
  | non | bl (b : Bool) | int (i : Int) | str (s : Str) | ty (n : String) | tup (ds : List D) | lst (ds : List D) | ktup (ds : List D) | klst (ds : List D)
  | dct (kvs : List (Str × D)) | own (a : Addr) | ins (c : Str) (fs : List (Str × D))
/-- the class of a name -/
def CN (K : PySem.W.Frag) (C : Addr) (c : Str) : Prop := PySem.W.nsIn K mainGlobals c = some (some (.ref C))
theorem CN.inj {K : PySem.W.Frag} {C C' : Addr} {c : Str} (h : CN K C c) (k : CN K C' c) : C = C' := by
  unfold CN at h k
  rw [h] at k
  cases k
  rfl
/-- slots -/
abbrev Sl := List (Option D)
mutual
inductive Rp0 (K : PySem.W.Frag) (H : Hp) : V → D → Prop
  | non : Rp0 K H .non .non
  | bl (b : Bool) : Rp0 K H (.bl b) (.bl b)
  | int (i : Int) : Rp0 K H (.int i) (.int i)
  | str (x : Str) : Rp0 K H (.str x) (.str x)
  | ty (n : String) : Rp0 K H (.ty n) (.ty n)
  | own (a : Addr) : Rp0 K H (.ref a) (.own a)
  | tup {a : Addr} {xs : List V} {ds : List D} : H a = some (.tup xs) → RpA0 K H xs ds → Rp0 K H (.ref a) (.tup ds)
  | lst {a : Addr} {xs : List V} {ds : List D} : H a = some (.lst xs) → RpA0 K H xs ds → Rp0 K H (.ref a) (.lst ds)
  | ktup {a : Addr} {xs : List V} {ds : List D} : SqT K H a xs → RpA0 K H xs ds → Rp0 K H (.ref a) (.ktup ds)
  | klst {a : Addr} {xs : List V} {ds : List D} : SqL K H a xs → RpA0 K H xs ds → Rp0 K H (.ref a) (.klst ds)
  | dct {a : Addr} {xs : List (Key × V)} {ds : List (Str × D)} : H a = some (.dK xs) → RpD0 K H xs ds → Rp0 K H (.ref a) (.dct ds)
  | ins {a C dx : Addr} {c : Str} {xs : List (Str × V)} {ds : List (Str × D)} : CN K C c → H a = some (.ins C dx xs) → RpF0 K H xs ds → Rp0 K H (.ref a) (.ins c ds)
inductive RpA0 (K : PySem.W.Frag) (H : Hp) : List V → List D → Prop
  | nil : RpA0 K H [] []
  | cons {v : V} {vs : List V} {d : D} {ds : List D} : Rp0 K H v d → RpA0 K H vs ds → RpA0 K H (v :: vs) (d :: ds)
inductive RpD0 (K : PySem.W.Frag) (H : Hp) : List (Key × V) → List (Str × D) → Prop
  | nil : RpD0 K H [] []
  | cons {k : Str} {v : V} {vs : List (Key × V)} {d : D} {ds : List (Str × D)} : Rp0 K H v d → RpD0 K H vs ds → RpD0 K H ((Sum.inr k, v) :: vs) ((k, d) :: ds)
inductive RpF0 (K : PySem.W.Frag) (H : Hp) : List (Str × V) → List (Str × D) → Prop
  | nil : RpF0 K H [] []
  | cons {k : Str} {v : V} {vs : List (Str × V)} {d : D} {ds : List (Str × D)} : Rp0 K H v d → RpF0 K H vs ds → RpF0 K H ((k, v) :: vs) ((k, d) :: ds)
end
section
variable {K : PySem.W.Frag} {H H' : Hp}
mutual
theorem Rp0.mono (e : Ex H H') : ∀ {v : V} {d : D}, Rp0 K H v d → Rp0 K H' v d
  | _, _, .non => .non
  | _, _, .bl b => .bl b
  | _, _, .int b => .int b
  | _, _, .str b => .str b
  | _, _, .ty b => .ty b
  | _, _, .own b => .own b
  | _, _, .tup h r => .tup (e _ _ h) (RpA0.mono e r)
  | _, _, .lst h r => .lst (e _ _ h) (RpA0.mono e r)
  | _, _, .ktup h r => .ktup (ex_t e h) (RpA0.mono e r)
  | _, _, .klst h r => .klst (ex_l e h) (RpA0.mono e r)
  | _, _, .dct h r => .dct (e _ _ h) (RpD0.mono e r)
  | _, _, .ins n h r => .ins n (e _ _ h) (RpF0.mono e r)
theorem RpA0.mono (e : Ex H H') : ∀ {v : List V} {d : List D}, RpA0 K H v d → RpA0 K H' v d
  | _, _, .nil => .nil
  | _, _, .cons h r => .cons (Rp0.mono e h) (RpA0.mono e r)
theorem RpD0.mono (e : Ex H H') : ∀ {v : List (Key × V)} {d : List (Str × D)}, RpD0 K H v d → RpD0 K H' v d
  | _, _, .nil => .nil
  | _, _, .cons h r => .cons (Rp0.mono e h) (RpD0.mono e r)
theorem RpF0.mono (e : Ex H H') : ∀ {v : List (Str × V)} {d : List (Str × D)}, RpF0 K H v d → RpF0 K H' v d
  | _, _, .nil => .nil
  | _, _, .cons h r => .cons (Rp0.mono e h) (RpF0.mono e r)
end
theorem RpA0.length : ∀ {xs : List V} {ds : List D}, RpA0 K H xs ds → xs.length = ds.length
  | _, _, .nil => rfl
  | _, _, .cons _ r => congrArg (· + 1) r.length
theorem RpA0.append : ∀ {xs ys : List V} {ds es : List D}, RpA0 K H xs ds → RpA0 K H ys es → RpA0 K H (xs ++ ys) (ds ++ es)
  | _, _, _, _, .nil, s => s
  | _, _, _, _, .cons h r, s => .cons h (RpA0.append r s)
theorem RpA0.take : ∀ {xs : List V} {ds : List D} (n : Nat), RpA0 K H xs ds → RpA0 K H (xs.take n) (ds.take n)
  | _, _, 0, _ => by simp only [List.take_zero]; exact .nil
  | _, _, _ + 1, .nil => .nil
  | _, _, n + 1, .cons h r => .cons h (RpA0.take n r)
theorem RpA0.drop : ∀ {xs : List V} {ds : List D} (n : Nat), RpA0 K H xs ds → RpA0 K H (xs.drop n) (ds.drop n)
  | _, _, 0, r => r
  | _, _, _ + 1, .nil => .nil
  | _, _, n + 1, .cons _ r => RpA0.drop n r
theorem RpA0.get : ∀ {xs : List V} {ds : List D} {i : Nat} {d : D}, RpA0 K H xs ds → ds[i]? = some d → ∃ v, xs[i]? = some v ∧ Rp0 K H v d
  | _, _, 0, d, .cons h _, e => by simp at e; subst e; exact ⟨_, rfl, h⟩
  | _, _, i + 1, d, .cons _ r, e => by
    obtain ⟨v, h1, h2⟩ := RpA0.get (i := i) (d := d) r (by simpa using e)
    exact ⟨v, by simpa using h1, h2⟩
theorem RpA0.get' : ∀ {xs : List V} {ds : List D} {i : Nat} {v : V}, RpA0 K H xs ds → xs[i]? = some v → ∃ d, ds[i]? = some d ∧ Rp0 K H v d
  | _, _, 0, d, .cons h _, e => by simp at e; subst e; exact ⟨_, rfl, h⟩
  | _, _, i + 1, d, .cons _ r, e => by
    obtain ⟨v, h1, h2⟩ := RpA0.get' (i := i) (v := d) r (by simpa using e)
    exact ⟨v, by simpa using h1, h2⟩
theorem RpA0.ints : ∀ (ns : List Int), RpA0 K H (ns.map V.int) (ns.map D.int)
  | [] => .nil
  | n :: r => .cons (.int n) (RpA0.ints r)
theorem RpA0.strs : ∀ (ns : List Str), RpA0 K H (ns.map V.str) (ns.map D.str)
  | [] => .nil
  | n :: r => .cons (.str n) (RpA0.strs r)
end
/-- the heap without what is not to be known -/
def hid (B : List Addr) (H : Hp) : Hp := fun a => if a ∈ B then none else H a
def InB (B : List Addr) (H : Hp) : Prop := ∀ a ∈ B, H a ≠ none
theorem hid_some {B : List Addr} {H : Hp} {a : Addr} {o : HO} (h : hid B H a = some o) : H a = some o := by
  unfold hid at h
  split at h
  · cases h
  · exact h
theorem hid_ex (B : List Addr) (H : Hp) : Ex (hid B H) H := fun a o h => hid_some h
theorem hid_at {B : List Addr} {H : Hp} {a : Addr} {o : HO} (h : H a = some o) (hn : a ∉ B) : hid B H a = some o := by
  unfold hid
  rw [if_neg hn]
  exact h
/-- from one heap to a later one -/
structure Kx (B : List Addr) (H H' : Hp) : Prop where
  ex : Ex H H'
  inB : InB B H
theorem Kx.refl {B : List Addr} {H : Hp} (h : InB B H) : Kx B H H := ⟨Ex.refl H, h⟩
theorem Kx.inB' {B : List Addr} {H H' : Hp} (e : Kx B H H') : InB B H' := fun a ha h => by
  cases q : H a with
  | none => exact e.inB a ha q
  | some o => rw [e.ex a o q] at h; cases h
theorem Kx.trans {B : List Addr} {H H1 H2 : Hp} (a : Kx B H H1) (b : Kx B H1 H2) : Kx B H H2 := ⟨a.ex.trans b.ex, a.inB⟩
theorem Kx.new {B : List Addr} {H : Hp} {p : Addr} {o : HO} (hB : InB B H) (h : H p = none) : Kx B H (upd H p o) := ⟨Ex.new h, hB⟩
theorem Kx.hid {B : List Addr} {H H' : Hp} (e : Kx B H H') : Ex (hid B H) (hid B H') := fun a o h => by
  by_cases ha : a ∈ B
  · unfold Ask.hid at h; rw [if_pos ha] at h; cases h
  · exact hid_at (e.ex a o (hid_some h)) ha
theorem hid_new {B : List Addr} {H : Hp} {p : Addr} {o : HO} (hB : InB B H) (h : H p = none) : Ask.hid B (upd H p o) p = some o := hid_at upd_same fun hp => hB p hp h
abbrev Rp (K : PySem.W.Frag) (B : List Addr) (H : Hp) (v : V) (d : D) : Prop := Rp0 K (hid B H) v d
abbrev RpA (K : PySem.W.Frag) (B : List Addr) (H : Hp) (v : List V) (d : List D) : Prop := RpA0 K (hid B H) v d
theorem Rp0.mv {K : PySem.W.Frag} {B : List Addr} {H H' : Hp} {v : V} {d : D} (r : Rp K B H v d) (e : Kx B H H') : Rp K B H' v d := r.mono e.hid
theorem RpA0.mv {K : PySem.W.Frag} {B : List Addr} {H H' : Hp} {v : List V} {d : List D} (r : RpA K B H v d) (e : Kx B H H') : RpA K B H' v d := r.mono e.hid
/-- what comes of something: a value, an error of a class by its name, or nothing is said -/
inductive R (α : Type) where
  | ok (a : α) | err (c : Str) | bad
namespace R
def bind {α β : Type} (x : R α) (f : α → R β) : R β := match x with
  | .ok a => f a
  | .err c => .err c
  | .bad => .bad
def of {α : Type} : Option α → R α
  | some a => .ok a
  | none => .bad
end R
/-- the class at a name -/
def clsV (mg : Str → Option Value) (c : Str) : Value := (mg c).getD .none
section
variable {α β γ δ : Type}
/-- what is wanted behind -/
def Po (rel : List Addr → Hp → β → α → Prop) (mg : Str → Option Value) (W : WX) (σ : L2.St) (B : List Addr) (H : Hp) (Q : β → Hp → Prop) : R α → Prop
  | .ok a => ∀ v H', Kx B H H' → rel B H' v a → Q v H'
  | .err c => ∀ H', Kx B H H' → W (clsV mg c) none σ H'
  | .bad => False
variable {B : List Addr} {rel : List Addr → Hp → β → α → Prop} {rel' : List Addr → Hp → δ → γ → Prop} {mg : Str → Option Value} {W : WX} {σ : L2.St} {H H1 : Hp} {Q : β → Hp → Prop} {Q' : δ → Hp → Prop}
theorem Po.mono (e : Kx B H H1) : ∀ {x : R α}, Po rel mg W σ B H Q x → Po rel mg W σ B H1 Q x
  | .ok _, h => fun v H' a r => h v H' (e.trans a) r
  | .err _, h => fun H' a => h H' (e.trans a)
  | .bad, h => h
theorem Po.step {x : R γ} {f : γ → R α} (h : Po rel mg W σ B H Q (x.bind f)) (k : ∀ a, x = .ok a → ∀ v H1, Kx B H H1 → rel' B H1 v a → Po rel mg W σ B H1 Q (f a) → Q' v H1) : Po rel' mg W σ B H Q' x := by
  cases x with
  | ok a => exact fun v H1 e r => k a rfl v H1 e r (Po.mono e h)
  | err c => exact h
  | bad => exact h
theorem Po.imp {Q2 : β → Hp → Prop} (k : ∀ v H', Kx B H H' → Q v H' → Q2 v H') : ∀ {x : R α}, Po rel mg W σ B H Q x → Po rel mg W σ B H Q2 x
  | .ok _, h => fun v H' a r => k v H' a (h v H' a r)
  | .err _, h => h
  | .bad, h => h
end
/-- slots and what stands in them -/
structure RS (K : PySem.W.Frag) (B : List Addr) (H : Hp) (σ : L2.St) (env : Sl) : Prop where
  inB : InB B H
  len : σ.length = env.length
  get : ∀ (i : Nat) (d : D), env[i]? = some (some d) → ∃ v, σ[i]? = some (some v) ∧ Rp K B H v d
section
variable {K : PySem.W.Frag} {B : List Addr} {H H' : Hp} {σ : L2.St} {env : Sl}
theorem RS.mono (e : Kx B H H') (h : RS K B H σ env) : RS K B H' σ env := ⟨e.inB', h.len, fun i d q => let ⟨v, a, b⟩ := h.get i d q; ⟨v, a, b.mv e⟩⟩
theorem RS.set {i : Nat} {v : V} {d : D} (h : RS K B H σ env) (r : Rp K B H v d) : RS K B H (σ.set i (some v)) (env.set i (some d)) := by
  refine ⟨h.inB, by rw [List.length_set, List.length_set]; exact h.len, fun j e q => ?_⟩
  by_cases hj : i = j
  · subst hj
    by_cases hl : i < env.length
    · rw [List.getElem?_set_self hl] at q
      cases q
      exact ⟨v, List.getElem?_set_self (by rw [h.len]; exact hl), r⟩
    · rw [List.getElem?_eq_none (by rw [List.length_set]; omega)] at q
      cases q
  · rw [List.getElem?_set_ne hj] at q
    rw [List.getElem?_set_ne hj]
    exact h.get j e q
theorem RS.clear {i : Nat} (h : RS K B H σ env) : RS K B H (σ.set i none) (env.set i none) := by
  refine ⟨h.inB, by rw [List.length_set, List.length_set]; exact h.len, fun j e q => ?_⟩
  by_cases hj : i = j
  · subst hj
    by_cases hl : i < env.length
    · rw [List.getElem?_set_self hl] at q
      cases q
    · rw [List.getElem?_eq_none (by rw [List.length_set]; omega)] at q
      cases q
  · rw [List.getElem?_set_ne hj] at q
    rw [List.getElem?_set_ne hj]
    exact h.get j e q
def wipeE (env : Sl) : List Nat → Sl
  | [] => env
  | v :: vs => (wipeE env vs).set v none
theorem RS.wipe (h : RS K B H σ env) : ∀ vs : List Nat, RS K B H (L2.wipe σ vs) (wipeE env vs)
  | [] => h
  | v :: vs => (RS.wipe h vs).clear
end
/-! ### judgements -/
section
variable (K : PySem.W.Frag) (mg : Str → Option Value) (W : WX)
def EvE (te : TE) (m : Sl → R D) : Prop := ∀ (env : Sl) (σ : L2.St) (B : List Addr) (H : Hp) (Q : VK), RS K B H σ env → Po (Rp K) mg W σ B H Q (m env) → te σ H Q
def EvB (tt : TT) (m : Sl → R Bool) : Prop := ∀ (env : Sl) (σ : L2.St) (B : List Addr) (H : Hp) (Q : Bool → Hp → Prop), RS K B H σ env → Po (fun _ _ a b => a = b) mg W σ B H Q (m env) → tt σ H Q
def EvAs (ta : TA) (m : Sl → R (List D)) : Prop := ∀ (env : Sl) (σ : L2.St) (B : List Addr) (H : Hp) (Q : List V → Hp → Prop), RS K B H σ env → Po (RpA K) mg W σ B H Q (m env) → ta σ H Q
def EvPt (to : TO) (m : Sl → R (Option Int)) : Prop := ∀ (env : Sl) (σ : L2.St) (B : List Addr) (H : Hp) (Q : Option Int → Hp → Prop), RS K B H σ env → Po (fun _ _ a b => a = b) mg W σ B H Q (m env) → to σ H Q
end
/-- an expression and the function that it is -/
def ME (X : Cx) (W : WX) (e : Expr) (m : Sl → R D) : Prop := ∃ te, PE X e te ∧ EvE X.K X.mg W te m
def MT (X : Cx) (W : WX) (e : Expr) (m : Sl → R Bool) : Prop := ∃ tt, PT X e tt ∧ EvB X.K X.mg W tt m
def MA (X : Cx) (W : WX) (es : List Expr) (m : Sl → R (List D)) : Prop := ∃ ta, PA X es ta ∧ EvAs X.K X.mg W ta m
def MO (X : Cx) (W : WX) (e : Option Expr) (m : Sl → R (Option Int)) : Prop := ∃ to, PO X e to ∧ EvPt X.K X.mg W to m
/-- a statement's end -/
inductive O where
  | nx (env : Sl) | rt (d : D) | bk (env : Sl) | ct (env : Sl) | er (c : Str) | bad
def PoS (K : PySem.W.Frag) (mg : Str → Option Value) (W : WX) (E : Ends) (B : List Addr) (H : Hp) : O → Prop
  | .nx env => ∀ σ' H', Kx B H H' → RS K B H' σ' env → E.nx σ' H'
  | .rt d => ∀ v H', Kx B H H' → Rp K B H' v d → E.rt v H'
  | .bk env => ∀ σ' H', Kx B H H' → RS K B H' σ' env → E.bk σ' H'
  | .ct env => ∀ σ' H', Kx B H H' → RS K B H' σ' env → E.ct σ' H'
  | .er c => ∀ σ' H', Kx B H H' → W (clsV mg c) none σ' H'
  | .bad => False
theorem PoS.mono {K : PySem.W.Frag} {mg : Str → Option Value} {W : WX} {E : Ends} {B : List Addr} {H H1 : Hp} (e : Kx B H H1) : ∀ {o : O}, PoS K mg W E B H o → PoS K mg W E B H1 o
  | .nx _, h => fun σ' H' a r => h σ' H' (e.trans a) r
  | .rt _, h => fun σ' H' a r => h σ' H' (e.trans a) r
  | .bk _, h => fun σ' H' a r => h σ' H' (e.trans a) r
  | .ct _, h => fun σ' H' a r => h σ' H' (e.trans a) r
  | .er _, h => fun σ' H' a => h σ' H' (e.trans a)
  | .bad, h => h
def EvS (K : PySem.W.Frag) (mg : Str → Option Value) (W : WX) (ts : TS) (m : Sl → O) : Prop := ∀ (env : Sl) (σ : L2.St) (B : List Addr) (H : Hp) (E : Ends), RS K B H σ env → PoS K mg W E B H (m env) → ts E σ H
def MS (X : Cx) (W : WX) (st : Stmt) (m : Sl → O) : Prop := ∃ ts, PS X st ts ∧ EvS X.K X.mg W ts m
def MSs (X : Cx) (W : WX) (st : List Stmt) (m : Sl → O) : Prop := ∃ ts, PSs X st ts ∧ EvS X.K X.mg W ts m
/-! ### what the functions are made of -/
def varM (i : Nat) : Sl → R D := fun env => match env[i]? with
  | some (some d) => .ok d
  | _ => .bad
def cM (d : D) : Sl → R D := fun _ => .ok d
def op2 (g : D → D → Option D) (a b : Sl → R D) : Sl → R D := fun env => (a env).bind fun x => (b env).bind fun y => R.of (g x y)
def asB (a : Sl → R D) : Sl → R Bool := fun env => (a env).bind fun x => match x with
  | .bl b => .ok b
  | _ => .bad
def andB (a b : Sl → R Bool) : Sl → R Bool := fun env => (a env).bind fun x => if x = true then b env else .ok false
def orB (a b : Sl → R Bool) : Sl → R Bool := fun env => (a env).bind fun x => if x = true then .ok true else b env
def notB (a : Sl → R Bool) : Sl → R Bool := fun env => (a env).bind fun x => .ok (!x)
def andV (a b : Sl → R D) : Sl → R D := fun env => (a env).bind fun x => match x with
  | .bl k => if k = true then b env else .ok (.bl false)
  | _ => .bad
def orV (a b : Sl → R D) : Sl → R D := fun env => (a env).bind fun x => match x with
  | .bl k => if k = true then .ok (.bl true) else b env
  | _ => .bad
def notV (a : Sl → R D) : Sl → R D := fun env => (a env).bind fun x => match x with
  | .bl k => .ok (.bl (!k))
  | _ => .bad
def nilA : Sl → R (List D) := fun _ => .ok []
def consA (a : Sl → R D) (r : Sl → R (List D)) : Sl → R (List D) := fun env => (a env).bind fun x => (r env).bind fun xs => .ok (x :: xs)
def apM (f : List D → R D) (a : Sl → R (List D)) : Sl → R D := fun env => (a env).bind f
def tupM (a : Sl → R (List D)) : Sl → R D := fun env => (a env).bind fun xs => if xs.length ≤ 100000 then .ok (.tup xs) else .bad
def lstM (a : Sl → R (List D)) : Sl → R D := fun env => (a env).bind fun xs => if xs.length ≤ 100000 then .ok (.lst xs) else .bad
section
variable {X : Cx} {W : WX} {e a b c : Expr} {es rest : List Expr} {ma mb mc : Sl → R D} {pos : Pos}
theorem me_var (i : Nat) {x : Str} (hN : X.N[i]? = some x := by rfl) (hv : Vis X.env.scope x := by first | exact Or.inl rfl | exact Or.inr (Or.inl rfl) | exact Or.inr (Or.inr rfl)) (hd : (x == ("__debug__" : Str)) = false := by decide)
    (hcd : (x == ("__classdict__" : Str)) = false := by decide) : ME X W (.Name x pos) (varM i) := by
  refine ⟨_, pe_var (i := i) hN hv hd hcd, fun env σ B H Q hs h => ?_⟩
  unfold varM at h
  split at h
  · next d q =>
    obtain ⟨v, e1, r⟩ := hs.get i d q
    exact ⟨v, e1, h v H (Kx.refl hs.inB) r⟩
  · exact h.elim
theorem me_const {d : D} {v : V} (h : PE X e (tC v)) (r : ∀ B H, Rp X.K B H v d) : ME X W e (cM d) := ⟨_, h, fun env σ B H Q hs q => q v H (Kx.refl hs.inB) (r B H)⟩
theorem me_int {i : Int} {j : Nat} : ME X W (.Constant (.int i) j pos) (cM (.int i)) := me_const pe_int fun _ _ => .int i
theorem me_str {i : Str} {j : Nat} : ME X W (.Constant (.str i) j pos) (cM (.str i)) := me_const pe_str fun _ _ => .str i
theorem me_bl {i : Bool} {j : Nat} : ME X W (.Constant (.bool i) j pos) (cM (.bl i)) := me_const pe_bl fun _ _ => .bl i
theorem me_non {j : Nat} : ME X W (.Constant .none j pos) (cM .non) := me_const pe_non fun _ _ => .non
/-- a module's constant -/
theorem me_glob {x : Str} {v : V} {u : Value} {d : D} (hg : Gl X x) (hm : X.mg x = some u) (r : RelV v u) (rd : ∀ B H, Rp X.K B H v d) (hd : (x == ("__debug__" : Str)) = false := by decide) : ME X W (.Name x pos) (cM d) :=
  me_const (pe_glob hg hm r hd) rd
theorem me_bltn {x : Str} {v : V} {u : Value} {d : D} (hg : Gl X x) (hm : X.mg x = none) (hv : bootBuiltins x = some u) (r : RelV v u) (rd : ∀ B H, Rp X.K B H v d) (hn : x ≠ "__name__" := by decide) (hd : (x == ("__debug__" : Str)) = false := by decide) :
    ME X W (.Name x pos) (cM d) := me_const (pe_bltn hg hm hv r hn hd) rd
/-- a two-place operation -/
def OpM (X : Cx) (f : Value → Value → Sem Value) (g : D → D → Option D) : Prop :=
  ∃ r, OpR X f r ∧ ∀ (x y : V) (d e z : D) (B : List Addr) (H : Hp) (Q : VK), InB B H → Rp X.K B H x d → Rp X.K B H y e → g d e = some z → (∀ v H', Kx B H H' → Rp X.K B H' v z → Q v H') → r x y H Q
theorem EvE.op2 {K : PySem.W.Frag} {mg : Str → Option Value} {g : D → D → Option D} {r : R2} {ta tb : TE} (hr : ∀ (x y : V) (d e z : D) (B : List Addr) (H : Hp) (Q : VK), InB B H → Rp K B H x d → Rp K B H y e → g d e = some z → (∀ v H', Kx B H H' → Rp K B H' v z → Q v H') → r x y H Q)
    (ha : EvE K mg W ta ma) (hb : EvE K mg W tb mb) : EvE K mg W (tOp r ta tb) (op2 g ma mb) := fun env σ B H Q hs h => by
  refine ha env σ B H _ hs (Po.step h fun x _ v H1 e1 r1 h1 => ?_)
  refine hb env σ B H1 _ (hs.mono e1) (Po.step h1 fun y _ u H2 e2 r2 h2 => ?_)
  cases hg : g x y with
  | none => rw [hg] at h2; exact h2.elim
  | some z =>
    rw [hg] at h2
    exact hr v u x y z B H2 Q e2.inB' (r1.mv e2) r2 hg h2
theorem me_op {op : Operator} {g : D → D → Option D} (ho : OpM X (binaryOp op) g) (ha : ME X W a ma) (hb : ME X W b mb) : ME X W (.BinOp a op b pos) (op2 g ma mb) := by
  obtain ⟨r, h1, h2⟩ := ho
  obtain ⟨ta, a1, a2⟩ := ha
  obtain ⟨tb, b1, b2⟩ := hb
  exact ⟨_, pe_op h1 a1 b1, EvE.op2 h2 a2 b2⟩
theorem me_cmp {op : CmpOp} {g : D → D → Option D} (ho : OpM X (compareOp op) g) (ha : ME X W a ma) (hb : ME X W b mb) (hm : behindInMarks op b = false := by rfl) : ME X W (.Compare a [op] [b] pos) (op2 g ma mb) := by
  obtain ⟨r, h1, h2⟩ := ho
  obtain ⟨ta, a1, a2⟩ := ha
  obtain ⟨tb, b1, b2⟩ := hb
  exact ⟨_, pe_cmpR h1 a1 b1 hm, EvE.op2 h2 a2 b2⟩
theorem EvB.of {K : PySem.W.Frag} {mg : Str → Option Value} {ta : TE} (ha : EvE K mg W ta ma) : EvB K mg W (tB ta) (asB ma) := fun env σ B H Q hs h => by
  refine ha env σ B H _ hs (Po.step h fun x _ v H1 e1 r1 h1 => ?_)
  cases r1 with
  | bl k => exact ⟨k, rfl, h1 k H1 (Kx.refl e1.inB') rfl⟩
  | _ => exact h1.elim
theorem mt_cmp {op : CmpOp} {g : D → D → Option D} (ho : OpM X (compareOp op) g) (ha : ME X W a ma) (hb : ME X W b mb) (hm : behindInMarks op b = false := by rfl) : MT X W (.Compare a [op] [b] pos) (asB (op2 g ma mb)) := by
  obtain ⟨r, h1, h2⟩ := ho
  obtain ⟨ta, a1, a2⟩ := ha
  obtain ⟨tb, b1, b2⟩ := hb
  exact ⟨_, pt_cmpR h1 a1 b1 hm, EvB.of (EvE.op2 h2 a2 b2)⟩
theorem mt_val (ha : ME X W e ma) (he : ∀ whole, isTrue e X.env whole = (do let v ← whole; standAt e.pos; holding [v] (truthy v)) := by intro _; rfl) : MT X W e (asB ma) := by
  obtain ⟨ta, a1, a2⟩ := ha
  exact ⟨_, pt_val a1 he, EvB.of a2⟩
theorem mt_not {m : Sl → R Bool} (ha : MT X W a m) : MT X W (.UnaryOp .Not a pos) (notB m) := by
  obtain ⟨ta, a1, a2⟩ := ha
  refine ⟨_, pt_not a1, fun env σ B H Q hs h => a2 env σ B H _ hs (Po.step h fun x _ v H1 e1 r1 h1 => ?_)⟩
  have e : v = x := r1
  subst e
  exact h1 (!v) H1 (Kx.refl e1.inB') rfl
/-- and, or, in a test -/
def MW (X : Cx) (W : WX) (e : Expr) (m : Sl → R Bool) : Prop := ∃ tt, PW X e tt ∧ EvB X.K X.mg W tt m
theorem MW.mt {m : Sl → R Bool} (h : MW X W e m) : MT X W e m := let ⟨t, h1, h2⟩ := h; ⟨t, h1.pt, h2⟩
theorem mw_and1 {m : Sl → R Bool} (h : MT X W a m) : MW X W (.BoolOp .And [a] pos) m := let ⟨t, h1, h2⟩ := h; ⟨t, pw_and1 h1, h2⟩
theorem mw_or1 {m : Sl → R Bool} (h : MT X W a m) : MW X W (.BoolOp .Or [a] pos) m := let ⟨t, h1, h2⟩ := h; ⟨t, pw_or1 h1, h2⟩
theorem mw_and {m n : Sl → R Bool} (h : MT X W a m) (k : MW X W (.BoolOp .And (b :: rest) pos) n) : MW X W (.BoolOp .And (a :: b :: rest) pos) (andB m n) := by
  obtain ⟨t, h1, h2⟩ := h
  obtain ⟨u, k1, k2⟩ := k
  refine ⟨_, pw_and h1 k1, fun env σ B H Q hs h => h2 env σ B H _ hs (Po.step h fun x _ v H1 e1 r1 q => ?_)⟩
  have e : v = x := r1
  subst e
  cases v with
  | true => exact iteT (k2 env σ B H1 Q (hs.mono e1) q)
  | false => exact iteF (q false H1 (Kx.refl e1.inB') rfl)
theorem mw_or {m n : Sl → R Bool} (h : MT X W a m) (k : MW X W (.BoolOp .Or (b :: rest) pos) n) : MW X W (.BoolOp .Or (a :: b :: rest) pos) (orB m n) := by
  obtain ⟨t, h1, h2⟩ := h
  obtain ⟨u, k1, k2⟩ := k
  refine ⟨_, pw_or h1 k1, fun env σ B H Q hs h => h2 env σ B H _ hs (Po.step h fun x _ v H1 e1 r1 q => ?_)⟩
  have e : v = x := r1
  subst e
  cases v with
  | false => exact iteF (k2 env σ B H1 Q (hs.mono e1) q)
  | true => exact iteT (q true H1 (Kx.refl e1.inB') rfl)
theorem me_one {op : BoolOp} (h : ME X W a ma) : ME X W (.BoolOp op [a] pos) ma := let ⟨t, h1, h2⟩ := h; ⟨t, pe_one h1, h2⟩
theorem me_and (h : ME X W a ma) (k : ME X W (.BoolOp .And (b :: rest) pos) mb) : ME X W (.BoolOp .And (a :: b :: rest) pos) (andV ma mb) := by
  obtain ⟨t, h1, h2⟩ := h
  obtain ⟨u, k1, k2⟩ := k
  refine ⟨_, pe_and h1 k1, fun env σ B H Q hs h => h2 env σ B H _ hs (Po.step h fun x _ v H1 e1 r1 q => ?_)⟩
  cases r1 with
  | bl k =>
    refine ⟨k, rfl, ?_⟩
    cases k with
    | true => exact iteT (k2 env σ B H1 Q (hs.mono e1) q)
    | false => exact iteF (q _ H1 (Kx.refl e1.inB') (.bl false))
  | _ => exact q.elim
theorem me_or (h : ME X W a ma) (k : ME X W (.BoolOp .Or (b :: rest) pos) mb) : ME X W (.BoolOp .Or (a :: b :: rest) pos) (orV ma mb) := by
  obtain ⟨t, h1, h2⟩ := h
  obtain ⟨u, k1, k2⟩ := k
  refine ⟨_, pe_or h1 k1, fun env σ B H Q hs h => h2 env σ B H _ hs (Po.step h fun x _ v H1 e1 r1 q => ?_)⟩
  cases r1 with
  | bl k =>
    refine ⟨k, rfl, ?_⟩
    cases k with
    | false => exact iteF (k2 env σ B H1 Q (hs.mono e1) q)
    | true => exact iteT (q _ H1 (Kx.refl e1.inB') (.bl true))
  | _ => exact q.elim
theorem me_not (h : ME X W a ma) : ME X W (.UnaryOp .Not a pos) (notV ma) := by
  obtain ⟨t, h1, h2⟩ := h
  refine ⟨_, pe_not h1, fun env σ B H Q hs h => h2 env σ B H _ hs (Po.step h fun x _ v H1 e1 r1 q => ?_)⟩
  cases r1 with
  | bl k => exact ⟨k, rfl, q _ H1 (Kx.refl e1.inB') (.bl _)⟩
  | _ => exact q.elim
/-! arguments, displays -/
theorem ma_nil : MA X W [] nilA := ⟨_, pa_nil, fun env σ B H Q hs h => h [] H (Kx.refl hs.inB) .nil⟩
theorem ma_cons {mr : Sl → R (List D)} (ha : ME X W e ma) (hr : MA X W es mr) (hs : starEach (e :: es) X.env = (false, eval e X.env) :: starEach es X.env := by rfl) : MA X W (e :: es) (consA ma mr) := by
  obtain ⟨t, h1, h2⟩ := ha
  obtain ⟨u, k1, k2⟩ := hr
  refine ⟨_, pa_cons h1 k1 hs, fun env σ B H Q hs h => h2 env σ B H _ hs (Po.step h fun x _ v H1 e1 r1 q => ?_)⟩
  refine k2 env σ B H1 _ (hs.mono e1) (Po.step q fun xs _ vs H2 e2 r2 q2 => ?_)
  exact q2 (v :: vs) H2 (Kx.refl e2.inB') (.cons (r1.mv e2) r2)
theorem line1 {n : Nat} (h : n ≤ 100000) : n ≤ sizeLine := sz_of h
theorem me_tup {mr : Sl → R (List D)} {x1 : Nat} (h : MA X W es mr) : ME X W (.Tuple es x1 pos) (tupM mr) := by
  obtain ⟨u, k1, k2⟩ := h
  refine ⟨_, pe_tup k1, fun env σ B H Q hs h => k2 env σ B H _ hs (Po.step h fun xs _ vs H2 e2 r2 q2 => ?_)⟩
  by_cases hl : xs.length ≤ 100000
  · rw [if_pos hl] at q2
    refine ⟨by rw [r2.length]; exact line1 hl, fun p hp => q2 _ _ (Kx.new e2.inB' hp) (.tup (hid_new e2.inB' hp) (r2.mv (Kx.new e2.inB' hp)))⟩
  · rw [if_neg hl] at q2
    exact q2.elim
theorem me_lst {mr : Sl → R (List D)} (h : MA X W es mr) : ME X W (.List es pos) (lstM mr) := by
  obtain ⟨u, k1, k2⟩ := h
  refine ⟨_, pe_lst k1, fun env σ B H Q hs h => k2 env σ B H _ hs (Po.step h fun xs _ vs H2 e2 r2 q2 => ?_)⟩
  by_cases hl : xs.length ≤ 100000
  · rw [if_pos hl] at q2
    refine ⟨by rw [r2.length]; exact line1 hl, fun p hp => q2 _ _ (Kx.new e2.inB' hp) (.lst (hid_new e2.inB' hp) (r2.mv (Kx.new e2.inB' hp)))⟩
  · rw [if_neg hl] at q2
    exact q2.elim
end
end Ask
namespace Ask
open PySem L2 Evl
/-! ### the operations on values -/
def D.items : D → Option (List D)
  | .tup ds => some ds
  | .lst ds => some ds
  | .ktup ds => some ds
  | .klst ds => some ds
  | _ => none
def D.add : D → D → Option D
  | .int a, .int b => some (.int (a + b))
  | .str a, .str b => if a.length + b.length ≤ 100000 then some (.str (a ++ b)) else none
  | .lst a, .lst b => if a.length + b.length ≤ 100000 then some (.lst (a ++ b)) else none
  | .tup a, .tup b => if a.length + b.length ≤ 100000 then some (.tup (a ++ b)) else none
  | _, _ => none
def D.sub : D → D → Option D
  | .int a, .int b => some (.int (a - b))
  | _, _ => none
def D.mul : D → D → Option D
  | .int a, .int b => if (-(2 ^ 64) < a ∧ a < 2 ^ 64) ∨ (-(2 ^ 64) < b ∧ b < 2 ^ 64) then some (.int (a * b)) else none
  | .str a, .int b => if b = 0 then some (.str Str.empty) else if b = 1 then some (.str a) else none
  | _, _ => none
def D.fdiv : D → D → Option D
  | .int a, .int b => if 0 < b ∧ b < 1073741824 then some (.int (a / b)) else none
  | _, _ => none
def D.mod : D → D → Option D
  | .int a, .int b => if 0 < b then some (.int (a % b)) else none
  | _, _ => none
def D.lt : D → D → Option D
  | .int a, .int b => some (.bl (decide (a < b)))
  | _, _ => none
def D.gt : D → D → Option D
  | .int a, .int b => some (.bl (decide (b < a)))
  | _, _ => none
def D.ge : D → D → Option D
  | .int a, .int b => some (.bl (decide (b ≤ a)))
  | _, _ => none
def D.le : D → D → Option D
  | .int a, .int b => some (.bl (decide (a ≤ b)))
  | .str a, .str b => some (.bl (!decide (b.cps.toList < a.cps.toList)))
  | _, _ => none
/-- a plain value -/
def D.flat : D → Option V
  | .non => some .non
  | .bl b => some (.bl b)
  | .int b => some (.int b)
  | .str b => some (.str b)
  | _ => none
def D.eq (a b : D) : Option D := match a.flat, b.flat with
  | some x, some y => if scal x y = true then some (.bl (decide (x = y))) else none
  | _, _ => none
def D.ne (a b : D) : Option D := match a.flat, b.flat with
  | some x, some y => if scal x y = true then some (.bl (!decide (x = y))) else none
  | _, _ => none
def D.isNon : D → Bool
  | .non => true
  | _ => false
def D.is : D → D → Option D
  | .ty a, .ty b => some (.bl (decide (a = b)))
  | x, .non => some (.bl x.isNon)
  | _, _ => none
def D.isnt : D → D → Option D
  | .ty a, .ty b => some (.bl (!decide (a = b)))
  | x, .non => some (.bl (!x.isNon))
  | _, _ => none
def flats : List D → Option (List V)
  | [] => some []
  | d :: ds => match d.flat, flats ds with
    | some v, some vs => some (v :: vs)
    | _, _ => none
def D.inn (neg : Bool) (x y : D) : Option D := match x.flat, y.items with
  | some v, some ds => match flats ds with
    | some vs => some (.bl (if neg then !inV v vs else inV v vs))
    | none => none
  | _, _ => none
def D.ix : D → D → Option D
  | .str z, .int i => if z.length ≤ 100000 then match atI z.cps.toList i with
    | some c => some (.str ⟨#[c]⟩)
    | none => none else none
  | d, .int i => match d.items with
    | some ds => atI ds i
    | none => none
  | _, _ => none
def cutD (xs : List D) (lo hi : Option Int) : List D := (xs.drop (HT.sIx xs.length 0 lo)).take (HT.sIx xs.length xs.length hi - HT.sIx xs.length 0 lo)
def D.sl : D → Option Int → Option Int → Option D
  | .str z, lo, hi => if z.length ≤ 100000 then some (.str (cutS z lo hi)) else none
  | .lst ds, lo, hi => some (.lst (cutD ds lo hi))
  | .klst ds, lo, hi => some (.lst (cutD ds lo hi))
  | .tup ds, lo, hi => some (.tup (cutD ds lo hi))
  | _, _, _ => none
def D.tyN : D → Option String
  | .non => some "NoneType"
  | .bl _ => some "bool"
  | .int _ => some "int"
  | .str _ => some "str"
  | .tup _ => some "tuple"
  | .lst _ => some "list"
  | .dct _ => some "dict"
  | _ => none
def D.tyM : D → Option String
  | .ktup _ => some "tuple"
  | d => d.tyN
/-- the type of a value, a dict's too -/
def tyNV (x : V) (H : Hp) : Option String :=
  match x with
  | .ref p => (match H p with
    | some (.dK _) => some "dict"
    | _ => zTyV x H)
  | _ => zTyV x H
section
variable {K : PySem.W.Frag} {B : List Addr} {H H' : Hp}
theorem Rp0.flat {v : V} {d : D} {x : V} (r : Rp K B H v d) (e : d.flat = some x) : v = x ∧ flatV x = true := by
  cases r <;> (simp only [D.flat] at e; first | (cases e; done) | (cases e; exact ⟨rfl, rfl⟩))
theorem RpA0.flats : ∀ {vs : List V} {ds : List D} {xs : List V}, RpA K B H vs ds → flats ds = some xs → vs = xs ∧ xs.all flatV = true
  | _, _, _, .nil, e => by simp only [Ask.flats] at e; cases e; exact ⟨rfl, rfl⟩
  | _, _, _, .cons (v := v) (d := d) (ds := ds) h r, e => by
    simp only [Ask.flats] at e
    cases h1 : d.flat with
    | none => rw [h1] at e; simp at e
    | some x =>
      cases h2 : Ask.flats ds with
      | none => rw [h1, h2] at e; simp at e
      | some xs =>
        rw [h1, h2] at e
        simp at e
        obtain ⟨a1, a2⟩ := h.flat h1
        obtain ⟨b1, b2⟩ := RpA0.flats r h2
        subst a1 b1 e
        exact ⟨rfl, by rw [List.all_cons, a2, b2]; rfl⟩
theorem Rp0.seq {v : V} {d : D} {ds : List D} (r : Rp K B H v d) (e : d.items = some ds) : ∃ a xs, v = .ref a ∧ (SqL K H a xs ∨ SqT K H a xs) ∧ RpA K B H xs ds := by
  cases r with
  | tup h q => cases e; exact ⟨_, _, rfl, .inr (st_of (hid_some h)), q⟩
  | lst h q => cases e; exact ⟨_, _, rfl, .inl (sq_of (hid_some h)), q⟩
  | ktup h q => cases e; exact ⟨_, _, rfl, .inr (ex_t (hid_ex B H) h), q⟩
  | klst h q => cases e; exact ⟨_, _, rfl, .inl (ex_l (hid_ex B H) h), q⟩
  | _ => cases e
theorem Rp0.tyX {v : V} {d : D} {n : String} (r : Rp K B H v d) (e : d.tyN = some n) : TyX K H v (.type n) ∧ tyNV v H = some n := by
  cases r with
  | non => cases e; exact ⟨.base .non, rfl⟩
  | bl b => cases e; exact ⟨.base (.bl b), rfl⟩
  | int b => cases e; exact ⟨.base (.int b), rfl⟩
  | str b => cases e; exact ⟨.base (.str b), rfl⟩
  | tup h q => cases e; exact ⟨.base (.tup (hid_some h)), by simp only [tyNV, zTyV, hid_some h]⟩
  | lst h q => cases e; exact ⟨.base (.lst (hid_some h)), by simp only [tyNV, zTyV, hid_some h]⟩
  | dct h q => cases e; exact ⟨.base (.dK (hid_some h)), by simp only [tyNV, hid_some h]⟩
  | _ => cases e
theorem Rp0.tyM {v : V} {d : D} {n : String} (r : Rp K B H v d) (e : d.tyM = some n) : TyX K H v (.type n) := by
  cases r with
  | ktup h q =>
    cases e
    rcases ex_t (hid_ex B H) h with h | ⟨o, its, m, h1, h2, _⟩
    · rcases h with h | ⟨o, h⟩
      · exact .base (.tup h)
      · exact .fTuple h
    · exact .kTuple h1 h2
  | non => exact (Rp0.tyX (B := B) .non e).1
  | bl b => exact (Rp0.tyX (B := B) (.bl b) e).1
  | int b => exact (Rp0.tyX (B := B) (.int b) e).1
  | str b => exact (Rp0.tyX (B := B) (.str b) e).1
  | tup h q => exact (Rp0.tyX (B := B) (.tup h q) e).1
  | lst h q => exact (Rp0.tyX (B := B) (.lst h q) e).1
  | dct h q => exact (Rp0.tyX (B := B) (.dct h q) e).1
  | _ => cases e
theorem atI_rp {xs : List V} {ds : List D} {i : Int} {d : D} (r : RpA K B H xs ds) (e : atI ds i = some d) : ∃ v, atI xs i = some v ∧ Rp K B H v d := by
  unfold atI at e ⊢
  rw [r.length]
  cases h : ixN ds.length i with
  | none => rw [h] at e; cases e
  | some j =>
    rw [h] at e
    exact r.get e
theorem cut_rp {xs : List V} {ds : List D} {lo hi : Option Int} (r : RpA K B H xs ds) : RpA K B H (cutV xs lo hi) (cutD ds lo hi) := by
  unfold cutV cutD
  rw [r.length]
  exact (r.drop _).take _
end
section
variable {X : Cx}
theorem om_add : OpM X (binaryOp .Add) D.add := by
  refine ⟨_, op_add.or (op_add_str.or (op_cat.or op_catA)), fun x y d e z B H Q hB rx ry h q => ?_⟩
  cases rx with
  | int a =>
    cases ry with
    | int b => cases h; exact .inl ⟨a, b, rfl, rfl, q _ H (Kx.refl hB) (.int _)⟩
    | _ => cases h
  | str a =>
    cases ry with
    | str b =>
      simp only [D.add] at h
      split at h
      · next hl => cases h; exact .inr (.inl ⟨a, b, rfl, rfl, line1 hl, q _ H (Kx.refl hB) (.str _)⟩)
      · cases h
    | _ => cases h
  | lst ha ra =>
    cases ry with
    | lst hb rb =>
      simp only [D.add] at h
      split at h
      · next hl =>
        cases h
        refine .inr (.inr (.inl ⟨_, _, _, _, rfl, rfl, hid_some ha, hid_some hb, by rw [ra.length, rb.length]; exact line1 hl, fun p hp => q _ _ (Kx.new hB hp) (.lst (hid_new hB hp) ((ra.append rb).mv (Kx.new hB hp)))⟩))
      · cases h
    | _ => cases h
  | tup ha ra =>
    cases ry with
    | tup hb rb =>
      simp only [D.add] at h
      split at h
      · next hl =>
        cases h
        refine .inr (.inr (.inr ⟨_, _, _, _, rfl, rfl, st_of (hid_some ha), st_of (hid_some hb), by rw [ra.length, rb.length]; exact line1 hl, fun e => ?_, fun _ e => ?_, fun _ _ p hp => q _ _ (Kx.new hB hp) (.tup (hid_new hB hp) ((ra.append rb).mv (Kx.new hB hp)))⟩))
        · subst e
          cases ra
          exact q _ H (Kx.refl hB) (.tup hb rb)
        · subst e
          cases rb
          rw [List.append_nil] at q
          exact q _ H (Kx.refl hB) (.tup ha ra)
      · cases h
    | _ => cases h
  | _ => cases ry <;> cases h
theorem om_int {f : Value → Value → Sem Value} {C : Int → Int → Prop} {k : Int → Int → V} {k' : Int → Int → D} {g : D → D → Option D} (hr : OpR X f (rI C k)) (hk : ∀ i j B H, Rp X.K B H (k i j) (k' i j))
    (hg : ∀ d e z, g d e = some z → ∃ i j, d = .int i ∧ e = .int j ∧ C i j ∧ z = k' i j) : OpM X f g := by
  refine ⟨_, hr, fun x y d e z B H Q hB rx ry h q => ?_⟩
  obtain ⟨i, j, rfl, rfl, hc, rfl⟩ := hg d e z h
  cases rx
  cases ry
  exact ⟨i, j, rfl, rfl, hc, q _ H (Kx.refl hB) (hk i j B H)⟩
theorem om_int0 {f : Value → Value → Sem Value} {k : Int → Int → V} {k' : Int → Int → D} {g : D → D → Option D} (hr : OpR X f (rI0 k)) (hk : ∀ i j B H, Rp X.K B H (k i j) (k' i j))
    (hg : ∀ d e z, g d e = some z → ∃ i j, d = .int i ∧ e = .int j ∧ z = k' i j) : OpM X f g := by
  refine ⟨_, hr, fun x y d e z B H Q hB rx ry h q => ?_⟩
  obtain ⟨i, j, rfl, rfl, rfl⟩ := hg d e z h
  cases rx
  cases ry
  exact ⟨i, j, rfl, rfl, q _ H (Kx.refl hB) (hk i j B H)⟩
theorem om_sub : OpM X (binaryOp .Sub) D.sub := om_int0 (k' := fun i j => .int (i - j)) op_sub (fun _ _ _ _ => .int _) fun d e z h => by
  cases d <;> cases e <;> cases h <;> exact ⟨_, _, rfl, rfl, rfl⟩
def rMulS : R2 := fun x y H Q => ∃ (a : Str) (b : Int), x = .str a ∧ y = .int b ∧ ((b = 0 ∧ Q (.str Str.empty) H) ∨ (b = 1 ∧ Q (.str a) H))
theorem op_mulS : OpR X (binaryOp .Mult) rMulS := by
  intro pins s σ H x y v u Q I rx ry h
  obtain ⟨a, b, rfl, rfl, h⟩ := h
  obtain ⟨t, rfl⟩ := rx
  obtain ⟨t', rfl⟩ := ry
  rcases h with ⟨rfl, q⟩ | ⟨rfl, q⟩
  · exact PySem.P.mul_str_none (by decide) (by decide) ⟨.str Str.empty, H, I.tok _, ⟨_, rfl⟩, q⟩
  · refine PySem.P.mul_str (by decide) (fun _ h => by simp at h) (fun _ h => by simp at h) ?_
    rw [if_neg (by decide), if_pos (by simp)]
    exact ⟨.str a, H, I, ⟨_, rfl⟩, q⟩
theorem om_mul : OpM X (binaryOp .Mult) D.mul := by
  refine ⟨_, op_mul.or op_mulS, fun x y d e z B H Q hB rx ry h q => ?_⟩
  cases rx with
  | int a =>
    cases ry with
    | int b =>
      simp only [D.mul] at h
      split at h
      · next hc => cases h; exact .inl ⟨a, b, rfl, rfl, hc, q _ H (Kx.refl hB) (.int _)⟩
      · cases h
    | _ => cases h
  | str a =>
    cases ry with
    | int b =>
      simp only [D.mul] at h
      split at h
      · next hb => cases h; exact .inr ⟨a, b, rfl, rfl, .inl ⟨hb, q _ H (Kx.refl hB) (.str _)⟩⟩
      · split at h
        · next hb => cases h; exact .inr ⟨a, b, rfl, rfl, .inr ⟨hb, q _ H (Kx.refl hB) (.str _)⟩⟩
        · cases h
    | _ => cases h
  | _ => cases ry <;> cases h
theorem om_fdiv : OpM X (binaryOp .FloorDiv) D.fdiv := om_int (k' := fun i j => .int (i / j)) op_fdiv (fun _ _ _ _ => .int _) fun d e z h => by
  cases d <;> cases e <;> first | (cases h; done) | skip
  simp only [D.fdiv] at h
  split at h
  · next hc => cases h; exact ⟨_, _, rfl, rfl, hc, rfl⟩
  · cases h
theorem om_mod : OpM X (binaryOp .Mod) D.mod := om_int (k' := fun i j => .int (i % j)) op_mod (fun _ _ _ _ => .int _) fun d e z h => by
  cases d <;> cases e <;> first | (cases h; done) | skip
  simp only [D.mod] at h
  split at h
  · next hc => cases h; exact ⟨_, _, rfl, rfl, hc, rfl⟩
  · cases h
theorem om_lt : OpM X (compareOp .Lt) D.lt := om_int0 (k' := fun i j => .bl (decide (i < j))) op_lt (fun _ _ _ _ => .bl _) fun d e z h => by
  cases d <;> cases e <;> cases h <;> exact ⟨_, _, rfl, rfl, rfl⟩
theorem om_gt : OpM X (compareOp .Gt) D.gt := om_int0 (k' := fun i j => .bl (decide (j < i))) op_gt (fun _ _ _ _ => .bl _) fun d e z h => by
  cases d <;> cases e <;> cases h <;> exact ⟨_, _, rfl, rfl, rfl⟩
theorem om_ge : OpM X (compareOp .GtE) D.ge := om_int0 (k' := fun i j => .bl (decide (j ≤ i))) op_ge (fun _ _ _ _ => .bl _) fun d e z h => by
  cases d <;> cases e <;> cases h <;> exact ⟨_, _, rfl, rfl, rfl⟩
theorem om_le : OpM X (compareOp .LtE) D.le := by
  refine ⟨_, op_le.or op_le_str, fun x y d e z B H Q hB rx ry h q => ?_⟩
  cases rx with
  | int a =>
    cases ry with
    | int b => cases h; exact .inl ⟨a, b, rfl, rfl, q _ H (Kx.refl hB) (.bl _)⟩
    | _ => cases h
  | str a =>
    cases ry with
    | str b => cases h; exact .inr ⟨a, b, rfl, rfl, q _ H (Kx.refl hB) (.bl _)⟩
    | _ => cases h
  | _ => cases ry <;> cases h
theorem om_eq : OpM X (compareOp .Eq) D.eq := by
  refine ⟨_, op_eq, fun x y d e z B H Q hB rx ry h q => ?_⟩
  unfold D.eq at h
  split at h
  · next a b ha hb =>
    split at h
    · next hs =>
      cases h
      obtain ⟨rfl, _⟩ := rx.flat ha
      obtain ⟨rfl, _⟩ := ry.flat hb
      exact ⟨hs, q _ H (Kx.refl hB) (.bl _)⟩
    · cases h
  · cases h
theorem om_ne : OpM X (compareOp .NotEq) D.ne := by
  refine ⟨_, op_ne, fun x y d e z B H Q hB rx ry h q => ?_⟩
  unfold D.ne at h
  split at h
  · next a b ha hb =>
    split at h
    · next hs =>
      cases h
      obtain ⟨rfl, _⟩ := rx.flat ha
      obtain ⟨rfl, _⟩ := ry.flat hb
      exact ⟨hs, q _ H (Kx.refl hB) (.bl _)⟩
    · cases h
  · cases h
theorem Rp0.isNon {K : PySem.W.Frag} {B : List Addr} {H : Hp} {x : V} {d : D} (r : Rp K B H x d) : decide (x = .non) = d.isNon := by
  cases r <;> first | rfl | (simp [D.isNon])
theorem om_is : OpM X (compareOp .Is) D.is := by
  refine ⟨_, op_isTy.or op_isN, fun x y d e z B H Q hB rx ry h q => ?_⟩
  unfold D.is at h
  split at h
  · cases h
    cases rx
    cases ry
    exact .inl ⟨_, _, rfl, rfl, q _ H (Kx.refl hB) (.bl _)⟩
  · cases h
    cases ry
    exact .inr ⟨rfl, by rw [rx.isNon]; exact q _ H (Kx.refl hB) (.bl _)⟩
  · cases h
theorem om_isnt : OpM X (compareOp .IsNot) D.isnt := by
  refine ⟨_, op_isNotTy.or op_notN, fun x y d e z B H Q hB rx ry h q => ?_⟩
  unfold D.isnt at h
  split at h
  · cases h
    cases rx
    cases ry
    exact .inl ⟨_, _, rfl, rfl, q _ H (Kx.refl hB) (.bl _)⟩
  · cases h
    cases ry
    exact .inr ⟨rfl, by rw [rx.isNon]; exact q _ H (Kx.refl hB) (.bl _)⟩
  · cases h
theorem inn_to {neg : Bool} {d e z : D} {x y : V} {B : List Addr} {H : Hp} {Q : VK} (hB : InB B H) (rx : Rp X.K B H x d) (ry : Rp X.K B H y e) (h : D.inn neg d e = some z) (q : ∀ v H', Kx B H H' → Rp X.K B H' v z → Q v H') : rIn X.K neg x y H Q := by
  unfold D.inn at h
  split at h
  · next v ds hx hy =>
    split at h
    · next vs hf =>
      cases h
      obtain ⟨rfl, f1⟩ := rx.flat hx
      obtain ⟨a, xs, rfl, hs, ra⟩ := ry.seq hy
      obtain ⟨rfl, f2⟩ := ra.flats hf
      exact ⟨a, xs, rfl, hs, f1, f2, q _ H (Kx.refl hB) (.bl _)⟩
    · cases h
  · cases h
theorem om_in : OpM X (compareOp .In) (D.inn false) := ⟨_, op_in_seq, fun x y d e z B H Q hB rx ry h q => inn_to hB rx ry h q⟩
theorem om_notin : OpM X (compareOp .NotIn) (D.inn true) := ⟨_, op_notIn_seq, fun x y d e z B H Q hB rx ry h q => inn_to hB rx ry h q⟩
/-! subscripts, slices -/
variable {W : WX} {a b c e : Expr} {es : List Expr} {ma mb mc : Sl → R D} {pos p2 : Pos}
theorem me_ix (ha : ME X W a ma) (hb : ME X W b mb) (hs : PlainIx b := by exact fun _ _ => rfl) : ME X W (.Subscript a b pos) (op2 D.ix ma mb) := by
  obtain ⟨ta, a1, a2⟩ := ha
  obtain ⟨tb, b1, b2⟩ := hb
  refine ⟨_, pe_ix ix_seq a1 b1 hs, EvE.op2 (fun x y d e z B H Q hB rx ry h q => ?_) a2 b2⟩
  unfold D.ix at h
  split at h
  · cases rx
    cases ry
    split at h
    · next hl =>
      split at h
      · next c hc => cases h; exact .inr (.inr ⟨_, _, c, rfl, rfl, line1 hl, hc, q _ H (Kx.refl hB) (.str _)⟩)
      · cases h
    · cases h
  · cases ry
    split at h
    · next ds hi =>
      obtain ⟨p, xs, rfl, hs, ra⟩ := rx.seq hi
      obtain ⟨v, e1, r1⟩ := atI_rp ra h
      rcases hs with hs | hs
      · exact .inl ⟨p, xs, _, v, rfl, rfl, hs, e1, q _ H (Kx.refl hB) r1⟩
      · exact .inr (.inl ⟨p, xs, _, v, rfl, rfl, hs, e1, q _ H (Kx.refl hB) r1⟩)
    · cases h
  · cases h
def noM : Sl → R (Option Int) := fun _ => .ok none
def someM (a : Sl → R D) : Sl → R (Option Int) := fun env => (a env).bind fun x => match x with
  | .int i => .ok (some i)
  | _ => .bad
theorem mo_none : MO X W none noM := ⟨_, po_none, fun env σ B H Q hs h => h none H (Kx.refl hs.inB) rfl⟩
theorem mo_some (ha : ME X W a ma) : MO X W (some a) (someM ma) := by
  obtain ⟨ta, a1, a2⟩ := ha
  refine ⟨_, po_some a1, fun env σ B H Q hs h => a2 env σ B H _ hs (Po.step h fun x _ v H1 e1 r1 h1 => ?_)⟩
  cases r1 with
  | int i => exact ⟨i, rfl, h1 (some i) H1 (Kx.refl e1.inB') rfl⟩
  | _ => exact h1.elim
def slM (a : Sl → R D) (l u : Sl → R (Option Int)) : Sl → R D := fun env => (a env).bind fun x => (l env).bind fun lo => (u env).bind fun hi => R.of (x.sl lo hi)
theorem cut_whole {xs : List V} {lo hi : Option Int} (h : HT.sIx xs.length 0 lo = 0 ∧ HT.sIx xs.length xs.length hi = xs.length) : cutV xs lo hi = xs := by
  unfold cutV
  rw [h.1, h.2]
  simp
theorem cut_wholeD {xs : List D} {lo hi : Option Int} (h : HT.sIx xs.length 0 lo = 0 ∧ HT.sIx xs.length xs.length hi = xs.length) : cutD xs lo hi = xs := by
  unfold cutD
  rw [h.1, h.2]
  simp
theorem me_sl {lo hi : Option Expr} {ml mh : Sl → R (Option Int)} (ha : ME X W a ma) (hl : MO X W lo ml) (hh : MO X W hi mh) : ME X W (.Subscript a (.Slice lo hi none p2) pos) (slM ma ml mh) := by
  obtain ⟨ta, a1, a2⟩ := ha
  obtain ⟨tl, l1, l2⟩ := hl
  obtain ⟨th, h1, h2⟩ := hh
  refine ⟨_, pe_slice (sl_list.or (sl_tupA.or sl_str)) a1 l1 h1, fun env σ B H Q hs h => a2 env σ B H _ hs (Po.step h fun x _ v H1 e1 r1 q1 => l2 env σ B H1 _ (hs.mono e1) (Po.step q1 fun y _ u H2 e2 r2 q2 => h2 env σ B H2 _ ((hs.mono e1).mono e2) (Po.step q2 fun z _ w H3 e3 r3 q3 => ?_)))⟩
  have eu : u = y := r2
  have ew : w = z := r3
  subst eu ew
  have rx := r1.mv (e2.trans e3)
  cases hz : x.sl u w with
  | none => rw [hz] at q3; exact q3.elim
  | some d =>
    rw [hz] at q3
    have q : ∀ v H', Kx B H3 H' → Rp X.K B H' v d → Q v H' := q3
    cases rx with
    | str z =>
      simp only [D.sl] at hz
      split at hz
      · next hl => cases hz; exact .inr (.inr ⟨z, rfl, line1 hl, q _ H3 (Kx.refl e3.inB') (.str _)⟩)
      · cases hz
    | lst hp rp => cases hz; exact .inl ⟨_, _, rfl, sq_of (hid_some hp), fun p hp => q _ _ (Kx.new e3.inB' hp) (.lst (hid_new e3.inB' hp) ((cut_rp rp).mv (Kx.new e3.inB' hp)))⟩
    | klst hp rp => cases hz; exact .inl ⟨_, _, rfl, ex_l (hid_ex B H3) hp, fun p hp => q _ _ (Kx.new e3.inB' hp) (.lst (hid_new e3.inB' hp) ((cut_rp rp).mv (Kx.new e3.inB' hp)))⟩
    | tup hp rp =>
      cases hz
      refine .inr (.inl ⟨_, _, rfl, st_of (hid_some hp), fun hw => ?_, fun hw p hp => q _ _ (Kx.new e3.inB' hp) (.tup (hid_new e3.inB' hp) ((cut_rp rp).mv (Kx.new e3.inB' hp)))⟩)
      rw [rp.length] at hw
      rw [cut_wholeD hw] at q
      exact q _ H3 (Kx.refl e3.inB') (.tup hp rp)
    | _ => cases hz
/-! calls of built-ins -/
def CbM (X : Cx) (f : Value) (g : List D → Option D) : Prop :=
  ∃ r, CallR X f r ∧ ∀ (vs : List V) (ds : List D) (z : D) (B : List Addr) (H : Hp) (Q : VK), InB B H → RpA X.K B H vs ds → g ds = some z → (∀ v H', Kx B H H' → Rp X.K B H' v z → Q v H') → r vs H Q
def cbM (g : List D → Option D) (a : Sl → R (List D)) : Sl → R D := fun env => (a env).bind fun ds => R.of (g ds)
theorem EvE.cb {K : PySem.W.Frag} {mg : Str → Option Value} {g : List D → Option D} {r : List V → Hp → VK → Prop} {ta : TA} {m : Sl → R (List D)} (hr : ∀ (vs : List V) (ds : List D) (z : D) (B : List Addr) (H : Hp) (Q : VK), InB B H → RpA K B H vs ds → g ds = some z → (∀ v H', Kx B H H' → Rp K B H' v z → Q v H') → r vs H Q)
    (ha : EvAs K mg W ta m) : EvE K mg W (tCB r ta) (cbM g m) := fun env σ B H Q hs h => by
  refine ha env σ B H _ hs (Po.step h fun ds _ vs H1 e1 r1 h1 => ?_)
  cases hg : g ds with
  | none => rw [hg] at h1; exact h1.elim
  | some z =>
    rw [hg] at h1
    exact hr vs ds z B H1 Q e1.inB' r1 hg h1
theorem me_cb {x : Str} {p : Pos} {id : String} {g : List D → Option D} {m : Sl → R (List D)} (hc : CbM X (.builtin id) g) (hg : Gl X x) (hm : X.mg x = none) (hv : bootBuiltins x = some (.builtin id)) (ha : MA X W (e :: es) m) (hn : x ≠ "__name__" := by decide) (hdb : (x == ("__debug__" : Str)) = false := by decide)
    (he : starEach (e :: es) X.env = (false, eval e X.env) :: starEach es X.env := by rfl) (hpl : (backTo pos (starEach es X.env)).any (·.1) = false := by rfl) : ME X W (.Call (.Name x p) (e :: es) [] pos) (cbM g m) := by
  obtain ⟨r, h1, h2⟩ := hc
  obtain ⟨ta, a1, a2⟩ := ha
  exact ⟨_, pe_callB h1 hg hm hv a1 hn hdb he hpl, EvE.cb h2 a2⟩
theorem me_cty {x : Str} {p : Pos} {id : String} {g : List D → Option D} {m : Sl → R (List D)} (hc : CbM X (.type id) g) (hg : Gl X x) (hm : X.mg x = none) (hv : bootBuiltins x = some (.type id)) (ha : MA X W (e :: es) m) (hn : x ≠ "__name__" := by decide) (hdb : (x == ("__debug__" : Str)) = false := by decide)
    (he : starEach (e :: es) X.env = (false, eval e X.env) :: starEach es X.env := by rfl) (hpl : (backTo pos (starEach es X.env)).any (·.1) = false := by rfl) : ME X W (.Call (.Name x p) (e :: es) [] pos) (cbM g m) := by
  obtain ⟨r, h1, h2⟩ := hc
  obtain ⟨ta, a1, a2⟩ := ha
  exact ⟨_, pe_callTy h1 hg hm hv a1 hn hdb he hpl, EvE.cb h2 a2⟩
def bLen : List D → Option D
  | [.str z] => if z.length ≤ 100000 then some (.int z.length) else none
  | [d] => match d.items with
    | some ds => some (.int ds.length)
    | none => none
  | _ => none
def bIsi : List D → Option D
  | [d, .ty T] => match d.tyM with
    | some n => match kitB n T with
      | some b => some (.bl b)
      | none => none
    | none => none
  | _ => none
def bType : List D → Option D
  | [d] => match d.tyN with
    | some n => some (.ty n)
    | none => none
  | _ => none
def bInt : List D → Option D
  | [.int i] => some (.int i)
  | [.bl b] => some (.int (if b then 1 else 0))
  | _ => none
def intsOf : List D → Option (List Int)
  | [] => some []
  | .int i :: r => match intsOf r with
    | some is => some (i :: is)
    | none => none
  | _ => none
def blsOf : List D → Option (List Bool)
  | [] => some []
  | .bl i :: r => match blsOf r with
    | some is => some (i :: is)
    | none => none
  | _ => none
def strsOf : List D → Option (List Str)
  | [] => some []
  | .str i :: r => match strsOf r with
    | some is => some (i :: is)
    | none => none
  | _ => none
def maxI : List Int → Int
  | [] => 0
  | [a] => a
  | a :: b :: r => max a (maxI (b :: r))
def bMax : List D → Option D
  | [d] => match d with
    | .lst ds => match intsOf ds with
      | some (i :: is) => some (.int (maxI (i :: is)))
      | _ => none
    | _ => none
  | _ => none
def bAll : List D → Option D
  | [.lst ds] => match blsOf ds with
    | some bs => some (.bl (bs.all id))
    | none => none
  | _ => none
theorem intsOf_eq : ∀ {ds : List D} {is : List Int}, intsOf ds = some is → ds = is.map D.int
  | [], is, h => by cases h; rfl
  | d :: r, is, h => by
    cases d with
    | int i =>
      simp only [intsOf] at h
      split at h
      · next js hj => cases h; rw [intsOf_eq hj]; rfl
      · cases h
    | _ => cases h
theorem blsOf_eq : ∀ {ds : List D} {is : List Bool}, blsOf ds = some is → ds = is.map D.bl
  | [], is, h => by cases h; rfl
  | d :: r, is, h => by
    cases d with
    | bl i =>
      simp only [blsOf] at h
      split at h
      · next js hj => cases h; rw [blsOf_eq hj]; rfl
      · cases h
    | _ => cases h
theorem strsOf_eq : ∀ {ds : List D} {is : List Str}, strsOf ds = some is → ds = is.map D.str
  | [], is, h => by cases h; rfl
  | d :: r, is, h => by
    cases d with
    | str i =>
      simp only [strsOf] at h
      split at h
      · next js hj => cases h; rw [strsOf_eq hj]; rfl
      · cases h
    | _ => cases h
section
variable {K : PySem.W.Frag} {B : List Addr} {H : Hp}
theorem RpA0.intsV : ∀ {ns : List Int} {xs : List V}, RpA K B H xs (ns.map D.int) → xs = ns.map V.int
  | [], _, .nil => rfl
  | n :: r, _, .cons (.int _) t => by rw [RpA0.intsV t]; rfl
theorem RpA0.blsV : ∀ {ns : List Bool} {xs : List V}, RpA K B H xs (ns.map D.bl) → xs = ns.map V.bl
  | [], _, .nil => rfl
  | n :: r, _, .cons (.bl _) t => by rw [RpA0.blsV t]; rfl
theorem RpA0.strsV : ∀ {ns : List Str} {xs : List V}, RpA K B H xs (ns.map D.str) → xs = ns.map V.str
  | [], _, .nil => rfl
  | n :: r, _, .cons (.str _) t => by rw [RpA0.strsV t]; rfl
end
theorem maxI_mem : ∀ (l : List Int), l ≠ [] → maxI l ∈ l ∧ ∀ y ∈ l, y ≤ maxI l
  | [a], _ => ⟨by simp [maxI], by simp [maxI]⟩
  | a :: b :: r, _ => by
    obtain ⟨h1, h2⟩ := maxI_mem (b :: r) (by simp)
    simp only [maxI]
    refine ⟨?_, fun y hy => ?_⟩
    · rcases Int.le_total a (maxI (b :: r)) with h | h
      · rw [Int.max_eq_right h]; exact List.mem_cons_of_mem _ h1
      · rw [Int.max_eq_left h]; exact List.mem_cons_self
    · rcases List.mem_cons.mp hy with rfl | hy
      · exact Int.le_max_left _ _
      · exact Int.le_trans (h2 y hy) (Int.le_max_right _ _)
theorem cb_len : CbM X (.builtin "len") bLen := by
  refine ⟨_, call_len, fun vs ds z B H Q hB r h q => ?_⟩
  unfold bLen at h
  split at h
  · cases r with
    | cons r1 r2 =>
      cases r2
      cases r1
      split at h
      · next hl => cases h; exact ⟨_, _, rfl, ⟨line1 hl, rfl⟩, q _ H (Kx.refl hB) (.int _)⟩
      · cases h
  · cases r with
    | cons r1 r2 =>
      cases r2
      split at h
      · next ds hd =>
        cases h
        obtain ⟨p, xs, rfl, hs, ra⟩ := r1.seq hd
        refine ⟨_, ds.length, rfl, ?_, q _ H (Kx.refl hB) (.int _)⟩
        rw [← ra.length]
        rcases hs with hs | hs
        · exact .inl ⟨xs, hs, rfl⟩
        · exact .inr ⟨xs, hs, rfl⟩
      · cases h
  · cases h
theorem cb_isi : CbM X (.builtin "isinstance") bIsi := by
  refine ⟨_, call_isi, fun vs ds z B H Q hB r h q => ?_⟩
  unfold bIsi at h
  split at h
  · cases r with
    | cons r1 r2 =>
      cases r2 with
      | cons r3 r4 =>
        cases r4
        cases r3
        split at h
        · next n hn =>
          split at h
          · next k hk => cases h; exact ⟨_, _, _, _, k, rfl, .ty _, r1.tyM hn, kit_ty hk, q _ H (Kx.refl hB) (.bl _)⟩
          · cases h
        · cases h
  · cases h
theorem rl_tyN (pins : List (Addr × Obj)) (s : Shared) (σ : L2.St) (H : Hp) (x : V) (v : Value) (Q : VK) (I : Inv X pins σ H s) (r : RelV x v) (h : ∃ n, tyNV x H = some n ∧ Q (.ty n) H) :
    wpAny (model X.prog X.w) X.A (call (.type "type") [v]) (EP X pins σ Q) X.xe s := by
  obtain ⟨n, e, q⟩ := h
  have base : zTyV x H = some n → wpAny (model X.prog X.w) X.A (call (.type "type") [v]) (EP X pins σ Q) X.xe s := fun e2 => rl_type pins s σ H x v Q I r ⟨n, e2, q⟩
  cases x with
  | ref p =>
    cases (show v = Value.ref p from r)
    unfold tyNV at e
    cases ho : H p with
    | none => exact base (by simp only [ho] at e; exact e)
    | some o =>
      cases o with
      | dK kvs =>
        simp only [ho] at e
        cases e
        have fin : EP X pins σ Q (.type "dict") s := ⟨.ty "dict", H, I, rfl, q⟩
        obtain ⟨_, _, vs, _, q1⟩ := (show ObjOk X.prog X.w H s.heap p (.dK kvs) from I.hok p _ ho)
        obtain ⟨ob, es, ep, h1, h2, _⟩ := q1
        exact call_type_of (Tx := "dict") ⟨ob, h1, h2.1⟩ (by decide +kernel) fin
      | _ => exact base (by simp only [ho] at e; exact e)
  | _ => exact base e
theorem cb_type : CbM X (.type "type") bType := by
  refine ⟨_, call_r1 rl_tyN, fun vs ds z B H Q hB r h q => ?_⟩
  unfold bType at h
  split at h
  · cases r with
    | cons r1 r2 =>
      cases r2
      split at h
      · next n hn => cases h; exact ⟨n, (r1.tyX hn).2, q _ H (Kx.refl hB) (.ty _)⟩
      · cases h
  · cases h
theorem cb_int : CbM X (.type "int") bInt := by
  refine ⟨_, call_int1, fun vs ds z B H Q hB r h q => ?_⟩
  unfold bInt at h
  split at h
  · cases r with
    | cons r1 r2 => cases r2; cases r1; cases h; exact .inl ⟨_, rfl, q _ H (Kx.refl hB) (.int _)⟩
  · cases r with
    | cons r1 r2 => cases r2; cases r1; cases h; exact .inr ⟨_, rfl, q _ H (Kx.refl hB) (.int _)⟩
  · cases h
theorem cb_max (hc : X.calm = true) : CbM X (.builtin "max") bMax := by
  refine ⟨_, cr_max hc, fun vs ds z B H Q hB r h q => ?_⟩
  unfold bMax at h
  split at h
  · cases r with
    | cons r1 r2 =>
      cases r2
      cases r1 with
      | lst hp ra =>
        simp only at h
        split at h
        · next i is hi =>
          cases h
          rw [intsOf_eq hi] at ra
          have e := RpA0.intsV ra
          subst e
          refine ⟨_, i :: is, rfl, sq_of (hid_some hp), by simp, fun m h1 h2 => ?_⟩
          obtain ⟨g1, g2⟩ := maxI_mem (i :: is) (by simp)
          have e : m = maxI (i :: is) := Int.le_antisymm (g2 m h1) (h2 _ g1)
          subst e
          exact q _ H (Kx.refl hB) (.int _)
        · cases h
      | _ => cases h
  · cases h
theorem cb_all (hc : X.calm = true) : CbM X (.builtin "all") bAll := by
  refine ⟨_, cr_all hc, fun vs ds z B H Q hB r h q => ?_⟩
  unfold bAll at h
  split at h
  · cases r with
    | cons r1 r2 =>
      cases r2
      cases r1 with
      | lst hp ra =>
        split at h
        · next bs hb =>
          cases h
          rw [blsOf_eq hb] at ra
          have e := RpA0.blsV ra
          subst e
          exact ⟨_, bs, rfl, sq_of (hid_some hp), q _ H (Kx.refl hB) (.bl _)⟩
        · cases h
  · cases h
/-- s.join(xs) -/
def D.join : D → D → Option D
  | .str a, .lst ds => match strsOf ds with
    | some ys => if (ys.map (·.length)).sum + ys.length * a.length ≤ 16777216 then some (.str (Txt.join a ys)) else none
    | none => none
  | _, _ => none
end
end Ask
namespace Ask
open PySem L2 Evl
section
variable {X : Cx} {W : WX} {a b c e : Expr} {es : List Expr} {ma mb mc : Sl → R D} {pos p2 : Pos}
theorem EvE.okk {K : PySem.W.Frag} {mg : Str → Option Value} {te : TE} {m : Sl → R D} {env : Sl} {σ : L2.St} {B : List Addr} {H : Hp} {Q : VK} {d : D} (ha : EvE K mg W te m) (hs : RS K B H σ env) (hm : m env = .ok d) (k : ∀ v H1, Kx B H H1 → Rp K B H1 v d → Q v H1) : te σ H Q :=
  ha env σ B H Q hs (by rw [hm]; exact k)
/-! ### the rest of the expressions -/
def ifM (t : Sl → R Bool) (a b : Sl → R D) : Sl → R D := fun env => (t env).bind fun x => if x = true then a env else b env
theorem me_if {m : Sl → R Bool} (hc : MT X W c m) (ha : ME X W a ma) (hb : ME X W b mb) : ME X W (.IfExp c a b pos) (ifM m ma mb) := by
  obtain ⟨t, h1, h2⟩ := hc
  obtain ⟨ta, a1, a2⟩ := ha
  obtain ⟨tb, b1, b2⟩ := hb
  refine ⟨_, pe_ifExp h1 a1 b1, fun env σ B H Q hs h => h2 env σ B H _ hs (Po.step h fun x _ v H1 e1 r1 q => ?_)⟩
  have ev : v = x := r1
  subst ev
  cases v with
  | true => exact iteT (a2 env σ B H1 Q (hs.mono e1) q)
  | false => exact iteF (b2 env σ B H1 Q (hs.mono e1) q)
/-- a < b < c -/
def chM (g g' : D → D → Option D) (a b c : Sl → R D) : Sl → R D := fun env => (a env).bind fun x => (b env).bind fun y => (R.of (g x y)).bind fun z => match z with
  | .bl k => if k = true then (c env).bind fun w => R.of (g' y w) else .ok (.bl false)
  | _ => .bad
theorem EvE.chain {K : PySem.W.Frag} {mg : Str → Option Value} {g g' : D → D → Option D} {r r' : R2} {ta tb tc : TE} (h2 : ∀ (x y : V) (d e z : D) (B : List Addr) (H : Hp) (Q : VK), InB B H → Rp K B H x d → Rp K B H y e → g d e = some z → (∀ v H', Kx B H H' → Rp K B H' v z → Q v H') → r x y H Q)
    (k2 : ∀ (x y : V) (d e z : D) (B : List Addr) (H : Hp) (Q : VK), InB B H → Rp K B H x d → Rp K B H y e → g' d e = some z → (∀ v H', Kx B H H' → Rp K B H' v z → Q v H') → r' x y H Q)
    (a2 : EvE K mg W ta ma) (b2 : EvE K mg W tb mb) (c2 : EvE K mg W tc mc) : EvE K mg W (tChain r r' ta tb tc) (chM g g' ma mb mc) := fun env σ B H Q hs h => by
  refine a2 env σ B H _ hs (Po.step h fun x _ v H1 e1 r1 q => b2 env σ B H1 _ (hs.mono e1) (Po.step q fun y _ u H2 e2 r2 q2 => ?_))
  cases hz : g x y with
  | none => rw [hz] at q2; exact q2.elim
  | some z =>
    rw [hz] at q2
    refine h2 v u x y z B H2 _ e2.inB' (r1.mv e2) r2 hz fun w H3 e3 r3 => ?_
    have q3 := Po.mono e3 q2
    cases r3 with
    | bl k =>
      refine ⟨k, rfl, ?_⟩
      cases k with
      | true =>
        refine iteT (c2 env σ B H3 _ (((hs.mono e1).mono e2).mono e3) (Po.step (show Po (Rp K) mg W σ B H3 Q ((mc env).bind fun w => R.of (g' y w)) from q3) fun z' _ w' H4 e4 r4 q4 => ?_))
        cases hz' : g' y z' with
        | none => rw [hz'] at q4; exact q4.elim
        | some z2 =>
          rw [hz'] at q4
          exact k2 u w' y z' z2 B H4 Q e4.inB' ((r2.mv e3).mv e4) r4 hz' q4
      | false => exact iteF (q3 (.bl false) H3 (Kx.refl e3.inB') (.bl false))
    | _ => exact q3.elim
theorem me_chain {op op' : CmpOp} {g g' : D → D → Option D} (ho : OpM X (compareOp op) g) (ho' : OpM X (compareOp op') g') (ha : ME X W a ma) (hb : ME X W b mb) (hc : ME X W c mc) (hm : lastMarks [op, op'] [b, c] = false := by with_unfolding_all rfl) :
    ME X W (.Compare a [op, op'] [b, c] pos) (chM g g' ma mb mc) := by
  obtain ⟨r, h1, h2⟩ := ho
  obtain ⟨r', k1, k2⟩ := ho'
  obtain ⟨ta, a1, a2⟩ := ha
  obtain ⟨tb, b1, b2⟩ := hb
  obtain ⟨tc, c1, c2⟩ := hc
  exact ⟨_, pe_chain h1 k1 a1 b1 c1 hm, EvE.chain h2 k2 a2 b2 c2⟩
/-- s.join(xs) -/
def joinM (a b : Sl → R D) : Sl → R D := fun env => (a env).bind fun x => match x with
  | .str s => (b env).bind fun y => R.of (D.join (.str s) y)
  | _ => .bad
theorem me_join {o : Expr} {apos : Pos} (ho : ME X W o ma) (he : ME X W e mb) (hs : starEach [e] X.env = [(false, eval e X.env)] := by rfl) (hbase : attributeBase o "join" X.env (eval o X.env) = eval o X.env := by rfl) (hline : (apos.endLine == pos.line) = true := by rfl) :
    ME X W (.Call (.Attribute o "join" apos) [e] [] pos) (joinM ma mb) := by
  obtain ⟨ta, a1, a2⟩ := ho
  obtain ⟨tb, b1, b2⟩ := he
  refine ⟨_, pe_join a1 b1 hs hbase hline, fun env σ B H Q hs h => a2 env σ B H _ hs (Po.step h fun x hx v H1 e1 r1 q => ?_)⟩
  cases r1 with
  | str s =>
    refine ⟨⟨s, rfl⟩, b2 env σ B H1 _ (hs.mono e1) (Po.step q fun y hy u H2 e2 r2 q2 => ?_)⟩
    cases hz : D.join (.str s) y with
    | none => rw [hz] at q2; exact q2.elim
    | some z =>
      rw [hz] at q2
      unfold D.join at hz
      split at hz
      · next s' ds hs' =>
        cases hs'
        split at hz
        · next ys hy =>
          split at hz
          · next hl =>
            cases hz
            cases r2 with
            | lst hp ra =>
              rw [strsOf_eq hy] at ra
              have ev := RpA0.strsV ra
              subst ev
              exact ⟨s, _, ys, rfl, rfl, .inl (sq_of (hid_some hp)), hl, q2 _ H2 (Kx.refl e2.inB') (.str _)⟩
          · cases hz
        · cases hz
      · cases hz
  | _ => exact q.elim
/-! own defs -/
def spM (K : PySem.W.Frag) (mg : Str → Option Value) (n : Nat) (m : List D → R D) : Sp := fun vs H Q E => ∃ (B : List Addr) (ds : List D), InB B H ∧ ds.length = n ∧ RpA K B H vs ds ∧ Po (Rp K) mg (fun cls d _ H' => E cls d H') [] B H Q (m ds)
/-- the def at the module's name x is the function m of its n arguments -/
def FnI (P : Program) (w : World) (K : PySem.W.Frag) (mg : Str → Option Value) (base : Heap) (x : Str) (k n : Nat) (m : List D → R D) : Prop :=
  ∃ (f : Addr) (fd : FuncData) (ps : List Str), ps.length = n ∧ mg x = some (.ref f) ∧ PySem.W.keepIn K (.ref f) = true ∧ Binds K fd ps [] ∧ FnOk P w K mg base (L2.CX P w) k f fd ps (spM K mg n m)
theorem FnI.mono {P : Program} {w : World} {K : PySem.W.Frag} {mg : Str → Option Value} {base : Heap} {x : Str} {j k n : Nat} {m : List D → R D} (F : FnI P w K mg base x j n m) (h : j ≤ k) : FnI P w K mg base x k n m := by
  obtain ⟨f, fd, ps, hl, h1, h2, h3, h4⟩ := F
  exact ⟨f, fd, ps, hl, h1, h2, h3, h4.mono h⟩
def PassW (X : Cx) (W : WX) : Prop := ∀ σ, PassesAt (L2.CX X.prog X.w) X σ (WE W σ)
theorem passW_of {W : WX} (tk : Takes X W) : PassW X W := fun σ => passAt tk σ
theorem passW0 : PassW X (fun _ _ _ _ => False) := fun σ => passAt takes0 σ
def callM (n : Nat) (m : List D → R D) (a : Sl → R (List D)) : Sl → R D := fun env => (a env).bind fun ds => if ds.length = n then m ds else .bad
theorem me_call {x : Str} {p : Pos} {k n : Nat} {m : List D → R D} {mr : Sl → R (List D)} (F : FnI X.prog X.w X.K X.mg X.base x k n m) (hr : Room k X.A) (hw : PassW X W) (hg : Gl X x)
    (ha : MA X W (e :: es) mr) (hdb : (x == ("__debug__" : Str)) = false := by decide) (he : starEach (e :: es) X.env = (false, eval e X.env) :: starEach es X.env := by rfl) (hpl : (backTo pos (starEach es X.env)).any (·.1) = false := by rfl) :
    ME X W (.Call (.Name x p) (e :: es) [] pos) (callM n m mr) := by
  obtain ⟨f, fd, ps, hl, hm, hk, hb, G⟩ := F
  obtain ⟨ta, a1, a2⟩ := ha
  refine ⟨_, pe_callS G hr hg hm hk hb hw a1 hdb he hpl, fun env σ B H Q hs h => a2 env σ B H _ hs (Po.step h fun ds _ vs H1 e1 r1 q => ?_)⟩
  by_cases hn : ds.length = n
  · rw [if_pos hn] at q
    refine ⟨B, ds, e1.inB', hn, r1, ?_⟩
    cases hm2 : m ds with
    | ok d => rw [hm2] at q; exact q
    | err c => rw [hm2] at q; exact q
    | bad => rw [hm2] at q; exact q
  · rw [if_neg hn] at q
    exact q.elim
/-! ### what is walked -/
structure Ky (B : List Addr) (H : Hp) (B' : List Addr) (H' : Hp) : Prop where
  hid : Ex (hid B H) (hid B' H')
  inB' : InB B' H'
theorem Rp0.my {K : PySem.W.Frag} {B B' : List Addr} {H H' : Hp} {v : V} {d : D} (r : Rp K B H v d) (e : Ky B H B' H') : Rp K B' H' v d := r.mono e.hid
theorem RpA0.my {K : PySem.W.Frag} {B B' : List Addr} {H H' : Hp} {v : List V} {d : List D} (r : RpA K B H v d) (e : Ky B H B' H') : RpA K B' H' v d := r.mono e.hid
theorem RS.my {K : PySem.W.Frag} {B B' : List Addr} {H H' : Hp} {σ : L2.St} {env : Sl} (h : RS K B H σ env) (e : Ky B H B' H') : RS K B' H' σ env := ⟨e.inB', h.len, fun i d q => let ⟨v, a, b⟩ := h.get i d q; ⟨v, a, b.my e⟩⟩
def Walks (K : PySem.W.Frag) (B : List Addr) (H : Hp) (J : It) (ds : List D) : Prop := ∀ B' H2, Ky B H B' H2 → (∀ i, i < ds.length → J.go i H2 ∧ ∀ x H3, J.yld i H2 x H3 → Kx B' H2 H3 ∧ ∃ d, ds[i]? = some d ∧ Rp K B' H3 x d) ∧ J.stop ds.length H2
def EvI (K : PySem.W.Frag) (mg : Str → Option Value) (W : WX) (wi : TI) (m : Sl → R (List D)) : Prop := ∀ (env : Sl) (σ : L2.St) (B : List Addr) (H : Hp) (Q : It → Hp → Prop), RS K B H σ env → Po (Walks K) mg W σ B H Q (m env) → wi σ H Q
def MI (X : Cx) (W : WX) (tg iter : Expr) (m : Sl → R (List D)) : Prop := ∃ wi, PI X tg iter wi ∧ EvI X.K X.mg W wi m
theorem walks_list {K : PySem.W.Frag} {B : List Addr} {H : Hp} {p : Addr} {xs : List V} {ds : List D} (h : SqL K (hid B H) p xs) (r : RpA K B H xs ds) : Walks K B H (Itl K p) ds := fun B' H2 e => by
  refine ⟨fun i hi => ?_, xs, (ex_l (hid_ex B' H2) (ex_l e.hid h)), by rw [r.length]; exact Nat.le_refl _⟩
  obtain ⟨d, hd⟩ : ∃ d, ds[i]? = some d := ⟨ds[i], List.getElem?_eq_getElem hi⟩
  obtain ⟨v, hv, rv⟩ := r.get hd
  refine ⟨⟨xs, v, (ex_l (hid_ex B' H2) (ex_l e.hid h)), hv⟩, fun x H3 hy => ?_⟩
  obtain ⟨e3, hy⟩ := hy
  subst e3
  have hx := hy xs ((ex_l (hid_ex B' _) (ex_l e.hid h)))
  rw [hv] at hx
  cases hx
  exact ⟨Kx.refl e.inB', d, hd, rv.my e⟩
theorem walks_tup {K : PySem.W.Frag} {B : List Addr} {H : Hp} {p : Addr} {xs : List V} {ds : List D} (h : SqT K (hid B H) p xs) (r : RpA K B H xs ds) : Walks K B H (Itt K p) ds := fun B' H2 e => by
  refine ⟨fun i hi => ?_, xs, (ex_t (hid_ex B' H2) (ex_t e.hid h)), by rw [r.length]; exact Nat.le_refl _⟩
  obtain ⟨d, hd⟩ : ∃ d, ds[i]? = some d := ⟨ds[i], List.getElem?_eq_getElem hi⟩
  obtain ⟨v, hv, rv⟩ := r.get hd
  refine ⟨⟨xs, v, (ex_t (hid_ex B' H2) (ex_t e.hid h)), hv⟩, fun x H3 hy => ?_⟩
  obtain ⟨e3, hy⟩ := hy
  subst e3
  have hx := hy xs ((ex_t (hid_ex B' _) (ex_t e.hid h)))
  rw [hv] at hx
  cases hx
  exact ⟨Kx.refl e.inB', d, hd, rv.my e⟩
def signs (z : Str) : List D := z.cps.toList.map fun c => .str ⟨#[c]⟩
theorem walks_str {K : PySem.W.Frag} {B : List Addr} {H : Hp} {z : Str} : Walks K B H (Its z) (signs z) := fun B' H2 e => by
  have hl : (signs z).length = z.cps.size := by unfold signs; rw [List.length_map, Array.length_toList]
  refine ⟨fun i hi => ⟨by rw [hl] at hi; exact hi, fun x H3 hy => ?_⟩, by rw [hl]; exact Nat.le_refl _⟩
  obtain ⟨e3, c, hc, ex⟩ := hy
  subst e3 ex
  refine ⟨Kx.refl e.inB', _, ?_, .str _⟩
  unfold signs
  rw [List.getElem?_map, Array.getElem?_toList, hc]
  rfl
def rangeD (lo : Int) (n : Nat) : List D := (List.range n).map fun (i : Nat) => D.int (lo + (i : Int))
theorem walks_range {K : PySem.W.Frag} {B : List Addr} {H : Hp} {lo : Int} {n : Nat} : Walks K B H (Itr lo n) (rangeD lo n) := fun B' H2 e => by
  have hl : (rangeD lo n).length = n := by unfold rangeD; rw [List.length_map, List.length_range]
  refine ⟨fun i hi => ⟨by rw [hl] at hi; exact hi, fun x H3 hy => ?_⟩, by rw [hl]; exact Nat.le_refl _⟩
  obtain ⟨e3, ex⟩ := hy
  subst e3 ex
  rw [hl] at hi
  refine ⟨Kx.refl e.inB', .int (lo + (i : Int)), ?_, .int _⟩
  unfold rangeD
  rw [List.getElem?_map, List.getElem?_range hi]
  rfl
/-- a list, a tuple, a text -/
def itM (a : Sl → R D) : Sl → R (List D) := fun env => (a env).bind fun x => match x with
  | .str z => .ok (signs z)
  | d => match d.items with
    | some ds => .ok ds
    | none => .bad
theorem pi_or {tg iter : Expr} {w1 w2 : TI} (h1 : PI X tg iter w1) (h2 : PI X tg iter w2) : PI X tg iter (fun σ H R => w1 σ H R ∨ w2 σ H R) := ⟨fun pins s σ H R I h => h.elim (fun h => h1.run pins s σ H R I h) fun h => h2.run pins s σ H R I h⟩
theorem mi_any {tg : Expr} (ha : ME X W e ma) : MI X W tg e (itM ma) := by
  obtain ⟨ta, a1, a2⟩ := ha
  refine ⟨_, pi_or (pi_list a1) (pi_or (pi_tup a1) (pi_str a1)), fun env σ B H Q hs h => ?_⟩
  cases hm : ma env with
  | bad => unfold itM at h; rw [hm] at h; exact h.elim
  | err c =>
    unfold itM at h; rw [hm] at h
    exact .inl (a2 env σ B H _ hs (by rw [hm]; exact h))
  | ok d =>
    have h' := h
    unfold itM at h'; rw [hm] at h'
    have go : ∀ {ds : List D}, d.items = some ds → Po (Walks X.K) X.mg W σ B H Q (.ok ds) → iList X.K ta σ H Q ∨ iTup X.K ta σ H Q ∨ iStr ta σ H Q := fun {ds} hd q => by
      cases d with
      | lst ds' =>
        cases hd
        refine .inl (a2.okk hs hm fun v H1 e1 r1 => ?_)
        cases r1 with
        | lst hp ra => exact ⟨_, rfl, ⟨_, sq_of (hid_some hp)⟩, q _ H1 e1 (walks_list (sq_of hp) ra)⟩
      | klst ds' =>
        cases hd
        refine .inl (a2.okk hs hm fun v H1 e1 r1 => ?_)
        cases r1 with
        | klst hp ra => exact ⟨_, rfl, ⟨_, ex_l (hid_ex B H1) hp⟩, q _ H1 e1 (walks_list hp ra)⟩
      | tup ds' =>
        cases hd
        refine .inr (.inl (a2.okk hs hm fun v H1 e1 r1 => ?_))
        cases r1 with
        | tup hp ra => exact ⟨_, rfl, ⟨_, st_of (hid_some hp)⟩, q _ H1 e1 (walks_tup (st_of hp) ra)⟩
      | ktup ds' =>
        cases hd
        refine .inr (.inl (a2.okk hs hm fun v H1 e1 r1 => ?_))
        cases r1 with
        | ktup hp ra => exact ⟨_, rfl, ⟨_, ex_t (hid_ex B H1) hp⟩, q _ H1 e1 (walks_tup hp ra)⟩
      | _ => cases hd
    cases d with
    | str z =>
      refine .inr (.inr (a2.okk hs hm fun v H1 e1 r1 => ?_))
      cases r1
      exact ⟨z, rfl, h' _ H1 e1 walks_str⟩
    | lst ds => exact go rfl h'
    | klst ds => exact go rfl h'
    | tup ds => exact go rfl h'
    | ktup ds => exact go rfl h'
    | _ => exact h'.elim
def rngM (a : Sl → R (List D)) : Sl → R (List D) := fun env => (a env).bind fun xs => match xs with
  | [.int n] => if -10000000 ≤ n ∧ n ≤ 10000000 then .ok (rangeD 0 n.toNat) else .bad
  | _ => .bad
theorem mi_range {tg : Expr} {p : Pos} {m : Sl → R (List D)} (hg : Gl X "range") (hm : X.mg "range" = none) (ha : MA X W [a] m) (hs : starEach [a] X.env = [(false, eval a X.env)] := by rfl) : MI X W tg (.Call (.Name "range" p) [a] [] pos) (rngM m) := by
  obtain ⟨ta, a1, a2⟩ := ha
  refine ⟨_, pi_range1 hg hm a1 hs, fun env σ B H Q hs h => a2 env σ B H _ hs (Po.step h fun ds _ vs H1 e1 r1 q => ?_)⟩
  split at q
  · split at q
    · next n hn =>
      cases r1 with
      | cons r2 r3 =>
        cases r3
        cases r2
        exact ⟨_, rfl, by omega, by omega, q _ H1 (Kx.refl e1.inB') walks_range⟩
    · exact q.elim
  · exact q.elim
/-- pairs of the items of two tuples, or of two lists -/
def zipD (a b : List D) : List D := (a.zip b).map fun p => .tup [p.1, p.2]
def isT : D → Bool
  | .tup _ => true
  | .ktup _ => true
  | _ => false
def zipM (a : Sl → R (List D)) : Sl → R (List D) := fun env => (a env).bind fun xs => match xs with
  | [x, y] => match x.items, y.items with
    | some ds, some es => if isT x = isT y then .ok (zipD ds es) else .bad
    | _, _ => .bad
  | _ => .bad
theorem zipD_get {a b : List D} {i : Nat} {x y : D} (h1 : a[i]? = some x) (h2 : b[i]? = some y) : (zipD a b)[i]? = some (.tup [x, y]) := by
  unfold zipD
  have e : (a.zip b)[i]? = some (x, y) := by rw [List.getElem?_zip_eq_some]; exact ⟨h1, h2⟩
  rw [List.getElem?_map, e]
  rfl
theorem zipD_len (a b : List D) : (zipD a b).length = min a.length b.length := by
  unfold zipD
  rw [List.length_map, List.length_zip]
theorem walks_zipT {K : PySem.W.Frag} {B : List Addr} {H : Hp} {p q : Addr} {xs ys : List V} {ds es : List D} (h : SqT K (hid B H) p xs) (k : SqT K (hid B H) q ys) (r : RpA K B H xs ds) (t : RpA K B H ys es) : Walks K B H (RZ.ItzT K p q) (zipD ds es) := fun B' H2 e => by
  refine ⟨fun i hi => ?_, xs, ys, (ex_t (hid_ex B' H2) (ex_t e.hid h)), (ex_t (hid_ex B' H2) (ex_t e.hid k)), ?_⟩
  · rw [zipD_len] at hi
    obtain ⟨d, hd⟩ : ∃ d, ds[i]? = some d := ⟨ds[i], List.getElem?_eq_getElem (by omega)⟩
    obtain ⟨f, hf⟩ : ∃ d, es[i]? = some d := ⟨es[i], List.getElem?_eq_getElem (by omega)⟩
    obtain ⟨v, hv, rv⟩ := r.get hd
    obtain ⟨u, hu, ru⟩ := t.get hf
    refine ⟨⟨xs, ys, v, u, (ex_t (hid_ex B' H2) (ex_t e.hid h)), (ex_t (hid_ex B' H2) (ex_t e.hid k)), hv, hu⟩, fun z H3 hy => ?_⟩
    obtain ⟨T, x, y, ez, hT, e3, hx, hy⟩ := hy
    subst ez e3
    have hx' := hx xs ((ex_t (hid_ex B' H2) (ex_t e.hid h)))
    have hy' := hy ys ((ex_t (hid_ex B' H2) (ex_t e.hid k)))
    rw [hv] at hx'
    rw [hu] at hy'
    cases hx'
    cases hy'
    exact ⟨Kx.new e.inB' hT, _, zipD_get hd hf, .tup (hid_new e.inB' hT) (.cons ((rv.my e).mv (Kx.new e.inB' hT)) (.cons ((ru.my e).mv (Kx.new e.inB' hT)) .nil))⟩
  · rw [zipD_len, ← r.length, ← t.length]
    omega
theorem walks_zipL {K : PySem.W.Frag} {B : List Addr} {H : Hp} {p q : Addr} {xs ys : List V} {ds es : List D} (h : SqL K (hid B H) p xs) (k : SqL K (hid B H) q ys) (r : RpA K B H xs ds) (t : RpA K B H ys es) : Walks K B H (Itz K p q) (zipD ds es) := fun B' H2 e => by
  refine ⟨fun i hi => ?_, xs, ys, (ex_l (hid_ex B' H2) (ex_l e.hid h)), (ex_l (hid_ex B' H2) (ex_l e.hid k)), ?_⟩
  · rw [zipD_len] at hi
    obtain ⟨d, hd⟩ : ∃ d, ds[i]? = some d := ⟨ds[i], List.getElem?_eq_getElem (by omega)⟩
    obtain ⟨f, hf⟩ : ∃ d, es[i]? = some d := ⟨es[i], List.getElem?_eq_getElem (by omega)⟩
    obtain ⟨v, hv, rv⟩ := r.get hd
    obtain ⟨u, hu, ru⟩ := t.get hf
    refine ⟨⟨xs, ys, v, u, (ex_l (hid_ex B' H2) (ex_l e.hid h)), (ex_l (hid_ex B' H2) (ex_l e.hid k)), hv, hu⟩, fun z H3 hy => ?_⟩
    obtain ⟨T, x, y, ez, hT, e3, hx, hy⟩ := hy
    subst ez e3
    have hx' := hx xs ((ex_l (hid_ex B' H2) (ex_l e.hid h)))
    have hy' := hy ys ((ex_l (hid_ex B' H2) (ex_l e.hid k)))
    rw [hv] at hx'
    rw [hu] at hy'
    cases hx'
    cases hy'
    exact ⟨Kx.new e.inB' hT, _, zipD_get hd hf, .tup (hid_new e.inB' hT) (.cons ((rv.my e).mv (Kx.new e.inB' hT)) (.cons ((ru.my e).mv (Kx.new e.inB' hT)) .nil))⟩
  · rw [zipD_len, ← r.length, ← t.length]
    omega
theorem Rp0.seqT {K : PySem.W.Frag} {B : List Addr} {H : Hp} {v : V} {d : D} {ds : List D} (r : Rp K B H v d) (e : d.items = some ds) : ∃ a xs, v = .ref a ∧ RpA K B H xs ds ∧ ((isT d = true ∧ SqT K (hid B H) a xs) ∨ (isT d = false ∧ SqL K (hid B H) a xs)) := by
  cases r with
  | tup h q => cases e; exact ⟨_, _, rfl, q, .inl ⟨rfl, st_of h⟩⟩
  | lst h q => cases e; exact ⟨_, _, rfl, q, .inr ⟨rfl, sq_of h⟩⟩
  | ktup h q => cases e; exact ⟨_, _, rfl, q, .inl ⟨rfl, h⟩⟩
  | klst h q => cases e; exact ⟨_, _, rfl, q, .inr ⟨rfl, h⟩⟩
  | _ => cases e
theorem mi_zip {p tpos : Pos} {e2 : Expr} {elts : List Expr} {kk : Nat} {m : Sl → R (List D)} (hg : Gl X "zip") (hm : X.mg "zip" = none) (ha : MA X W [e, e2] m)
    (hs : starEach [e, e2] X.env = (false, eval e X.env) :: starEach [e2] X.env := by rfl) (hpl : (backTo pos (starEach [e2] X.env)).any (·.1) = false := by rfl) : MI X W (.Tuple elts kk tpos) (.Call (.Name "zip" p) [e, e2] [] pos) (zipM m) := by
  obtain ⟨ta, a1, a2⟩ := ha
  refine ⟨_, RZ.pi_zipA hg hm a1 hs hpl, fun env σ B H Q hs h => a2 env σ B H _ hs (Po.step h fun ds _ vs H1 e1 r1 q => ?_)⟩
  split at q
  · split at q
    · next x y _ _ xs ys hx hy =>
      split at q
      · next hT =>
        cases r1 with
        | cons r2 r3 =>
          cases r3 with
          | cons r4 r5 =>
            cases r5
            obtain ⟨p1, zs1, rfl, ra1, k1⟩ := r2.seqT hx
            obtain ⟨p2, zs2, rfl, ra2, k2⟩ := r4.seqT hy
            refine ⟨p1, p2, zs1, zs2, rfl, ?_⟩
            rcases k1 with ⟨t1, k1⟩ | ⟨t1, k1⟩
            · rcases k2 with ⟨t2, k2⟩ | ⟨t2, k2⟩
              · exact .inr ⟨ex_t (hid_ex B H1) k1, ex_t (hid_ex B H1) k2, q _ H1 (Kx.refl e1.inB') (walks_zipT k1 k2 ra1 ra2)⟩
              · rw [t1, t2] at hT; cases hT
            · rcases k2 with ⟨t2, k2⟩ | ⟨t2, k2⟩
              · rw [t1, t2] at hT; cases hT
              · exact .inl ⟨ex_l (hid_ex B H1) k1, ex_l (hid_ex B H1) k2, q _ H1 (Kx.refl e1.inB') (walks_zipL k1 k2 ra1 ra2)⟩
      · exact q.elim
    · exact q.elim
  · exact q.elim
/-! ### targets -/
def EvG (K : PySem.W.Frag) (g : TG) (m : D → Sl → Option Sl) : Prop := ∀ (env env' : Sl) (σ : L2.St) (B : List Addr) (H : Hp) (v : V) (d : D) (Q : L2.St → Hp → Prop), RS K B H σ env → Rp K B H v d → m d env = some env' → (∀ σ', RS K B H σ' env' → Q σ' H) → g v σ H Q
def MG (X : Cx) (tg : Expr) (m : D → Sl → Option Sl) : Prop := ∃ g, PG X tg g ∧ EvG X.K g m
def tgN (i : Nat) : D → Sl → Option Sl := fun d env => some (env.set i (some d))
theorem mg_name (i : Nat) {x : Str} (hN : X.N.Nodup) (hi : X.N[i]? = some x := by rfl) (hx : Loc X.env.scope x := by first | exact Or.inl rfl | exact Or.inr rfl) (hf : X.fn x = true ∨ X.env.scope.names.lookup x = some .local := by first | exact .inl rfl | exact .inr rfl) : MG X (.Name x pos) (tgN i) :=
  ⟨_, pg_name hN hi hx hf, fun env env' σ B H v d Q hs r h q => by cases h; exact q _ (hs.set r)⟩
def tg2 (a b : D → Sl → Option Sl) : D → Sl → Option Sl := fun d env => match d.items with
  | some [x, y] => if isT d = true then (a x env).bind fun e1 => b y e1 else none
  | _ => none
theorem mg_two {x y : Expr} {k : Nat} {m1 m2 : D → Sl → Option Sl} (hc : X.calm = true) (h1 : MG X x m1) (h2 : MG X y m2) (s1 : (assignEach [x, y] X.env).map (·.2) = assign x X.env :: (assignEach [y] X.env).map (·.2) := by rfl) (s2 : (assignEach [y] X.env).map (·.2) = assign y X.env :: (assignEach [] X.env).map (·.2) := by rfl)
    (hn : (assignEach [x, y] X.env).length = 2 := by rfl) (hst : (assignEach [x, y] X.env).findIdx? (·.1) = none := by rfl) : MG X (.Tuple [x, y] k pos) (tg2 m1 m2) := by
  obtain ⟨g1, a1, a2⟩ := h1
  obtain ⟨g2, b1, b2⟩ := h2
  refine ⟨_, pg_tup hc (pgs_cons a1 (pgs_cons b1 pgs_nil s2) s1) hn hst, fun env env' σ B H v d Q hs r h q => ?_⟩
  unfold tg2 at h
  split at h
  · next x y hd =>
    split at h
    · next hT =>
      obtain ⟨p, xs, rfl, ra, k⟩ := r.seqT hd
      rcases k with ⟨_, k⟩ | ⟨t, _⟩
      · cases ra with
        | cons r1 ra =>
          cases ra with
          | cons r2 ra =>
            cases ra
            cases h1 : m1 x env with
            | none => rw [h1] at h; cases h
            | some e1 =>
              rw [h1] at h
              exact ⟨p, _, rfl, ex_t (hid_ex B H) k, rfl, _, _, rfl, a2 env e1 σ B H _ x _ hs r1 h1 fun σ1 hs1 => ⟨_, _, rfl, b2 e1 env' σ1 B H _ y _ hs1 r2 h fun σ2 hs2 => ⟨rfl, q σ2 hs2⟩⟩⟩
      · rw [t] at hT; cases hT
    · cases h
  · cases h
end
end Ask
namespace Ask
open PySem L2 Evl
section
variable {X : Cx} {W : WX} {a b c e : Expr} {es : List Expr} {ma mb mc : Sl → R D} {pos p2 : Pos}
/-! ### comprehensions -/
def lcGo (b : D → Sl → Option Sl) (t : Sl → R Bool) (el : Sl → R D) (env : Sl) : List D → R (List D)
  | [] => .ok []
  | d :: ds => match b d env with
    | none => .bad
    | some e1 => (t e1).bind fun k => if k = true then (el e1).bind fun y => (lcGo b t el env ds).bind fun ys => .ok (y :: ys) else lcGo b t el env ds
def lcM (it : Sl → R (List D)) (vs : List Nat) (b : D → Sl → Option Sl) (t : Sl → R Bool) (el : Sl → R D) : Sl → R D := fun env => (it env).bind fun ds => if ds.length ≤ 8000000 then match lcGo b t el (wipeE env vs) ds with
  | .ok ys => .ok (.lst ys)
  | _ => .bad else .bad
def yesM : Sl → R Bool := fun _ => .ok true
theorem lcGo_len {b : D → Sl → Option Sl} {t : Sl → R Bool} {el : Sl → R D} {env : Sl} : ∀ {ds ys : List D}, lcGo b t el env ds = .ok ys → ys.length ≤ ds.length
  | [], ys, h => by cases h; exact Nat.le_refl _
  | d :: ds, ys, h => by
    simp only [lcGo] at h
    cases h1 : b d env with
    | none => rw [h1] at h; cases h
    | some e1 =>
      rw [h1] at h
      simp only at h
      cases h2 : t e1 with
      | ok k =>
        rw [h2] at h
        simp only [R.bind] at h
        cases k with
        | true =>
          simp only [if_true] at h
          cases h3 : el e1 with
          | ok y =>
            rw [h3] at h
            simp only at h
            cases h4 : lcGo b t el env ds with
            | ok zs =>
              rw [h4] at h
              cases h
              have := lcGo_len h4
              simp only [List.length_cons]
              omega
            | err c => rw [h4] at h; cases h
            | bad => rw [h4] at h; cases h
          | err c => rw [h3] at h; cases h
          | bad => rw [h3] at h; cases h
        | false =>
          simp only [Bool.false_eq_true, if_false] at h
          have := lcGo_len h
          simp only [List.length_cons]
          omega
      | err c => rw [h2] at h; cases h
      | bad => rw [h2] at h; cases h
/-- in the block of a comprehension -/
def Blk (X : Cx) (scope : Scope) (P : Cx → Prop) : Prop := ∀ (s : Shared) (H : Hp) (C : Addr) (cl : List (Str × Addr)) (fp : List Addr), P (X.blk s H scope (compEnvC scope cl C X.env) fp)
abbrev W0 : WX := fun _ _ _ _ => False
theorem Po.noerr {α β : Type} {rel : List Addr → Hp → β → α → Prop} {mg : Str → Option Value} {σ : L2.St} {B : List Addr} {H : Hp} {Q : β → Hp → Prop} {x : R α} {a : α} (e : x = .ok a) (k : ∀ v H', Kx B H H' → rel B H' v a → Q v H') : Po rel mg W σ B H Q x := by
  subst e
  exact k
theorem ky_lay {B : List Addr} {H : Hp} {Dl : Addr} {o : HO} (hB : InB B H) (h : H Dl = none) : Ky B H (Dl :: B) (upd H Dl o) where
  hid := fun a u q => by
    have q' := hid_some q
    have hn : a ∉ B := fun z => by unfold Ask.hid at q; rw [if_pos z] at q; cases q
    have hd : a ≠ Dl := ne_of_none q' h
    exact hid_at (by rw [upd_ne hd]; exact q') (by simp only [List.mem_cons, not_or]; exact ⟨hd, hn⟩)
  inB' := fun a ha z => by
    by_cases hd : a = Dl
    · subst hd; rw [upd_same] at z; cases z
    · rw [upd_ne hd] at z
      rcases List.mem_cons.mp ha with e | e
      · exact hd e
      · exact hB a e z
theorem ky_less {B : List Addr} {H : Hp} {Dl : Addr} (hB : InB (Dl :: B) H) : Ky (Dl :: B) H B H where
  hid := fun a u q => by
    have hn : a ∉ Dl :: B := fun z => by unfold Ask.hid at q; rw [if_pos z] at q; cases q
    exact hid_at (hid_some q) fun z => hn (List.mem_cons_of_mem _ z)
  inB' := fun a ha => hB a (List.mem_cons_of_mem _ ha)
theorem ky_put {B : List Addr} {H : Hp} {Dl : Addr} {o : HO} (hB : InB (Dl :: B) H) : Ky (Dl :: B) H (Dl :: B) (upd H Dl o) where
  hid := fun a u q => by
    have hn : a ∉ Dl :: B := fun z => by unfold Ask.hid at q; rw [if_pos z] at q; cases q
    have hd : a ≠ Dl := fun z => hn (by rw [z]; exact List.mem_cons_self)
    exact hid_at (by rw [upd_ne hd]; exact hid_some q) hn
  inB' := fun a ha z => by
    by_cases hd : a = Dl
    · subst hd; rw [upd_same] at z; cases z
    · rw [upd_ne hd] at z; exact hB a ha z
theorem Ky.trans {B1 B2 B3 : List Addr} {H1 H2 H3 : Hp} (a : Ky B1 H1 B2 H2) (b : Ky B2 H2 B3 H3) : Ky B1 H1 B3 H3 := ⟨a.hid.trans b.hid, b.inB'⟩
theorem Kx.ky {B : List Addr} {H H' : Hp} (e : Kx B H H') : Ky B H B H' := ⟨e.hid, e.inB'⟩
theorem EvLc {K : PySem.W.Frag} {mg : Str → Option Value} {wi : TI} {g : TG} {tt : TT} {te : TE} {vs : List Nat} {mi : Sl → R (List D)} {bi : D → Sl → Option Sl} {mt : Sl → R Bool} {me : Sl → R D}
    (hi : EvI K mg W wi mi) (hg : EvG K g bi) (ht : EvB K mg W0 tt mt) (he : EvE K mg W0 te me) (hw2 : ∀ v σ H Q, g v (wipe σ vs) H Q → g v (wipe σ vs) H fun σ2 H2 => wipe σ2 vs = wipe σ vs ∧ Q σ2 H2) :
    EvE K mg W (tLc wi g tt te vs) (lcM mi vs bi mt me) := fun env σ B H Q hs h => by
  refine hi env σ B H _ hs (Po.step h fun ds _ J H1 e1 wk q => ?_)
  by_cases hl : ds.length ≤ 8000000
  · rw [if_pos hl] at q
    intro Dl hD
    have hB1 := e1.inB'
    have hDB : Dl ∉ B := fun z => hB1 Dl z hD
    cases hgo : lcGo bi mt me (wipeE env vs) ds with
    | bad => rw [hgo] at q; exact q.elim
    | err c => rw [hgo] at q; exact q.elim
    | ok ys =>
      rw [hgo] at q
      have q' : ∀ v H', Kx B H1 H' → Rp K B H' v (.lst ys) → Q v H' := q
      refine ⟨fun i m H2 => m = ds.length - i ∧ i ≤ ds.length ∧ Ky B H1 (Dl :: B) H2 ∧ Ex H1 H2 ∧ ∃ acc zs rs, H2 Dl = some (.lst acc) ∧ RpA K (Dl :: B) H2 acc zs ∧ lcGo bi mt me (wipeE env vs) (ds.drop i) = .ok rs ∧ zs ++ rs = ys,
        ⟨ds.length, by simp, Nat.zero_le _, ky_lay hB1 hD, Ex.new hD, [], [], ys, upd_same, .nil, hgo, rfl⟩, ?_⟩
      rintro i m H2 ⟨rfl, hi2, e2, x2, acc, zs, rs, hacc, ra, hrs, hys⟩
      obtain ⟨go, stop⟩ := wk _ H2 e2
      by_cases hlt : i < ds.length
      · obtain ⟨g1, g2⟩ := go i hlt
        refine .inr ⟨g1, fun H3 => i + 1 ≤ ds.length ∧ Ky B H1 (Dl :: B) H3 ∧ Ex H1 H3 ∧ ∃ acc zs rs, H3 Dl = some (.lst acc) ∧ RpA K (Dl :: B) H3 acc zs ∧ lcGo bi mt me (wipeE env vs) (ds.drop (i + 1)) = .ok rs ∧ zs ++ rs = ys, fun H' n => ⟨ds.length - (i + 1), by omega, rfl, n.1, n.2.1, n.2.2⟩, fun x H3 y => ?_⟩
        obtain ⟨e3, d, hd, rx⟩ := g2 x H3 y
        have hdrop : ds.drop i = d :: ds.drop (i + 1) := by
          rw [List.drop_eq_getElem_cons hlt]
          rw [List.getElem?_eq_getElem hlt] at hd
          cases hd
          rfl
        rw [hdrop] at hrs
        simp only [lcGo] at hrs
        cases hb : bi d (wipeE env vs) with
        | none => rw [hb] at hrs; cases hrs
        | some f1 =>
          rw [hb] at hrs
          simp only at hrs
          have hs3 : RS K (Dl :: B) H3 (wipe σ vs) (wipeE env vs) := ((hs.mono e1).my (e2.trans e3.ky)).wipe vs
          refine hw2 _ _ _ _ (hg _ _ _ _ _ _ _ _ hs3 rx hb fun σ' hs' => ?_)
          cases hk : mt f1 with
          | err c => rw [hk] at hrs; cases hrs
          | bad => rw [hk] at hrs; cases hrs
          | ok k =>
            rw [hk] at hrs
            refine ht f1 σ' _ H3 _ hs' (Po.noerr hk fun b H4 e4 r4 => ?_)
            have eb : b = k := r4
            subst eb
            simp only [R.bind] at hrs
            cases b with
            | true =>
              simp only [if_true] at hrs
              refine iteT ?_
              cases hel : me f1 with
              | err c => rw [hel] at hrs; cases hrs
              | bad => rw [hel] at hrs; cases hrs
              | ok y' =>
                rw [hel] at hrs
                simp only at hrs
                cases hrest : lcGo bi mt me (wipeE env vs) (ds.drop (i + 1)) with
                | err c => rw [hrest] at hrs; cases hrs
                | bad => rw [hrest] at hrs; cases hrs
                | ok rs' =>
                  rw [hrest] at hrs
                  cases hrs
                  refine he f1 σ' _ H4 _ (hs'.mono e4) (Po.noerr hel fun v H5 e5 r5 => ?_)
                  have l1 : acc.length = zs.length := ra.length
                  have l2 : (zs ++ y' :: rs').length = ys.length := by rw [hys]
                  have l3 := lcGo_len hgo
                  rw [List.length_append, List.length_cons] at l2
                  have hDl : H5 Dl = some (.lst acc) := e5.ex _ _ (e4.ex _ _ (e3.ex _ _ hacc))
                  have ra5 : RpA K (Dl :: B) H5 acc zs := ((ra.mv e3).mv e4).mv e5
                  have put := ky_put (o := .lst (acc ++ [v])) e5.inB'
                  refine ⟨acc, hDl, (show acc.length < 2 ^ 24 by omega), by omega, (((e2.trans e3.ky).trans e4.ky).trans e5.ky).trans put, Ex.mut (((x2.trans e3.ex).trans e4.ex).trans e5.ex) hD, acc ++ [v], zs ++ [y'], rs', upd_same, (ra5.append (.cons r5 .nil)).my put, rfl, ?_⟩
                  rw [List.append_assoc]
                  exact hys
            | false =>
              simp only [Bool.false_eq_true, if_false] at hrs
              exact iteF ⟨by omega, (e2.trans e3.ky).trans e4.ky, (x2.trans e3.ex).trans e4.ex, acc, zs, rs, e4.ex _ _ (e3.ex _ _ hacc), (ra.mv e3).mv e4, hrs, hys⟩
      · have ei : i = ds.length := by omega
        subst ei
        rw [List.drop_length] at hrs
        cases hrs
        rw [List.append_nil] at hys
        subst hys
        exact .inl ⟨stop, q' _ H2 ⟨x2, hB1⟩ (.lst (hid_at hacc hDB) (ra.my (ky_less e2.inB')))⟩
  · rw [if_neg hl] at q
    exact q.elim
/-- the weakest reading of a function -/
def teOf (K : PySem.W.Frag) (mg : Str → Option Value) (W : WX) (m : Sl → R D) : TE := fun σ H Q => ∃ env B, RS K B H σ env ∧ Po (Rp K) mg W σ B H Q (m env)
def tbOf (K : PySem.W.Frag) (mg : Str → Option Value) (W : WX) (m : Sl → R Bool) : TT := fun σ H Q => ∃ env B, RS K B H σ env ∧ Po (fun _ _ a b => a = b) mg W σ B H Q (m env)
theorem ME.pe {m : Sl → R D} (h : ME X W e m) : PE X e (teOf X.K X.mg W m) := by
  obtain ⟨te, h1, h2⟩ := h
  exact ⟨fun pins s σ H Q I ⟨env, B, hs, q⟩ => h1.run pins s σ H Q I (h2 env σ B H Q hs q)⟩
theorem MT.pt {m : Sl → R Bool} (h : MT X W e m) : PT X e (tbOf X.K X.mg W m) := by
  obtain ⟨te, h1, h2⟩ := h
  exact ⟨fun pins s σ H Q I ⟨env, B, hs, q⟩ => h1.run pins s σ H Q I (h2 env σ B H Q hs q)⟩
theorem teOf_ev {K : PySem.W.Frag} {mg : Str → Option Value} {m : Sl → R D} : EvE K mg W (teOf K mg W m) m := fun env σ B H Q hs h => ⟨env, B, hs, h⟩
theorem tbOf_ev {K : PySem.W.Frag} {mg : Str → Option Value} {m : Sl → R Bool} : EvB K mg W (tbOf K mg W m) m := fun env σ B H Q hs h => ⟨env, B, hs, h⟩
theorem wipe_one {σ : L2.St} {i : Nat} {v : V} {H : Hp} {Q : L2.St → Hp → Prop} (h : gName i v (wipe σ [i]) H Q) : gName i v (wipe σ [i]) H fun σ2 H2 => wipe σ2 [i] = wipe σ [i] ∧ Q σ2 H2 := by
  refine ⟨?_, h⟩
  show ((σ.set i none).set i (some v)).set i none = σ.set i none
  rw [List.set_set, List.set_set]
/-- [elt for x in iter], as a value; i: x's slot -/
theorem me_lc (i : Nat) {elt iter : Expr} {x : Str} {px : Pos} {scope : Scope} {mi : Sl → R (List D)} {m : Sl → R D} (hc : X.calm = true) (hN : X.N.Nodup) (hi : MI X W (.Name x px) iter mi) (ok : BlkOk X.N X.env.scope scope [(x, i)])
    (hg1 : Blk X scope fun Y => PG Y (.Name x px) (gName i)) (he : Blk X scope fun Y => ME Y W0 elt m) (hs : ∀ x, foldedSetIterable iter X.env x = pure x := by intro _; rfl) :
    ME X W (.ListComp elt [⟨.Name x px, iter, [], 0⟩] scope pos) (lcM mi [i] (tgN i) yesM m) := by
  obtain ⟨wi, i1, i2⟩ := hi
  refine ⟨_, pe_lc (own := [(x, i)]) hc hN i1 ok hg1 (fun _ _ _ _ _ => pts_nil) (fun s H C cl fp => (he s H C cl fp).pe) hs, EvLc i2 (fun env env' σ B H v d Q hs r h q => ?_) (fun env σ B H Q hs h => ?_) teOf_ev fun v σ H Q h => wipe_one h⟩
  · cases h; exact q _ (hs.set r)
  · exact h true H (Kx.refl hs.inB) rfl
theorem me_lcIf (i : Nat) {elt iter c : Expr} {x : Str} {px : Pos} {scope : Scope} {mi : Sl → R (List D)} {m : Sl → R D} {mt : Sl → R Bool} (hc : X.calm = true) (hN : X.N.Nodup) (hi : MI X W (.Name x px) iter mi) (ok : BlkOk X.N X.env.scope scope [(x, i)])
    (hg1 : Blk X scope fun Y => PG Y (.Name x px) (gName i)) (ht : Blk X scope fun Y => MT Y W0 c mt) (he : Blk X scope fun Y => ME Y W0 elt m) (hs : ∀ x, foldedSetIterable iter X.env x = pure x := by intro _; rfl) :
    ME X W (.ListComp elt [⟨.Name x px, iter, [c], 0⟩] scope pos) (lcM mi [i] (tgN i) mt m) := by
  obtain ⟨wi, i1, i2⟩ := hi
  refine ⟨_, pe_lc (own := [(x, i)]) hc hN i1 ok hg1 (fun s H C cl fp => pts_one (ht s H C cl fp).pt) (fun s H C cl fp => (he s H C cl fp).pe) hs, EvLc i2 (fun env env' σ B H v d Q hs r h q => ?_) tbOf_ev teOf_ev fun v σ H Q h => wipe_one h⟩
  cases h; exact q _ (hs.set r)
/-- y = [..] -/
theorem ms_setLc (i j : Nat) {elt iter : Expr} {x y : Str} {px py spos : Pos} {scope : Scope} {mi : Sl → R (List D)} {m : Sl → R D} (hc : X.calm = true) (hN : X.N.Nodup) (hy : X.N[j]? = some y) (hyl : X.env.scope.names.lookup y = some .local)
    (hsw : swapsWith (.ListComp elt [⟨.Name x px, iter, [], 0⟩] scope pos) (some (.Name y py)) spos.line X.env = pure true) (hi : MI X W (.Name x px) iter mi) (ok : BlkOk X.N X.env.scope scope [(x, i)])
    (hg1 : Blk X scope fun Y => PG Y (.Name x px) (gName i)) (he : Blk X scope fun Y => ME Y W0 elt m) (hs : ∀ x, foldedSetIterable iter X.env x = pure x := by intro _; rfl) :
    ∃ te, PS X (.Assign [.Name y py] (.ListComp elt [⟨.Name x px, iter, [], 0⟩] scope pos) spos) (tAsg te (gName j)) ∧ EvE X.K X.mg W te (lcM mi [i] (tgN i) yesM m) := by
  obtain ⟨wi, i1, i2⟩ := hi
  refine ⟨_, ps_setLc (own := [(x, i)]) hc hN hy hyl hsw i1 ok hg1 (fun _ _ _ _ _ => pts_nil) (fun s H C cl fp => (he s H C cl fp).pe) hs, EvLc i2 (fun env env' σ B H v d Q hs r h q => ?_) (fun env σ B H Q hs h => ?_) teOf_ev fun v σ H Q h => wipe_one h⟩
  · cases h; exact q _ (hs.set r)
  · exact h true H (Kx.refl hs.inB) rfl
/-! ### statements -/
def toO {α : Type} (x : R α) (f : α → O) : O := match x with
  | .ok a => f a
  | .err c => .er c
  | .bad => .bad
def seqM (a b : Sl → O) : Sl → O := fun env => match a env with
  | .nx e => b e
  | o => o
def nextM : Sl → O := fun env => .nx env
def asgM (i : Nat) (m : Sl → R D) : Sl → O := fun env => toO (m env) fun d => .nx (env.set i (some d))
def retM (m : Sl → R D) : Sl → O := fun env => toO (m env) .rt
def dropM (m : Sl → R D) : Sl → O := fun env => toO (m env) fun _ => .nx env
def ifS (t : Sl → R Bool) (a b : Sl → O) : Sl → O := fun env => toO (t env) fun k => if k = true then a env else b env
def raiseM (c : Str) (m : Sl → R (List D)) : Sl → O := fun env => toO (m env) fun ds => if ds.length ≤ 1000 then .er c else .bad
/-- from a value to what stands behind -/
theorem Po.toO {α β : Type} {rel : List Addr → Hp → β → α → Prop} {K : PySem.W.Frag} {mg : Str → Option Value} {σ : L2.St} {B : List Addr} {H : Hp} {E : Ends} {Q : β → Hp → Prop} {x : R α} {f : α → O} (h : PoS K mg W E B H (toO x f))
    (k : ∀ a, x = .ok a → ∀ v H1, Kx B H H1 → rel B H1 v a → PoS K mg W E B H1 (f a) → Q v H1) : Po rel mg W σ B H Q x := by
  cases x with
  | ok a => exact fun v H1 e r => k a rfl v H1 e r (PoS.mono e h)
  | err c => exact fun H' e => h σ H' e
  | bad => exact h
theorem mss_nil : MSs X W [] nextM := ⟨_, pss_nil, fun env σ B H E hs h => h σ H (Kx.refl hs.inB) hs⟩
theorem mss_one {st : Stmt} {m : Sl → O} (h : MS X W st m) : MSs X W [st] m := let ⟨t, a, b⟩ := h; ⟨t, pss_one a, b⟩
theorem mss_cons {st : Stmt} {rest : List Stmt} {m n : Sl → O} (h : MS X W st m) (k : MSs X W rest n) : MSs X W (st :: rest) (seqM m n) := by
  obtain ⟨t, a1, a2⟩ := h
  obtain ⟨u, b1, b2⟩ := k
  refine ⟨_, pss_cons a1 b1, fun env σ B H E hs h => a2 env σ B H _ hs ?_⟩
  unfold seqM at h
  cases hm : m env with
  | nx e => rw [hm] at h; exact fun σ' H' x r => b2 e σ' B H' E r (PoS.mono x h)
  | rt d => rw [hm] at h; exact h
  | bk e => rw [hm] at h; exact h
  | ct e => rw [hm] at h; exact h
  | er c => rw [hm] at h; exact h
  | bad => rw [hm] at h; exact h
theorem ms_ret (he : ME X W e ma) : MS X W (.Return (some e) pos) (retM ma) := by
  obtain ⟨t, a1, a2⟩ := he
  exact ⟨_, ps_ret a1, fun env σ B H E hs h => a2 env σ B H _ hs (Po.toO h fun d _ v H1 e1 r q => q v H1 (Kx.refl e1.inB') r)⟩
theorem ms_set (i : Nat) {x : Str} {pos' : Pos} (he : ME X W e ma) (hN : X.N.Nodup) (hi : X.N[i]? = some x := by rfl) (hx : Loc X.env.scope x := by first | exact Or.inl rfl | exact Or.inr rfl) (hs : swapsWith e (some (.Name x pos')) pos.line X.env = pure false := by rfl) (hf : X.fn x = true ∨ X.env.scope.names.lookup x = some .local := by first | exact .inl rfl | exact .inr rfl) :
    MS X W (.Assign [.Name x pos'] e pos) (asgM i ma) := by
  obtain ⟨t, a1, a2⟩ := he
  exact ⟨_, ps_set hN hi hx a1 hs hf, fun env σ B H E hs h => a2 env σ B H _ hs (Po.toO h fun d _ v H1 e1 r q => q _ H1 (Kx.refl e1.inB') ((hs.mono e1).set r))⟩
theorem ms_asgLc {st : Stmt} (j : Nat) {m : Sl → R D} (h : ∃ te, PS X st (tAsg te (gName j)) ∧ EvE X.K X.mg W te m) : MS X W st (asgM j m) := by
  obtain ⟨t, a1, a2⟩ := h
  exact ⟨_, a1, fun env σ B H E hs h => a2 env σ B H _ hs (Po.toO h fun d _ v H1 e1 r q => q _ H1 (Kx.refl e1.inB') ((hs.mono e1).set r))⟩
theorem ms_expr (he : ME X W e ma) (hs : swapsWith e none pos.line X.env = pure false := by rfl) : MS X W (.Expr e pos) (dropM ma) := by
  obtain ⟨t, a1, a2⟩ := he
  exact ⟨_, ps_expr a1 hs, fun env σ B H E hs h => a2 env σ B H _ hs (Po.toO h fun d _ v H1 e1 r q => q _ H1 (Kx.refl e1.inB') (hs.mono e1))⟩
theorem ms_if {m : Sl → R Bool} {xs ys : List Stmt} {n k : Sl → O} (hc : MT X W c m) (ha : MSs X W xs n) (hb : MSs X W ys k) : MS X W (.If c xs ys pos) (ifS m n k) := by
  obtain ⟨t, h1, h2⟩ := hc
  obtain ⟨ta, a1, a2⟩ := ha
  obtain ⟨tb, b1, b2⟩ := hb
  refine ⟨_, ps_if h1 a1 b1, fun env σ B H E hs h => h2 env σ B H _ hs (Po.toO h fun x _ v H1 e1 r q => ?_)⟩
  have ev : v = x := r
  subst ev
  cases v with
  | true => exact iteT (a2 env σ B H1 E (hs.mono e1) q)
  | false => exact iteF (b2 env σ B H1 E (hs.mono e1) q)
/-- x += e, whole numbers -/
def augM (i : Nat) (m : Sl → R D) : Sl → O := fun env => toO (varM i env) fun a => toO (m env) fun b => match a, b with
  | .int p, .int q => .nx (env.set i (some (.int (p + q))))
  | _, _ => .bad
theorem ms_aug (i : Nat) {x : Str} {pos' : Pos} (he : ME X W e ma) (hN : X.N.Nodup) (hi : X.N[i]? = some x := by rfl) (hx : Loc X.env.scope x := by first | exact Or.inl rfl | exact Or.inr rfl) (hf : X.fn x = true ∨ X.env.scope.names.lookup x = some .local := by first | exact .inl rfl | exact .inr rfl) :
    MS X W (.AugAssign (.Name x pos') .Add e pos) (augM i ma) := by
  obtain ⟨t, a1, a2⟩ := he
  refine ⟨_, ps_aug hN hi hx a1 ip_add hf, fun env σ B H E hs h => ?_⟩
  unfold augM varM at h
  cases hv : env[i]? with
  | none => rw [hv] at h; exact h.elim
  | some o =>
    rw [hv] at h
    cases o with
    | none => exact h.elim
    | some d =>
      obtain ⟨v, hv2, rv⟩ := hs.get i d hv
      refine ⟨v, hv2, a2 env σ B H _ hs (Po.toO h fun b _ u H1 e1 r q => ?_)⟩
      cases rv with
      | int p =>
        cases r with
        | int p2 => exact ⟨p, p2, rfl, rfl, q _ H1 (Kx.refl e1.inB') ((hs.mono e1).set (.int _))⟩
        | _ => exact q.elim
      | _ => exact q.elim
/-- a loop -/
def forGo (b : D → Sl → Option Sl) (body : Sl → O) : List D → Sl → O
  | [], env => .nx env
  | d :: ds, env => match b d env with
    | none => .bad
    | some e1 => match body e1 with
      | .nx e2 => forGo b body ds e2
      | .ct e2 => forGo b body ds e2
      | .bk e2 => .nx e2
      | o => o
def forM (it : Sl → R (List D)) (b : D → Sl → Option Sl) (body : Sl → O) : Sl → O := fun env => toO (it env) fun ds => forGo b body ds env
theorem ms_for {tg iter : Expr} {body : List Stmt} {mi : Sl → R (List D)} {bi : D → Sl → Option Sl} {mb : Sl → O} (hp : PassesOwn (model X.prog X.w) X.A X.env X.xe) (hc : X.calm = true) (hi : MI X W tg iter mi) (hg : MG X tg bi) (hb : MSs X W body mb)
    (hs : ∀ x, foldedSetIterable iter X.env x = pure x := by intro _; rfl) : MS X W (.For tg iter body [] pos) (forM mi bi mb) := by
  obtain ⟨wi, i1, i2⟩ := hi
  obtain ⟨g, g1, g2⟩ := hg
  obtain ⟨tb, b1, b2⟩ := hb
  refine ⟨_, ps_for hp hc i1 g1 b1 hs, fun env σ B H E hs h => i2 env σ B H _ hs (Po.toO h fun ds _ J H1 e1 wk q => ?_)⟩
  refine ⟨fun i m σ2 H2 => m = ds.length - i ∧ i ≤ ds.length ∧ Kx B H1 H2 ∧ ∃ en, RS X.K B H2 σ2 en ∧ PoS X.K X.mg W E B H2 (forGo bi mb (ds.drop i) en), ⟨ds.length, by simp, Nat.zero_le _, Kx.refl e1.inB', env, hs.mono e1, q⟩, ?_⟩
  rintro i m σ2 H2 ⟨rfl, hi2, k2, en, hs2, q2⟩
  obtain ⟨go, stop⟩ := wk B H2 k2.ky
  by_cases hlt : i < ds.length
  · obtain ⟨g3, y3⟩ := go i hlt
    refine .inr ⟨g3, fun σ3 H3 => i + 1 ≤ ds.length ∧ Kx B H1 H3 ∧ ∃ en, RS X.K B H3 σ3 en ∧ PoS X.K X.mg W E B H3 (forGo bi mb (ds.drop (i + 1)) en), fun σ' H' n => ⟨ds.length - (i + 1), by omega, rfl, n.1, n.2.1, n.2.2⟩, fun x H3 y => ?_⟩
    obtain ⟨e3, d, hd, rx⟩ := y3 x H3 y
    have hdrop : ds.drop i = d :: ds.drop (i + 1) := by
      rw [List.drop_eq_getElem_cons hlt]
      rw [List.getElem?_eq_getElem hlt] at hd
      cases hd
      rfl
    rw [hdrop] at q2
    simp only [forGo] at q2
    cases hb : bi d en with
    | none => rw [hb] at q2; exact q2.elim
    | some f1 =>
      rw [hb] at q2
      simp only at q2
      refine g2 _ _ _ _ _ _ _ _ (hs2.mono e3) rx hb fun σ' hs' => b2 f1 σ' B H3 _ hs' ?_
      cases hm : mb f1 with
      | nx e => rw [hm] at q2; exact fun σ4 H4 x4 r4 => ⟨by omega, (k2.trans e3).trans x4, e, r4, PoS.mono (e3.trans x4) q2⟩
      | ct e => rw [hm] at q2; exact fun σ4 H4 x4 r4 => ⟨by omega, (k2.trans e3).trans x4, e, r4, PoS.mono (e3.trans x4) q2⟩
      | bk e => rw [hm] at q2; exact PoS.mono (o := .nx e) e3 q2
      | rt d => rw [hm] at q2; exact PoS.mono (o := .rt d) e3 q2
      | er c => rw [hm] at q2; exact PoS.mono (o := .er c) e3 q2
      | bad => rw [hm] at q2; exact q2.elim
  · have ei : i = ds.length := by omega
    subst ei
    rw [List.drop_length] at q2
    exact .inl ⟨stop, q2 _ H2 (Kx.refl k2.inB') hs2⟩
/-- raise C(..) -/
theorem ms_raise {C : Addr} {bmB : List Value} {Bn newId initId : String} {x : Str} {p cp : Pos} {ts : Sl → R (List D)} (F : ExcBaseFacts Bn newId initId bmB) (q : PySem.W.excIn X.K C bmB newId = true) (gC : X.mg x = some (.ref C))
    (kC : PySem.W.keepIn X.K (.ref C) = true) (r : Raises X (.ref C)) (hc : X.calm = true) (tk : Takes X W) (hg : Gl X x) (ha : MA X W (e :: es) ts) (hdb : (x == ("__debug__" : Str)) = false := by decide)
    (he : starEach (e :: es) X.env = (false, eval e X.env) :: starEach es X.env := by rfl) (hpl : (backTo cp (starEach es X.env)).any (·.1) = false := by rfl) :
    MS X W (.Raise (some (.Call (.Name x p) (e :: es) [] cp)) none pos) (raiseM x ts) := by
  obtain ⟨ta, a1, a2⟩ := ha
  refine ⟨_, ps_raise hc tk (pmk_ownA F q gC kC r hg a1 hdb he hpl), fun env σ B H E hs h => a2 env σ B H _ hs (Po.toO h fun ds _ vs H1 e1 r q => ?_)⟩
  by_cases hl : ds.length ≤ 1000
  · rw [if_pos hl] at q
    refine ⟨by rw [r.length]; exact line1 (by omega), ?_⟩
    have z := q σ H1 (Kx.refl e1.inB')
    unfold clsV at z
    rw [gC] at z
    exact z
  · rw [if_neg hl] at q
    exact q.elim
/-! ### defs -/
def fnM (n nl : Nat) (body : Sl → O) : List D → R D := fun ds => if ds.length = n then match body (ds.map some ++ List.replicate nl none) with
    | .nx _ => .ok .non
    | .rt d => .ok d
    | .er c => .err c
    | _ => .bad else .bad
theorem rs_start {K : PySem.W.Frag} {B : List Addr} {H : Hp} {N : List Str} {vs : List V} {ds : List D} (hB : InB B H) (r : RpA K B H vs ds) : RS K B H (L2.start N vs) (ds.map some ++ List.replicate (N.length - ds.length) none) := by
  have hl := r.length
  refine ⟨hB, by unfold L2.start; simp [hl], fun i d h => ?_⟩
  unfold L2.start
  by_cases hi : i < ds.length
  · rw [List.getElem?_append_left (by simpa using hi), List.getElem?_map] at h
    cases hd : ds[i]? with
    | none => rw [hd] at h; cases h
    | some e =>
      rw [hd] at h
      cases h
      obtain ⟨v, hv, rv⟩ := r.get hd
      refine ⟨v, ?_, rv⟩
      rw [List.getElem?_append_left (by simpa [hl] using hi), List.getElem?_map, hv]
      rfl
  · rw [List.getElem?_append_right (by simpa using hi), List.getElem?_replicate] at h
    split at h <;> cases h
theorem fn_okR {P : Program} {w : World} {K : PySem.W.Frag} {mg : Str → Option Value} {base : Heap} {x qual : Str} {st : Stmt} {f : Addr} {fd : FuncData} {N ps : List Str} {k n nl : Nat} {mb : Sl → O} (F : Fun K x qual st f fd) (S : FnScope N ps (defScope st)) (hn : ps.length = n) (hnl : N.length = n + nl)
    (body : ∀ (cdv : Value) (A : Around) (outer : List Env) (s : Shared) (H : Hp) (E : XK), Room k (A.deeper (PyProof.Rows.envOfC qual (defScope st) s.heap.objs.size f cdv)) →
      MSs (cxOf (L2.CX P w) P w K mg base N qual (defScope st) f cdv A outer s H E) (fun cls d _ H' => E cls d H') (defBody st) mb) : FnOk P w K mg base (L2.CX P w) (k + 1) f fd ps (spM K mg n (fnM n nl mb)) := by
  refine F.okX S (fun vs H Q E h => ?_) fun cdv A outer s H vs Q E hr h => ?_
  · obtain ⟨B, ds, _, hl, r, _⟩ := h
    rw [r.length, hl, hn]
  · obtain ⟨B, ds, hB, hl, r, q⟩ := h
    obtain ⟨t, t1, t2⟩ := body cdv A outer s H E hr
    refine ⟨t, t1, t2 _ _ B H _ (rs_start (N := N) hB r) ?_⟩
    have e : N.length - ds.length = nl := by omega
    rw [e]
    unfold fnM at q
    rw [if_pos hl] at q
    show PoS K mg (fun cls d _ H' => E cls d H') { nx := fun _ H' => Q .non H', rt := Q } B H (mb (ds.map some ++ List.replicate nl none))
    cases hb : mb (ds.map some ++ List.replicate nl none) with
    | nx e => rw [hb] at q; exact fun σ' H' x _ => q .non H' x .non
    | rt d => rw [hb] at q; exact q
    | er c => rw [hb] at q; exact fun σ' H' x => q H' x
    | bk e => rw [hb] at q; exact q.elim
    | ct e => rw [hb] at q; exact q.elim
    | bad => rw [hb] at q; exact q.elim
theorem fn_ok {P : Program} {w : World} {K : PySem.W.Frag} {mg : Str → Option Value} {base : Heap} {x qual : Str} {st : Stmt} {f : Addr} {fd : FuncData} {N ps : List Str} {k n nl : Nat} {mb : Sl → O} (F : Fun K x qual st f fd) (S : FnScope N ps (defScope st)) (hn : ps.length = n) (hnl : N.length = n + nl) (hm : mg x = some (.ref f))
    (hbd : ∀ (kV doc pm : Value) (an : Option Addr) (cdv ct : Value) (us : List Value), us.length = ps.length → bindArgs (PySem.W.fnOf x qual (defArgs st) (defBody st) (defScope st) .none kV doc pm an cdv ct) ⟨us, []⟩ = pure (ps.zip us))
    (body : ∀ (cdv : Value) (A : Around) (outer : List Env) (s : Shared) (H : Hp) (E : XK), Room k (A.deeper (PyProof.Rows.envOfC qual (defScope st) s.heap.objs.size f cdv)) →
      MSs (cxOf (L2.CX P w) P w K mg base N qual (defScope st) f cdv A outer s H E) (fun cls d _ H' => E cls d H') (defBody st) mb) : FnI P w K mg base x (k + 1) n (fnM n nl mb) :=
  ⟨f, fd, ps, hn, hm, F.kp, F.binds hbd, fn_okR F S hn hnl body⟩
/-- nothing is said -/
theorem fn_none {P : Program} {w : World} {K : PySem.W.Frag} {mg : Str → Option Value} {base : Heap} {x qual : Str} {st : Stmt} {f : Addr} {fd : FuncData} {ps : List Str} {k n : Nat} (F : Fun K x qual st f fd) (hn : ps.length = n) (hm : mg x = some (.ref f))
    (hbd : ∀ (kV doc pm : Value) (an : Option Addr) (cdv ct : Value) (us : List Value), us.length = ps.length → bindArgs (PySem.W.fnOf x qual (defArgs st) (defBody st) (defScope st) .none kV doc pm an cdv ct) ⟨us, []⟩ = pure (ps.zip us)) : FnI P w K mg base x k n (fun _ => .bad) := by
  refine ⟨f, fd, ps, hn, hm, F.kp, F.binds hbd, fun vs H Q E h => ?_, fun A outer s H args us vs Q E _ _ _ _ h => ?_⟩
  · obtain ⟨_, _, _, _, _, q⟩ := h
    exact q.elim
  · obtain ⟨_, _, _, _, _, q⟩ := h
    exact q.elim
end
end Ask
namespace Ask
open PySem L2 Evl
section
variable {X : Cx} {W : WX} {a b c e : Expr} {es : List Expr} {ma mb mc : Sl → R D} {pos p2 : Pos}
/-- a chain as a test -/
theorem mt_chain {op op' : CmpOp} {g g' : D → D → Option D} (ho : OpM X (compareOp op) g) (ho' : OpM X (compareOp op') g') (ha : ME X W a ma) (hb : ME X W b mb) (hc : ME X W c mc) (hm : lastMarks [op, op'] [b, c] = false := by with_unfolding_all rfl) :
    MT X W (.Compare a [op, op'] [b, c] pos) (asB (chM g g' ma mb mc)) := by
  obtain ⟨r, h1, h2⟩ := ho
  obtain ⟨r', k1, k2⟩ := ho'
  obtain ⟨ta, a1, a2⟩ := ha
  obtain ⟨tb, b1, b2⟩ := hb
  obtain ⟨tc, c1, c2⟩ := hc
  exact ⟨_, pt_chain h1 k1 a1 b1 c1 hm, EvB.of (EvE.chain h2 k2 a2 b2 c2)⟩
/-- -a -/
def negM (a : Sl → R D) : Sl → R D := fun env => (a env).bind fun x => match x with
  | .int i => .ok (.int (-i))
  | _ => .bad
theorem me_neg (ha : ME X W a ma) : ME X W (.UnaryOp .USub a pos) (negM ma) := by
  obtain ⟨ta, a1, a2⟩ := ha
  refine ⟨_, pe_un un_neg a1, fun env σ B H Q hs h => a2 env σ B H _ hs (Po.step h fun x _ v H1 e1 r1 q => ?_)⟩
  cases r1 with
  | int i => exact ⟨i, rfl, q _ H1 (Kx.refl e1.inB') (.int _)⟩
  | _ => exact q.elim
/-! ### a written text with values in it -/
def fmtM (m : Sl → R D) : Sl → R D := fun env => (m env).bind fun x => match x with
  | .str y => if y.length ≤ 100000 then .ok (.str y) else .bad
  | .int i => if i.natAbs.log2 < 1920 then .ok (.str (toString i)) else .bad
  | _ => .bad
theorem me_fmt (he : ME X W e ma) : ME X W (.FormattedValue e (-1) none pos) (fmtM ma) := by
  obtain ⟨t, a1, a2⟩ := he
  refine ⟨_, pe_fmt a1, fun env σ B H Q hs h => a2 env σ B H _ hs (Po.step h fun x _ v H1 e1 r1 q => ?_)⟩
  cases r1 with
  | str y =>
    by_cases hl : y.length ≤ 100000
    · simp only [if_pos hl] at q
      exact .inl ⟨y, rfl, line1 hl, q _ H1 (Kx.refl e1.inB') (.str _)⟩
    · simp only [if_neg hl] at q
      exact q.elim
  | int i =>
    by_cases hl : i.natAbs.log2 < 1920
    · simp only [if_pos hl] at q
      exact .inr ⟨i, rfl, hl, q _ H1 (Kx.refl e1.inB') (.str _)⟩
    · simp only [if_neg hl] at q
      exact q.elim
  | _ => exact q.elim
def EvJ (K : PySem.W.Frag) (mg : Str → Option Value) (W : WX) (ts : List TE) (m : Str → Sl → R Str) : Prop := ∀ (acc : Str) (env : Sl) (σ : L2.St) (B : List Addr) (H : Hp) (Q : Str → Hp → Prop), RS K B H σ env → Po (fun _ _ a b => a = b) mg W σ B H Q (m acc env) → tJs ts acc σ H Q
def MJ (X : Cx) (W : WX) (es : List Expr) (m : Str → Sl → R Str) : Prop := ∃ ts, PJ X es ts ∧ EvJ X.K X.mg W ts m
def nilJ : Str → Sl → R Str := fun acc _ => .ok acc
def consJ (m : Sl → R D) (r : Str → Sl → R Str) : Str → Sl → R Str := fun acc env => (m env).bind fun x => match x with
  | .str y => if (acc ++ y).length ≤ 100000 then r (acc ++ y) env else .bad
  | _ => .bad
theorem mj_nil : MJ X W [] nilJ := ⟨[], .nil, fun acc env σ B H Q hs h => h acc H (Kx.refl hs.inB) rfl⟩
theorem mj_cons {r : Str → Sl → R Str} (he : ME X W e ma) (hr : MJ X W es r) : MJ X W (e :: es) (consJ ma r) := by
  obtain ⟨t, a1, a2⟩ := he
  obtain ⟨ts, b1, b2⟩ := hr
  refine ⟨t :: ts, .cons a1 b1, fun acc env σ B H Q hs h => a2 env σ B H _ hs (Po.step h fun x _ v H1 e1 r1 q => ?_)⟩
  cases r1 with
  | str y =>
    by_cases hl : (acc ++ y).length ≤ 100000
    · simp only [if_pos hl] at q
      exact ⟨y, rfl, line1 hl, b2 _ env σ B H1 Q (hs.mono e1) q⟩
    · simp only [if_neg hl] at q
      exact q.elim
  | _ => exact q.elim
def jsM (m : Str → Sl → R Str) : Sl → R D := fun env => (m Str.empty env).bind fun s => .ok (.str s)
theorem me_js {v1 v2 : Expr} {rest : List Expr} {m : Str → Sl → R Str} (h : MJ X W (v1 :: v2 :: rest) m) : ME X W (.JoinedStr (v1 :: v2 :: rest) pos) (jsM m) := by
  obtain ⟨ts, a1, a2⟩ := h
  refine ⟨_, pe_joined a1, fun env σ B H Q hs h => a2 Str.empty env σ B H _ hs (Po.step h fun s _ v H1 e1 r1 q => ?_)⟩
  have ev : v = s := r1
  subst ev
  exact q _ H1 (Kx.refl e1.inB') (.str _)
/-! ### dicts -/
theorem putK_new {k : Str} {v : V} : ∀ {kvs : List (Key × V)}, (∀ p ∈ kvs, p.1 ≠ Sum.inr k) → putK kvs (Sum.inr k) v = kvs ++ [(Sum.inr k, v)] := fun {kvs} h => by
  unfold putK
  rw [if_neg]
  intro q
  rw [List.any_eq_true] at q
  obtain ⟨p, hp, e⟩ := q
  exact h p hp (of_decide_eq_true e)
theorem mergeK_new : ∀ (more kvs : List (Key × V)), (∀ p ∈ more, ∃ k, p.1 = Sum.inr k) → ((kvs ++ more).map (·.1)).Nodup → mergeK kvs more = kvs ++ more
  | [], kvs, _, _ => by simp [mergeK]
  | (kk, v) :: r, kvs, h, nd => by
    obtain ⟨k, hk⟩ := h (kk, v) List.mem_cons_self
    have hk : kk = Sum.inr k := hk
    subst hk
    show mergeK (putK kvs (Sum.inr k) v) r = _
    have hn : ∀ p ∈ kvs, p.1 ≠ Sum.inr k := fun p hp e => by
      rw [List.map_append, List.nodup_append] at nd
      exact nd.2.2 _ (List.mem_map_of_mem hp) _ (List.mem_map_of_mem List.mem_cons_self) e
    rw [putK_new hn, mergeK_new r _ (fun p hp => h p (List.mem_cons_of_mem _ hp)) (by rw [List.append_assoc]; exact nd), List.append_assoc]
    rfl
/-- a written dict of texts and whole numbers -/
def cE (kvs : List (Str × Int)) : List (Key × V) := kvs.map fun p => (Sum.inr p.1, V.int p.2)
def cD (kvs : List (Str × Int)) : List (Str × D) := kvs.map fun p => (p.1, D.int p.2)
theorem rpd_c {K : PySem.W.Frag} {H : Hp} : ∀ kvs : List (Str × Int), RpD0 K H (cE kvs) (cD kvs)
  | [] => .nil
  | p :: r => .cons (.int p.2) (rpd_c r)
theorem tPairs_c {σ : L2.St} : ∀ (kvs : List (Str × Int)) {H : Hp} {Q : List (V × V) → Hp → Prop}, Q ((cE kvs).map fun kv => (kV kv.1, kv.2)) H → tPairs (kvs.map fun p => (tC (.str p.1), tC (.int p.2))) σ H Q
  | [], H, Q, h => h
  | p :: r, H, Q, h => by
    show tPairs (r.map fun p => (tC (.str p.1), tC (.int p.2))) σ H fun ps H3 => Q ((V.str p.1, V.int p.2) :: ps) H3
    exact tPairs_c r h
theorem me_dict0 : ME X W (.Dict [] [] pos) (cM (.dct [])) :=
  ⟨_, pe_dnewK, fun env σ B H Q hs q p hp => q _ _ (Kx.new hs.inB hp) (.dct (hid_new hs.inB hp) .nil)⟩
theorem me_disp {keys : List (Option Expr)} {values : List Expr} (kvs : List (Str × Int)) (h : PPs X pos keys values (kvs.map fun p => (tC (.str p.1), tC (.int p.2)))) (nd : (kvs.map (·.1)).Nodup) (h15 : kvs.length ≤ 15) (hall : keys.all (·.isSome) = true) (hl : keys.length = values.length) (h0 : keys ≠ [])
    (h16 : keys.length ≤ 15) : ME X W (.Dict keys values pos) (cM (.dct (cD kvs))) := by
  refine ⟨_, pe_disp h hall hl h0 h16, fun env σ B H Q hs q p hp => tPairs_c kvs ⟨upd_same, cE kvs, rfl, by unfold cE; rw [List.length_map]; exact h15, ?_⟩⟩
  have e : mergeK [] (cE kvs) = cE kvs := mergeK_new (cE kvs) [] (fun p hp => by
    unfold cE at hp
    obtain ⟨z, _, rfl⟩ := List.mem_map.mp hp
    exact ⟨_, rfl⟩) (by
    rw [List.nil_append]
    unfold cE
    rw [List.map_map]
    have : ((fun x : Key × V => x.1) ∘ fun p : Str × Int => ((Sum.inr p.1 : Key), V.int p.2)) = (Sum.inr : Str → Key) ∘ fun p => p.1 := rfl
    rw [this, ← List.map_map]
    exact List.Pairwise.map (S := (· ≠ ·)) _ (fun a b hab e => hab (Sum.inr.inj e)) nd)
  rw [e, upd_upd]
  exact q _ _ (Kx.new hs.inB hp) (.dct (hid_new hs.inB hp) (rpd_c kvs))
def D.dix : D → D → Option D
  | .dct kvs, .str k => kvs.lookup k
  | _, _ => none
theorem RpD0.get {K : PySem.W.Frag} {H : Hp} {k : Str} : ∀ {xs : List (Key × V)} {ds : List (Str × D)} {d : D}, RpD0 K H xs ds → ds.lookup k = some d → ∃ v, valV xs (Sum.inr k) = some v ∧ Rp0 K H v d
  | _, _, d, .nil, h => by cases h
  | _, _, d, .cons (k := k') (v := v) (d := d') r t, h => by
    by_cases hk : k = k'
    · subst hk
      rw [List.lookup_cons_self] at h
      cases h
      exact ⟨v, valV_pos rfl, r⟩
    · have hb : (k == k') = false := beq_eq_false_iff_ne.mpr hk
      rw [List.lookup_cons, hb] at h
      obtain ⟨v2, h1, h2⟩ := RpD0.get t h
      exact ⟨v2, by rw [valV_neg (fun q => hk (Sum.inr.inj q).symm)]; exact h1, h2⟩
/-- d[k] -/
theorem me_dix (hu : X.A.units + 1 < cLine) (ha : ME X W a ma) (hb : ME X W b mb) (hs : NoSl b) : ME X W (.Subscript a b pos) (op2 D.dix ma mb) := by
  obtain ⟨ta, a1, a2⟩ := ha
  obtain ⟨tb, b1, b2⟩ := hb
  refine ⟨_, pe_dget hu a1 b1 hs, fun env σ B H Q hs h => a2 env σ B H _ hs (Po.step h fun x _ v H1 e1 r1 q => b2 env σ B H1 _ (hs.mono e1) (Po.step q fun y _ u H2 e2 r2 q2 => ?_))⟩
  cases hz : D.dix x y with
  | none => rw [hz] at q2; exact q2.elim
  | some z =>
    rw [hz] at q2
    cases r1.mv e2 with
    | dct hp rd =>
      cases r2 with
      | str k =>
        obtain ⟨v, hv, rv⟩ := rd.get (show _ = some z from hz)
        exact ⟨_, v, rfl, by rw [← hv]; exact DGet.k (k := Sum.inr k) (hid_some hp), q2 v H2 (Kx.refl e2.inB') rv⟩
      | _ => cases hz
    | _ => cases hz
/-- the entries of a dict of the module and its table -/
def EsT (K : PySem.W.Frag) (es : List DictEntry) (tbl : List (Str × D)) : Prop := Paired (fun (e : DictEntry) (p : Str × D) => (∃ t, e.key = .str p.1 t) ∧ ∃ v, RelV v e.val ∧ ∀ B H, Rp K B H v p.2) es tbl
theorem est_find {K : PySem.W.Frag} {z : Str} : ∀ {es : List DictEntry} {tbl : List (Str × D)}, EsT K es tbl → ∃ v, RelV v (((es.find? fun e => Value.isStrOf z e.key).map (·.val)).getD .none) ∧ ∀ B H, Rp K B H v ((tbl.lookup z).getD .non)
  | _, _, .nil => ⟨.non, rfl, fun _ _ => .non⟩
  | e :: es, p :: tbl, .cons ⟨⟨t, hk⟩, v, h1, h2⟩ r => by
    by_cases hz : z = p.1
    · subst hz
      have e1 : Value.isStrOf p.1 e.key = true := by rw [hk]; simp [Value.isStrOf]
      rw [List.find?_cons, e1]
      obtain ⟨k, d⟩ := p
      rw [List.lookup_cons_self]
      exact ⟨v, h1, h2⟩
    · have e1 : Value.isStrOf z e.key = false := by
        rw [hk]
        simp only [Value.isStrOf]
        exact beq_eq_false_iff_ne.mpr (fun q => hz q.symm)
      rw [List.find?_cons, e1]
      obtain ⟨k, d⟩ := p
      have hb : (z == k) = false := beq_eq_false_iff_ne.mpr hz
      rw [List.lookup_cons, hb]
      exact est_find r
def kgetM (tbl : List (Str × D)) (m : Sl → R D) : Sl → R D := fun env => (m env).bind fun x => match x with
  | .str z => .ok ((tbl.lookup z).getD .non)
  | _ => .bad
theorem me_kget {x : Str} {px apos cpos : Pos} {d : Addr} {es : Array DictEntry} {n : Nat} {tbl : List (Str × D)} (KD : KDict X.K X.w d es n) (T : EsT X.K es.toList tbl) (hg : Gl X x) (hm : X.mg x = some (.ref d)) (he : ME X W e ma) (m : M1 X (.Name x px) "get" apos e cpos) (hdb : (x == ("__debug__" : Str)) = false := by decide) :
    ME X W (.Call (.Attribute (.Name x px) "get" apos) [e] [] cpos) (kgetM tbl ma) := by
  obtain ⟨t, a1, a2⟩ := he
  refine ⟨fun σ H Q => t σ H fun y H1 => ∃ z : Str, y = .str z ∧ ∃ v, RelV v (((es.toList.find? fun e => Value.isStrOf z e.key).map (·.val)).getD .none) ∧ Q v H1, ⟨fun pins s σ H Q I h => ?_⟩, fun env σ B H Q hs h => a2 env σ B H _ hs (Po.step h fun x _ v H1 e1 r1 q => ?_)⟩
  · refine PySem.wpAny_Call_method m.base m.few m.line PySem.F.plainAttrs_dict PySem.F.slot_dict_get PySem.F.type_dict_get (ld_glob I hg hm ?_ hdb)
    have mp := PySem.W.mapOf_K (prog := X.prog) (w := X.w) I.kIn KD.at_ KD.lit
    refine ⟨mp.typeIs, fun b hb => ?_, ?_⟩
    · cases hb
      exact ⟨_, I.kIn _ _ KD.at_, rfl⟩
    · rw [m.trees]
      refine Calls.callWith_builtin rfl (Calls.evalArgs_plain (Calls.spliced_cons (thn (a1.run pins s σ H _ I h) fun iv s2 ⟨y, H2, I2, ry, z, ey, v, rv, q2⟩ => Calls.spliced_nil ?_)))
      subst ey
      obtain ⟨tk, rfl⟩ := ry
      refine PySem.call_meetsIn PySem.F.slot_dict_get (kd_type KD I2) PySem.F.entry_dict_get (PySem.F.args_dict_get_2 _ _) (meets_dict_get (PySem.strKind X.prog X.w) d (PySem.strKind_is X.prog X.w z tk) KD.low) ⟨_, PySem.W.mapOf_K (prog := X.prog) (w := X.w) I2.kIn KD.at_ KD.lit, ?_⟩
      refine ⟨v, H2, I2.tok _, ?_, q2⟩
      obtain ⟨l⟩ := es
      simp only [findBy, List.find?_toArray]
      exact rv
  · cases r1 with
    | str z =>
      obtain ⟨v, h1, h2⟩ := est_find (z := z) T
      exact ⟨z, rfl, v, h1, q v H1 (Kx.refl e1.inB') (h2 B H1)⟩
    | _ => exact q.elim
end
end Ask
namespace Ask
open PySem L2 Evl
/-- a tuple of the module -/
def KTup (K : PySem.W.Frag) (a : Addr) (xs : List V) : Prop := ∃ (o : Obj) (its : Array Value) (n : Nat), K.lookup a = some o ∧ o.cls = .type "tuple" ∧ o.data = .seq its n ∧ its.size ≤ sizeLine ∧ Vals xs its.toList
theorem ktup_mk {K : PySem.W.Frag} {a : Addr} {xs : List V} {o : Obj} {its : Array Value} {n : Nat} (h : K.lookup a = some o) (c : o.cls = .type "tuple") (d : o.data = .seq its n) (z : its.size ≤ sizeLine) (v : Vals xs its.toList) : KTup K a xs := ⟨o, its, n, h, c, d, z, v⟩
/-- the class facts' answers of isinstance -/
theorem kit_sub {K : PySem.W.Frag} {A C : Addr} {b : Bool} (h : A ≠ C) (h1 : PySem.W.isClsIn K C = true) (h2 : PySem.W.typeIn K (.ref C) = some (.type "type")) (h3 : PySem.W.subIn K (.ref A) (.ref C) = some b) : PySem.W.kitOne K (.ref A) (.ref C) = some b := by
  unfold PySem.W.kitOne
  rw [if_neg (by simpa using h)]
  show (if ((PySem.W.clsIn K C).isSome && PySem.W.typeIn K (.ref C) == some (.type "type")) = true then PySem.W.subIn K (.ref A) (.ref C) else none) = some b
  have h1' : (PySem.W.clsIn K C).isSome = true := h1
  rw [h1', h2, if_pos (by rfl)]
  exact h3
theorem kit_self {K : PySem.W.Frag} {A : Addr} : PySem.W.kitOne K (.ref A) (.ref A) = some true := by
  unfold PySem.W.kitOne
  rw [if_pos (by simp)]
theorem kit_typ {K : PySem.W.Frag} {A : Addr} {T : String} {b : Bool} (h1 : PySem.W.kitMeta T = true) (h3 : PySem.W.subIn K (.ref A) (.type T) = some b) : PySem.W.kitOne K (.ref A) (.type T) = some b := by
  unfold PySem.W.kitOne
  rw [if_neg (by simp)]
  show (if PySem.W.kitMeta T = true then PySem.W.subIn K (.ref A) (.type T) else none) = some b
  rw [if_pos h1]
  exact h3
/-- the law's promise to the outside -/
def spT (K : PySem.W.Frag) : Sp := fun vs H Q _ => ∃ (a : Addr) (ns : List Int), vs = [.ref a] ∧ ns.length ≤ 63 ∧ SqL K H a (ns.map V.int) ∧ ∀ H', Q (.bl true) H'
theorem walk_law {l : PySem.W.OpenLaw} {k : Nat} {q : Program} {loose : List Str} {XP : (Str → Option Value) → Heap → Prop} {YP : World → Heap → Prop} {d : DefRec} {K : Params → PySem.W.Frag} {x : Str} {m : List D → R D} (hn : l.most = some 63) (hdf : d.params.defaults = []) (hr : Room k callerA)
    (hY : ∀ (w : World) (h : Heap), YP w h → (K w.params).In h)
    (F : ∀ (w : World) (mg : Str → Option Value) (fa : Addr) (h : Heap), (K w.params).In h → h.Ns mainGlobals mg → mg d.name = some (.ref fa) →
      ∃ fd : FuncData, (∀ (s : Shared) (u : Value), BindsTo s fd ⟨[u], []⟩ [(x, u)]) ∧ ∀ base : Heap, (K w.params).In base → base.Ns mainGlobals mg → FnOk l.prog w (K w.params) mg base (L2.CX l.prog w) k fa fd [x] (spM (K w.params) mg 1 m))
    (hm : ∀ ns : List Int, ns.length ≤ 63 → m [.klst (ns.map D.int)] = .ok (.bl true)) : PySem.W.WalkO q loose XP YP l.row.toRowW d [] (fun f vs => PySem.call f vs) := by
  refine L2.walk_of (n := 63) (k := k) (x := x) (CX := fun w => L2.CX l.prog w) (sp := fun w => spT (K w.params)) hn (by decide) hdf hr hY (fun w mg fa h h1 h2 h3 => ?_) (fun w H a ns hl _ hS => ⟨a, ns, rfl, hl, hS, fun _ => rfl⟩) fun w H s e s' c => ?_
  · obtain ⟨fd, hb, hF⟩ := F w mg fa h h1 h2 h3
    refine ⟨fd, hb, fun base b1 b2 => (hF base b1 b2).imp fun vs H Q E hq => ?_⟩
    obtain ⟨a, ns, rfl, hl, hS, hq⟩ := hq
    refine ⟨[], [.klst (ns.map D.int)], (fun _ z => by cases z), rfl, .cons (.klst ?_ (RpA0.ints ns)) .nil, ?_⟩
    · have e : hid [] H = H := by funext a; unfold hid; rw [if_neg (by simp)]
      rw [e]; exact hS
    · rw [hm ns hl]
      intro v H' _ r
      cases r
      exact hq H'
  · obtain ⟨_, _, _, _, _, _, _, _, _, _, _, _, z⟩ := c
    exact z
end Ask
namespace Ask
open PySem L2 Evl
/-! defs with lists of their own, that grow: the slots ow hold them; no other name reads them -/
theorem wipeE_length (env : Sl) : ∀ vs : List Nat, (wipeE env vs).length = env.length
  | [] => rfl
  | v :: vs => by unfold wipeE; rw [List.length_set, wipeE_length env vs]
theorem wipeE_out {env : Sl} {i : Nat} : ∀ {vs : List Nat}, i ∉ vs → (wipeE env vs)[i]? = env[i]?
  | [], _ => rfl
  | v :: vs, h => by
    unfold wipeE
    simp only [List.mem_cons, not_or] at h
    rw [List.getElem?_set_ne (Ne.symm h.1)]
    exact wipeE_out h.2
theorem wipeE_in {env : Sl} {i : Nat} : ∀ {vs : List Nat} {d : D}, i ∈ vs → (wipeE env vs)[i]? ≠ some (some d)
  | v :: vs, d, h => by
    unfold wipeE
    by_cases hv : v = i
    · subst hv
      by_cases hl : v < (wipeE env vs).length
      · rw [List.getElem?_set_self hl]; exact fun e => by cases e
      · rw [List.getElem?_eq_none (by rw [List.length_set]; omega)]; exact fun e => by cases e
    · rw [List.getElem?_set_ne hv]
      rcases List.mem_cons.mp h with e | e
      · exact absurd e.symm hv
      · exact wipeE_in e
structure RSo (K : PySem.W.Frag) (ow : List Nat) (B0 : List Addr) (H0 : Hp) (ks : List (List Addr × Hp)) (B : List Addr) (H : Hp) (σ : L2.St) (env : Sl) : Prop where
  inB0 : InB B0 H0
  sub : ∀ a ∈ B0, a ∈ B
  ky : Ky B0 H0 B H
  kys : ∀ p ∈ ks, Ky p.1 p.2 B H
  ex : Ex H0 H
  rs : RS K B H σ (wipeE env ow)
  own : ∀ i ∈ ow, ∀ d, env[i]? = some (some d) → ∃ p acc zs, d = .lst zs ∧ σ[i]? = some (some (.ref p)) ∧ p ∈ B ∧ H0 p = none ∧ H p = some (.lst acc) ∧ RpA K B H acc zs
  dis : ∀ i ∈ ow, ∀ j ∈ ow, ∀ p d e, env[i]? = some (some d) → env[j]? = some (some e) → σ[i]? = some (some (.ref p)) → σ[j]? = some (some (.ref p)) → i = j
section
variable {K : PySem.W.Frag} {ow : List Nat} {B0 B : List Addr} {H0 H H1 : Hp} {ks : List (List Addr × Hp)} {σ : L2.St} {env : Sl}
theorem RSo.mono (h : RSo K ow B0 H0 ks B H σ env) (e : Kx B H H1) : RSo K ow B0 H0 ks B H1 σ env where
  inB0 := h.inB0
  sub := h.sub
  ky := h.ky.trans e.ky
  kys := fun p hp => (h.kys p hp).trans e.ky
  ex := h.ex.trans e.ex
  rs := h.rs.mono e
  own := fun i hi d q => let ⟨p, acc, zs, a1, a2, a3, a4, a5, a6⟩ := h.own i hi d q; ⟨p, acc, zs, a1, a2, a3, a4, e.ex _ _ a5, a6.mv e⟩
  dis := h.dis
theorem RSo.kx (h : RSo K ow B0 H0 ks B H σ env) : Kx B0 H0 H := ⟨h.ex, h.inB0⟩
theorem RSo.back (h : RSo K ow B0 H0 ks B H σ env) : Ky B H B0 H where
  hid := fun a u q => by
    have hn : a ∉ B := fun z => by unfold Ask.hid at q; rw [if_pos z] at q; cases q
    exact hid_at (hid_some q) fun z => hn (h.sub a z)
  inB' := fun a ha => h.ky.inB' a (h.sub a ha)
theorem RSo.addK (h : RSo K ow B0 H0 ks B H σ env) : RSo K ow B0 H0 ((B, H) :: ks) B H σ env := by
  refine ⟨h.inB0, h.sub, h.ky, fun p hp => ?_, h.ex, h.rs, h.own, h.dis⟩
  rcases List.mem_cons.mp hp with e | e
  · subst e; exact ⟨Ex.refl _, h.ky.inB'⟩
  · exact h.kys p e
theorem RSo.lessK {k0 : List Addr × Hp} (h : RSo K ow B0 H0 (k0 :: ks) B H σ env) : RSo K ow B0 H0 ks B H σ env :=
  ⟨h.inB0, h.sub, h.ky, fun p hp => h.kys p (List.mem_cons_of_mem _ hp), h.ex, h.rs, h.own, h.dis⟩
theorem wipe_setE {i : Nat} {x : Option D} : ∀ {vs : List Nat}, i ∉ vs → wipeE (env.set i x) vs = (wipeE env vs).set i x
  | [], _ => rfl
  | v :: vs, h => by
    simp only [List.mem_cons, not_or] at h
    unfold wipeE
    rw [wipe_setE h.2, List.set_comm _ _ h.1]
theorem RSo.set {i : Nat} {v : V} {d : D} (h : RSo K ow B0 H0 ks B H σ env) (hi : i ∉ ow) (r : Rp K B H v d) : RSo K ow B0 H0 ks B H (σ.set i (some v)) (env.set i (some d)) where
  inB0 := h.inB0
  sub := h.sub
  ky := h.ky
  kys := h.kys
  ex := h.ex
  rs := by rw [wipe_setE hi]; exact h.rs.set r
  own := fun j hj e q => by
    have hn : i ≠ j := fun z => hi (z ▸ hj)
    rw [List.getElem?_set_ne hn] at q
    rw [List.getElem?_set_ne hn]
    exact h.own j hj e q
  dis := fun j hj k hk p d e q1 q2 q3 q4 => by
    have hn : i ≠ j := fun z => hi (z ▸ hj)
    have hm : i ≠ k := fun z => hi (z ▸ hk)
    rw [List.getElem?_set_ne hn] at q1 q3
    rw [List.getElem?_set_ne hm] at q2 q4
    exact h.dis j hj k hk p d e q1 q2 q3 q4
end
def PoSo (K : PySem.W.Frag) (mg : Str → Option Value) (W : WX) (ow : List Nat) (E : Ends) (B0 : List Addr) (H0 : Hp) (ks : List (List Addr × Hp)) : O → Prop
  | .nx env => ∀ σ' B' H', RSo K ow B0 H0 ks B' H' σ' env → E.nx σ' H'
  | .rt d => ∀ v H', Kx B0 H0 H' → Rp K B0 H' v d → E.rt v H'
  | .bk env => ∀ σ' B' H', RSo K ow B0 H0 ks B' H' σ' env → E.bk σ' H'
  | .ct env => ∀ σ' B' H', RSo K ow B0 H0 ks B' H' σ' env → E.ct σ' H'
  | .er c => ∀ σ' H', Kx B0 H0 H' → W (clsV mg c) none σ' H'
  | .bad => False
def EvSo (K : PySem.W.Frag) (mg : Str → Option Value) (W : WX) (ow : List Nat) (ts : TS) (m : Sl → O) : Prop := ∀ (env : Sl) (σ : L2.St) (B0 : List Addr) (H0 : Hp) (ks : List (List Addr × Hp)) (B : List Addr) (H : Hp) (E : Ends), RSo K ow B0 H0 ks B H σ env → PoSo K mg W ow E B0 H0 ks (m env) → ts E σ H
def MSo (X : Cx) (W : WX) (ow : List Nat) (st : Stmt) (m : Sl → O) : Prop := ∃ ts, PS X st ts ∧ EvSo X.K X.mg W ow ts m
def MSso (X : Cx) (W : WX) (ow : List Nat) (st : List Stmt) (m : Sl → O) : Prop := ∃ ts, PSs X st ts ∧ EvSo X.K X.mg W ow ts m
section
variable {X : Cx} {W : WX} {ow : List Nat} {a b c e : Expr} {es : List Expr} {ma mb mc : Sl → R D} {pos p2 : Pos}
theorem Po.toOo {α β : Type} {rel : List Addr → Hp → β → α → Prop} {K : PySem.W.Frag} {mg : Str → Option Value} {σ : L2.St} {B0 B : List Addr} {H0 H : Hp} {ks : List (List Addr × Hp)} {env : Sl} {E : Ends} {Q : β → Hp → Prop} {x : R α} {f : α → O} (hs : RSo K ow B0 H0 ks B H σ env) (h : PoSo K mg W ow E B0 H0 ks (Ask.toO x f))
    (k : ∀ a, x = .ok a → ∀ v H1, RSo K ow B0 H0 ks B H1 σ env → rel B H1 v a → PoSo K mg W ow E B0 H0 ks (f a) → Q v H1) : Po rel mg W σ B H Q x := by
  cases x with
  | ok a => exact fun v H1 e r => k a rfl v H1 (hs.mono e) r h
  | err c => exact fun H' e => h σ H' (hs.mono e).kx
  | bad => exact h
theorem msso_nil : MSso X W ow [] nextM := ⟨_, pss_nil, fun env σ B0 H0 ks B H E hs h => h σ B H hs⟩
theorem msso_one {st : Stmt} {m : Sl → O} (h : MSo X W ow st m) : MSso X W ow [st] m := let ⟨t, a, b⟩ := h; ⟨t, pss_one a, b⟩
theorem msso_cons {st : Stmt} {rest : List Stmt} {m n : Sl → O} (h : MSo X W ow st m) (k : MSso X W ow rest n) : MSso X W ow (st :: rest) (seqM m n) := by
  obtain ⟨t, a1, a2⟩ := h
  obtain ⟨u, b1, b2⟩ := k
  refine ⟨_, pss_cons a1 b1, fun env σ B0 H0 ks B H E hs h => a2 env σ B0 H0 ks B H _ hs ?_⟩
  unfold seqM at h
  cases hm : m env with
  | nx e => rw [hm] at h; exact fun σ' B' H' r => b2 e σ' B0 H0 ks B' H' E r h
  | rt d => rw [hm] at h; exact h
  | bk e => rw [hm] at h; exact h
  | ct e => rw [hm] at h; exact h
  | er c => rw [hm] at h; exact h
  | bad => rw [hm] at h; exact h
def retMo (ow : List Nat) (m : Sl → R D) : Sl → O := fun env => toO (m (wipeE env ow)) .rt
theorem mso_ret (he : ME X W e ma) : MSo X W ow (.Return (some e) pos) (retMo ow ma) := by
  obtain ⟨t, a1, a2⟩ := he
  exact ⟨_, ps_ret a1, fun env σ B0 H0 ks B H E hs h => a2 _ σ B H _ hs.rs (Po.toOo hs h fun d _ v H1 h1 r q => q v H1 h1.kx (r.my h1.back))⟩
def asgMo (ow : List Nat) (i : Nat) (m : Sl → R D) : Sl → O := fun env => toO (m (wipeE env ow)) fun d => .nx (env.set i (some d))
theorem mso_set (i : Nat) {x : Str} {pos' : Pos} (hi2 : i ∉ ow) (he : ME X W e ma) (hN : X.N.Nodup) (hi : X.N[i]? = some x := by rfl) (hx : Loc X.env.scope x := by first | exact Or.inl rfl | exact Or.inr rfl) (hs : swapsWith e (some (.Name x pos')) pos.line X.env = pure false := by rfl) (hf : X.fn x = true ∨ X.env.scope.names.lookup x = some .local := by first | exact .inl rfl | exact .inr rfl) :
    MSo X W ow (.Assign [.Name x pos'] e pos) (asgMo ow i ma) := by
  obtain ⟨t, a1, a2⟩ := he
  exact ⟨_, ps_set hN hi hx a1 hs hf, fun env σ B0 H0 ks B H E hs h => a2 _ σ B H _ hs.rs (Po.toOo hs h fun d _ v H1 h1 r q => q _ B H1 (h1.set hi2 r))⟩
theorem mso_asgLc {st : Stmt} (j : Nat) {m : Sl → R D} (hj : j ∉ ow) (h : ∃ te, PS X st (tAsg te (gName j)) ∧ EvE X.K X.mg W te m) : MSo X W ow st (asgMo ow j m) := by
  obtain ⟨t, a1, a2⟩ := h
  exact ⟨_, a1, fun env σ B0 H0 ks B H E hs h => a2 _ σ B H _ hs.rs (Po.toOo hs h fun d _ v H1 h1 r q => q _ B H1 (h1.set hj r))⟩
def dropMo (ow : List Nat) (m : Sl → R D) : Sl → O := fun env => toO (m (wipeE env ow)) fun _ => .nx env
theorem mso_expr (he : ME X W e ma) (hs : swapsWith e none pos.line X.env = pure false := by rfl) : MSo X W ow (.Expr e pos) (dropMo ow ma) := by
  obtain ⟨t, a1, a2⟩ := he
  exact ⟨_, ps_expr a1 hs, fun env σ B0 H0 ks B H E hs h => a2 _ σ B H _ hs.rs (Po.toOo hs h fun d _ v H1 h1 r q => q _ B H1 h1)⟩
def ifSo (ow : List Nat) (t : Sl → R Bool) (a b : Sl → O) : Sl → O := fun env => toO (t (wipeE env ow)) fun k => if k = true then a env else b env
theorem mso_if {m : Sl → R Bool} {xs ys : List Stmt} {n k : Sl → O} (hc : MT X W c m) (ha : MSso X W ow xs n) (hb : MSso X W ow ys k) : MSo X W ow (.If c xs ys pos) (ifSo ow m n k) := by
  obtain ⟨t, h1, h2⟩ := hc
  obtain ⟨ta, a1, a2⟩ := ha
  obtain ⟨tb, b1, b2⟩ := hb
  refine ⟨_, ps_if h1 a1 b1, fun env σ B0 H0 ks B H E hs h => h2 _ σ B H _ hs.rs (Po.toOo hs h fun x _ v H1 h1 r q => ?_)⟩
  have ev : v = x := r
  subst ev
  cases v with
  | true => exact iteT (a2 env σ B0 H0 ks B H1 E h1 q)
  | false => exact iteF (b2 env σ B0 H0 ks B H1 E h1 q)
def augMo (ow : List Nat) (i : Nat) (m : Sl → R D) : Sl → O := fun env => toO (varM i (wipeE env ow)) fun a => toO (m (wipeE env ow)) fun b => match a, b with
  | .int p, .int q => .nx (env.set i (some (.int (p + q))))
  | _, _ => .bad
theorem mso_aug (i : Nat) {x : Str} {pos' : Pos} (hi2 : i ∉ ow) (he : ME X W e ma) (hN : X.N.Nodup) (hi : X.N[i]? = some x := by rfl) (hx : Loc X.env.scope x := by first | exact Or.inl rfl | exact Or.inr rfl) (hf : X.fn x = true ∨ X.env.scope.names.lookup x = some .local := by first | exact .inl rfl | exact .inr rfl) :
    MSo X W ow (.AugAssign (.Name x pos') .Add e pos) (augMo ow i ma) := by
  obtain ⟨t, a1, a2⟩ := he
  refine ⟨_, ps_aug hN hi hx a1 ip_add hf, fun env σ B0 H0 ks B H E hs h => ?_⟩
  unfold augMo varM at h
  cases hv : (wipeE env ow)[i]? with
  | none => rw [hv] at h; exact h.elim
  | some o =>
    rw [hv] at h
    cases o with
    | none => exact h.elim
    | some d =>
      obtain ⟨v, hv2, rv⟩ := hs.rs.get i d hv
      refine ⟨v, hv2, a2 _ σ B H _ hs.rs (Po.toOo hs h fun b _ u H1 h1 r q => ?_)⟩
      cases rv with
      | int p =>
        cases r with
        | int p2 => exact ⟨p, p2, rfl, rfl, q _ B H1 (h1.set hi2 (.int _))⟩
        | _ => exact q.elim
      | _ => exact q.elim
def forMo (ow : List Nat) (it : Sl → R (List D)) (b : D → Sl → Option Sl) (body : Sl → O) : Sl → O := fun env => toO (it (wipeE env ow)) fun ds => forGo b body ds env
/-- a target that is none of them -/
def GoodG (K : PySem.W.Frag) (ow : List Nat) (g : TG) (m : D → Sl → Option Sl) : Prop := ∀ (env env' : Sl) (σ : L2.St) (B0 : List Addr) (H0 : Hp) (ks : List (List Addr × Hp)) (B : List Addr) (H : Hp) (v : V) (d : D) (Q : L2.St → Hp → Prop), RSo K ow B0 H0 ks B H σ env → Rp K B H v d → m d env = some env' → (∀ σ', RSo K ow B0 H0 ks B H σ' env' → Q σ' H) → g v σ H Q
def MGo (X : Cx) (ow : List Nat) (tg : Expr) (m : D → Sl → Option Sl) : Prop := ∃ g, PG X tg g ∧ GoodG X.K ow g m
theorem mgo_name (i : Nat) {x : Str} (hi2 : i ∉ ow) (hN : X.N.Nodup) (hi : X.N[i]? = some x := by rfl) (hx : Loc X.env.scope x := by first | exact Or.inl rfl | exact Or.inr rfl) (hf : X.fn x = true ∨ X.env.scope.names.lookup x = some .local := by first | exact .inl rfl | exact .inr rfl) : MGo X ow (.Name x pos) (tgN i) :=
  ⟨_, pg_name hN hi hx hf, fun env env' σ B0 H0 ks B H v d Q hs r h q => by cases h; exact q _ (hs.set hi2 r)⟩
theorem mgo_two {x y : Expr} {k : Nat} {m1 m2 : D → Sl → Option Sl} (hc : X.calm = true) (h1 : MGo X ow x m1) (h2 : MGo X ow y m2) (s1 : (assignEach [x, y] X.env).map (·.2) = assign x X.env :: (assignEach [y] X.env).map (·.2) := by rfl) (s2 : (assignEach [y] X.env).map (·.2) = assign y X.env :: (assignEach [] X.env).map (·.2) := by rfl)
    (hn : (assignEach [x, y] X.env).length = 2 := by rfl) (hst : (assignEach [x, y] X.env).findIdx? (·.1) = none := by rfl) : MGo X ow (.Tuple [x, y] k pos) (tg2 m1 m2) := by
  obtain ⟨g1, a1, a2⟩ := h1
  obtain ⟨g2, b1, b2⟩ := h2
  refine ⟨_, pg_tup hc (pgs_cons a1 (pgs_cons b1 pgs_nil s2) s1) hn hst, fun env env' σ B0 H0 ks B H v d Q hs r h q => ?_⟩
  unfold tg2 at h
  split at h
  · next x y hd =>
    split at h
    · next hT =>
      obtain ⟨p, xs, rfl, ra, k⟩ := r.seqT hd
      rcases k with ⟨_, k⟩ | ⟨t, _⟩
      · cases ra with
        | cons r1 ra =>
          cases ra with
          | cons r2 ra =>
            cases ra
            cases h1 : m1 x env with
            | none => rw [h1] at h; cases h
            | some e1 =>
              rw [h1] at h
              exact ⟨p, _, rfl, ex_t (hid_ex B H) k, rfl, _, _, rfl, a2 env e1 σ B0 H0 ks B H _ x _ hs r1 h1 fun σ1 hs1 => ⟨_, _, rfl, b2 e1 env' σ1 B0 H0 ks B H _ y _ hs1 r2 h fun σ2 hs2 => ⟨rfl, q σ2 hs2⟩⟩⟩
      · rw [t] at hT; cases hT
    · cases h
  · cases h
/-- the iterator and what it walks, kept while new objects are laid and lists of one's own grow -/
theorem mso_for {tg iter : Expr} {body : List Stmt} {mi : Sl → R (List D)} {bi : D → Sl → Option Sl} {mb : Sl → O} (hp : PassesOwn (model X.prog X.w) X.A X.env X.xe) (hc : X.calm = true) (hi : MI X W tg iter mi) (hg : MGo X ow tg bi) (hb : MSso X W ow body mb)
    (hs : ∀ x, foldedSetIterable iter X.env x = pure x := by intro _; rfl) : MSo X W ow (.For tg iter body [] pos) (forMo ow mi bi mb) := by
  obtain ⟨wi, i1, i2⟩ := hi
  obtain ⟨g, g1, g2⟩ := hg
  obtain ⟨tb, b1, b2⟩ := hb
  refine ⟨_, ps_for hp hc i1 g1 b1 hs, fun env σ B0 H0 ks B H E hs h => i2 _ σ B H _ hs.rs (Po.toOo hs h fun ds _ J H1 h1 wk q => ?_)⟩
  have h2 : RSo X.K ow B0 H0 ((B, H1) :: ks) B H1 σ env := h1.addK
  have less : ∀ {B' : List Addr} {H' : Hp} {σ' : L2.St} {en : Sl}, RSo X.K ow B0 H0 ((B, H1) :: ks) B' H' σ' en → RSo X.K ow B0 H0 ks B' H' σ' en := fun r => r.lessK
  refine ⟨fun i m σ2 H2 => m = ds.length - i ∧ i ≤ ds.length ∧ ∃ B2 en, RSo X.K ow B0 H0 ((B, H1) :: ks) B2 H2 σ2 en ∧ PoSo X.K X.mg W ow E B0 H0 ks (forGo bi mb (ds.drop i) en), ⟨ds.length, by simp, Nat.zero_le _, B, env, h2, q⟩, ?_⟩
  rintro i m σ2 H2 ⟨rfl, hi2, B2, en, hs2, q2⟩
  obtain ⟨go, stop⟩ := wk B2 H2 (hs2.kys _ List.mem_cons_self)
  by_cases hlt : i < ds.length
  · obtain ⟨g3, y3⟩ := go i hlt
    refine .inr ⟨g3, fun σ3 H3 => i + 1 ≤ ds.length ∧ ∃ B3 en, RSo X.K ow B0 H0 ((B, H1) :: ks) B3 H3 σ3 en ∧ PoSo X.K X.mg W ow E B0 H0 ks (forGo bi mb (ds.drop (i + 1)) en), fun σ' H' n => ⟨ds.length - (i + 1), by omega, rfl, n.1, n.2⟩, fun x H3 y => ?_⟩
    obtain ⟨e3, d, hd, rx⟩ := y3 x H3 y
    have hdrop : ds.drop i = d :: ds.drop (i + 1) := by
      rw [List.drop_eq_getElem_cons hlt]
      rw [List.getElem?_eq_getElem hlt] at hd
      cases hd
      rfl
    rw [hdrop] at q2
    simp only [forGo] at q2
    cases hb : bi d en with
    | none => rw [hb] at q2; exact q2.elim
    | some f1 =>
      rw [hb] at q2
      simp only at q2
      refine g2 _ _ _ _ _ _ _ _ _ _ _ (hs2.mono e3) rx hb fun σ' hs' => b2 f1 σ' B0 H0 ((B, H1) :: ks) B2 H3 _ hs' ?_
      cases hm : mb f1 with
      | nx e => rw [hm] at q2; exact fun σ4 B4 H4 r4 => ⟨by omega, B4, e, r4, q2⟩
      | ct e => rw [hm] at q2; exact fun σ4 B4 H4 r4 => ⟨by omega, B4, e, r4, q2⟩
      | bk e => rw [hm] at q2; exact fun σ4 B4 H4 r4 => q2 σ4 B4 H4 (less r4)
      | rt d => rw [hm] at q2; exact q2
      | er c => rw [hm] at q2; exact q2
      | bad => rw [hm] at q2; exact q2.elim
  · have ei : i = ds.length := by omega
    subst ei
    rw [List.drop_length] at q2
    exact .inl ⟨stop, q2 _ B2 H2 (less hs2)⟩
/-- x = [], a list of one's own -/
def newMo (i : Nat) : Sl → O := fun env => .nx (env.set i (some (.lst [])))
theorem mso_new (i : Nat) {x : Str} {pos' lpos : Pos} (hi2 : i ∈ ow) (hN : X.N.Nodup) (hi : X.N[i]? = some x := by rfl) (hx : Loc X.env.scope x := by first | exact Or.inl rfl | exact Or.inr rfl) (hs : swapsWith (.List [] lpos) (some (.Name x pos')) pos.line X.env = pure false := by rfl) (hf : X.fn x = true ∨ X.env.scope.names.lookup x = some .local := by first | exact .inl rfl | exact .inr rfl) :
    MSo X W ow (.Assign [.Name x pos'] (.List [] lpos) pos) (newMo i) := by
  refine ⟨_, ps_set hN hi hx (pe_lst pa_nil) hs hf, fun env σ B0 H0 ks B H E hs h => ?_⟩
  refine ⟨Nat.zero_le _, fun p hp => ?_⟩
  have hB := hs.rs.inB
  have lay : Ky B H (p :: B) (upd H p (.lst [])) := ky_lay hB hp
  have h0 : H0 p = none := by
    cases q : H0 p with
    | none => rfl
    | some o => rw [hs.ex p o q] at hp; cases hp
  have hl : (wipeE env ow).length = env.length := wipeE_length env ow
  have hσ := hs.rs.len
  refine h _ (p :: B) _ ⟨hs.inB0, fun a ha => List.mem_cons_of_mem _ (hs.sub a ha), hs.ky.trans lay, fun q hq => (hs.kys q hq).trans lay, hs.ex.trans (Ex.new hp), ⟨lay.inB', ?_, fun j d q => ?_⟩, fun j hj d q => ?_, fun j hj k hk r d e q1 q2 q3 q4 => ?_⟩
  · rw [List.length_set, wipeE_length, List.length_set, hσ, hl]
  · by_cases hji : i = j
    · subst hji
      exact absurd q (wipeE_in hi2)
    · by_cases hjo : j ∈ ow
      · exact absurd q (wipeE_in hjo)
      · rw [wipeE_out hjo, List.getElem?_set_ne hji] at q
        have q' : (wipeE env ow)[j]? = some (some d) := by rw [wipeE_out hjo]; exact q
        obtain ⟨v, e1, e2⟩ := hs.rs.get j d q'
        exact ⟨v, by rw [List.getElem?_set_ne hji]; exact e1, e2.my lay⟩
  · by_cases hji : i = j
    · subst hji
      by_cases hlt : i < env.length
      · rw [List.getElem?_set_self hlt] at q
        cases q
        exact ⟨p, [], [], rfl, List.getElem?_set_self (by omega), List.mem_cons_self, h0, upd_same, .nil⟩
      · rw [List.getElem?_eq_none (by rw [List.length_set]; omega)] at q
        cases q
    · rw [List.getElem?_set_ne hji] at q
      obtain ⟨r, acc, zs, a1, a2, a3, a4, a5, a6⟩ := hs.own j hj d q
      exact ⟨r, acc, zs, a1, by rw [List.getElem?_set_ne hji]; exact a2, List.mem_cons_of_mem _ a3, a4, by rw [upd_ne (ne_of_none a5 hp)]; exact a5, a6.my lay⟩
  · have fresh : ∀ j ∈ ow, i ≠ j → ∀ d, env[j]? = some (some d) → σ[j]? = some (some (.ref r)) → r ≠ p := fun j hj hn d hd hσj => by
      obtain ⟨r', acc, zs, a1, a2, a3, a4, a5, a6⟩ := hs.own j hj d hd
      rw [a2] at hσj
      cases hσj
      exact ne_of_none a5 hp
    by_cases hji : i = j
    · by_cases hki : i = k
      · exact hji.symm.trans hki
      · subst hji
        rw [List.getElem?_set_ne hki] at q2 q4
        have lt : i < σ.length := by
          by_cases hh : i < σ.length
          · exact hh
          · rw [List.getElem?_eq_none (by rw [List.length_set]; omega)] at q3; cases q3
        rw [List.getElem?_set_self lt] at q3
        cases q3
        exact absurd rfl (fresh k hk hki e q2 q4)
    · by_cases hki : i = k
      · subst hki
        rw [List.getElem?_set_ne hji] at q1 q3
        have lt : i < σ.length := by
          by_cases hh : i < σ.length
          · exact hh
          · rw [List.getElem?_eq_none (by rw [List.length_set]; omega)] at q4; cases q4
        rw [List.getElem?_set_self lt] at q4
        cases q4
        exact absurd rfl (fresh j hj hji d q1 q3)
      · rw [List.getElem?_set_ne hji] at q1 q3
        rw [List.getElem?_set_ne hki] at q2 q4
        exact hs.dis j hj k hk r d e q1 q2 q3 q4
/-- x.append(e) -/
def appMo (ow : List Nat) (i : Nat) (m : Sl → R D) : Sl → O := fun env => match env[i]? with
  | some (some (.lst zs)) => toO (m (wipeE env ow)) fun d => if zs.length ≤ 50000 then .nx (env.set i (some (.lst (zs ++ [d])))) else .bad
  | _ => .bad
theorem mso_app (i : Nat) {x : Str} {px apos cpos : Pos} (hi2 : i ∈ ow) (he : ME X W e ma) (hi : X.N[i]? = some x := by rfl) (hv : Vis X.env.scope x := by first | exact Or.inl rfl | exact Or.inr (Or.inl rfl) | exact Or.inr (Or.inr rfl)) (hd : (x == ("__debug__" : Str)) = false := by decide) (hcd : (x == ("__classdict__" : Str)) = false := by decide)
    (hs : swapsWith (.Call (.Attribute (.Name x px) "append" apos) [e] [] cpos) none pos.line X.env = pure false := by rfl)
    (hbase : attributeBase (.Name x px) "append" X.env (eval (.Name x px) X.env) = eval (.Name x px) X.env := by rfl)
    (hfew : ((backTo cpos (starEach [e] X.env)).all (fun x => !x.1) && (backToKw cpos (keywordEach [] X.env)).all (fun x => x.1.isSome)
      && decide (([e] : List Expr).length + ([] : List Keyword).length + (if ([] : List Keyword).isEmpty then 0 else 1) < 30)) = true := by rfl)
    (hline : (apos.endLine == cpos.line) = true := by rfl) (hst : starEach [e] X.env = (false, eval e X.env) :: starEach [] X.env := by rfl) (hplain : (backTo cpos (starEach ([] : List Expr) X.env)).any (·.1) = false := by rfl) :
    MSo X W ow (.Expr (.Call (.Attribute (.Name x px) "append" apos) [e] [] cpos) pos) (appMo ow i ma) := by
  obtain ⟨t, a1, a2⟩ := he
  refine ⟨_, ps_expr (pe_bm PySem.F.plainAttrs_list PySem.F.slot_list_append PySem.F.type_list_append mt_append (pe_var (i := i) hi hv hd hcd) (pa_cons a1 pa_nil hst) hbase hfew hline hst hplain) hs, fun env σ B0 H0 ks B H E hs h => ?_⟩
  unfold appMo at h
  split at h
  · next zs hz =>
    obtain ⟨p, acc, zs', e0, hσ, hpB, hp0, hp, ra⟩ := hs.own i hi2 _ hz
    cases e0
    refine ⟨.ref p, hσ, .inl ⟨rfl, acc, .inl (.inl hp)⟩, a2 _ σ B H _ hs.rs (Po.toOo hs h fun d _ v H1 h1 r q => ?_)⟩
    by_cases hl : zs.length ≤ 50000
    · rw [if_pos hl] at q
      obtain ⟨p', acc', zs'', e0, hσ', hpB', hp0', hp', ra'⟩ := h1.own i hi2 _ hz
      rw [hσ] at hσ'
      cases hσ'
      cases e0
      have lt : acc'.length = zs.length := ra'.length
      have hB := h1.rs.inB
      have put : ∀ {b : List Addr} {h : Hp}, Ky b h B H1 → Ky b h B (upd H1 p (.lst (acc' ++ [v]))) := fun {b h} k => by
        refine ⟨fun a o z => ?_, fun a ha => ?_⟩
        · have z1 := k.hid a o z
          have hn : a ∉ B := fun y => by unfold Ask.hid at z1; rw [if_pos y] at z1; cases z1
          have hap : a ≠ p := fun y => hn (by rw [y]; exact hpB)
          exact hid_at (by rw [upd_ne hap]; exact hid_some z1) hn
        · by_cases hap : a = p
          · rw [hap, upd_same]; exact fun z => by cases z
          · rw [upd_ne hap]; exact hB a ha
      have putS : Ky B H1 B (upd H1 p (.lst (acc' ++ [v]))) := put ⟨Ex.refl _, hB⟩
      have hlen := h1.rs.len
      have ilt : i < env.length := by
        by_cases hh : i < env.length
        · exact hh
        · rw [List.getElem?_eq_none (by omega)] at hz; cases hz
      refine ⟨p, acc', v, rfl, rfl, hp', sz_lt (by omega), q _ B _ ⟨h1.inB0, h1.sub, put h1.ky, fun z hz => put (h1.kys z hz), Ex.mut h1.ex hp0, ⟨putS.inB', ?_, fun j d' q' => ?_⟩, fun j hj d' q' => ?_, fun j hj k hk r' d' e' q1 q2 q3 q4 => ?_⟩⟩
      · rw [wipeE_length, List.length_set, hlen, wipeE_length]
      · by_cases hjo : j ∈ ow
        · exact absurd q' (wipeE_in hjo)
        · have hji : i ≠ j := fun z => hjo (z ▸ hi2)
          rw [wipeE_out hjo, List.getElem?_set_ne hji] at q'
          have q'' : (wipeE env ow)[j]? = some (some d') := by rw [wipeE_out hjo]; exact q'
          obtain ⟨u, e1, e2⟩ := h1.rs.get j d' q''
          exact ⟨u, e1, e2.my putS⟩
      · by_cases hji : i = j
        · subst hji
          rw [List.getElem?_set_self ilt] at q'
          cases q'
          exact ⟨p, acc' ++ [v], zs ++ [d], rfl, hσ, hpB, hp0, upd_same, (ra'.append (.cons r .nil)).my putS⟩
        · rw [List.getElem?_set_ne hji] at q'
          obtain ⟨p2, acc2, zs2, b1, b2, b3, b4, b5, b6⟩ := h1.own j hj d' q'
          have hne : p2 ≠ p := fun z => by
            subst z
            exact hji (h1.dis i hi2 j hj p2 _ _ hz q' hσ b2)
          exact ⟨p2, acc2, zs2, b1, b2, b3, b4, by rw [upd_ne hne]; exact b5, b6.my putS⟩
      · have back : ∀ {j : Nat} {d'' : D}, (env.set i (some (D.lst (zs ++ [d]))))[j]? = some (some d'') → ∃ d3, env[j]? = some (some d3) := fun {j d''} z => by
          by_cases hji : i = j
          · subst hji; exact ⟨_, hz⟩
          · rw [List.getElem?_set_ne hji] at z; exact ⟨_, z⟩
        obtain ⟨d3, z3⟩ := back q1
        obtain ⟨d4, z4⟩ := back q2
        exact h1.dis j hj k hk r' d3 d4 z3 z4 q3 q4
    · rw [if_neg hl] at q
      exact q.elim
  · exact h.elim
/-- return x, a list of one's own -/
def retOwn (i : Nat) : Sl → O := fun env => match env[i]? with
  | some (some d) => .rt d
  | _ => .bad
theorem mso_retOwn (i : Nat) {x : Str} {px : Pos} (hi2 : i ∈ ow) (hi : X.N[i]? = some x := by rfl) (hv : Vis X.env.scope x := by first | exact Or.inl rfl | exact Or.inr (Or.inl rfl) | exact Or.inr (Or.inr rfl)) (hd : (x == ("__debug__" : Str)) = false := by decide) (hcd : (x == ("__classdict__" : Str)) = false := by decide) :
    MSo X W ow (.Return (some (.Name x px)) pos) (retOwn i) := by
  refine ⟨_, ps_ret (pe_var (i := i) hi hv hd hcd), fun env σ B0 H0 ks B H E hs h => ?_⟩
  unfold retOwn at h
  split at h
  · next d hz =>
    obtain ⟨p, acc, zs, e0, hσ, hpB, hp0, hp, ra⟩ := hs.own i hi2 _ hz
    subst e0
    exact ⟨.ref p, hσ, h _ H hs.kx (.lst (hid_at hp fun z => hs.inB0 p z hp0) (ra.my hs.back))⟩
  · exact h.elim
theorem fn_okoR {P : Program} {w : World} {K : PySem.W.Frag} {mg : Str → Option Value} {base : Heap} {x qual : Str} {st : Stmt} {f : Addr} {fd : FuncData} {N ps : List Str} {k n nl : Nat} {mb : Sl → O} (F : Fun K x qual st f fd) (S : FnScope N ps (defScope st)) (hn : ps.length = n) (hnl : N.length = n + nl) (how : ∀ i ∈ ow, n ≤ i)
    (body : ∀ (cdv : Value) (A : Around) (outer : List Env) (s : Shared) (H : Hp) (E : XK), Room k (A.deeper (PyProof.Rows.envOfC qual (defScope st) s.heap.objs.size f cdv)) →
      MSso (cxOf (L2.CX P w) P w K mg base N qual (defScope st) f cdv A outer s H E) (fun cls d _ H' => E cls d H') ow (defBody st) mb) : FnOk P w K mg base (L2.CX P w) (k + 1) f fd ps (spM K mg n (fnM n nl mb)) := by
  refine F.okX S (fun vs H Q E h => ?_) fun cdv A outer s H vs Q E hr h => ?_
  · obtain ⟨B, ds, _, hl, r, _⟩ := h
    rw [r.length, hl, hn]
  · obtain ⟨B, ds, hB, hl, r, q⟩ := h
    obtain ⟨t, t1, t2⟩ := body cdv A outer s H E hr
    have e : N.length - ds.length = nl := by omega
    have rs := rs_start (N := N) hB r
    rw [e] at rs
    have none_at : ∀ i ∈ ow, ∀ d, (ds.map some ++ List.replicate nl none)[i]? ≠ some (some d) := fun i hi d z => by
      have := how i hi
      rw [List.getElem?_append_right (by simp; omega), List.getElem?_replicate] at z
      split at z <;> cases z
    refine ⟨t, t1, t2 _ _ B H [] B H _ ⟨hB, fun _ z => z, ⟨Ex.refl _, hB⟩, (fun _ z => by cases z), Ex.refl _, ⟨hB, by rw [wipeE_length]; exact rs.len, fun i d z => ?_⟩, fun i hi d z => absurd z (none_at i hi d), fun i hi j hj p d e z => absurd z (none_at i hi d)⟩ ?_⟩
    · by_cases hi : i ∈ ow
      · exact absurd z (wipeE_in hi)
      · rw [wipeE_out hi] at z
        exact rs.get i d z
    unfold fnM at q
    rw [if_pos hl] at q
    show PoSo K mg (fun cls d _ H' => E cls d H') ow { nx := fun _ H' => Q .non H', rt := Q } B H [] (mb (ds.map some ++ List.replicate nl none))
    cases hb : mb (ds.map some ++ List.replicate nl none) with
    | nx e => rw [hb] at q; exact fun σ' B' H' x => q .non H' x.kx .non
    | rt d => rw [hb] at q; exact q
    | er c => rw [hb] at q; exact fun σ' H' x => q H' x
    | bk e => rw [hb] at q; exact q.elim
    | ct e => rw [hb] at q; exact q.elim
    | bad => rw [hb] at q; exact q.elim
theorem fn_oko {P : Program} {w : World} {K : PySem.W.Frag} {mg : Str → Option Value} {base : Heap} {x qual : Str} {st : Stmt} {f : Addr} {fd : FuncData} {N ps : List Str} {k n nl : Nat} {mb : Sl → O} (F : Fun K x qual st f fd) (S : FnScope N ps (defScope st)) (hn : ps.length = n) (hnl : N.length = n + nl) (hm : mg x = some (.ref f))
    (hbd : ∀ (kV doc pm : Value) (an : Option Addr) (cdv ct : Value) (us : List Value), us.length = ps.length → bindArgs (PySem.W.fnOf x qual (defArgs st) (defBody st) (defScope st) .none kV doc pm an cdv ct) ⟨us, []⟩ = pure (ps.zip us)) (how : ∀ i ∈ ow, n ≤ i)
    (body : ∀ (cdv : Value) (A : Around) (outer : List Env) (s : Shared) (H : Hp) (E : XK), Room k (A.deeper (PyProof.Rows.envOfC qual (defScope st) s.heap.objs.size f cdv)) →
      MSso (cxOf (L2.CX P w) P w K mg base N qual (defScope st) f cdv A outer s H E) (fun cls d _ H' => E cls d H') ow (defBody st) mb) : FnI P w K mg base x (k + 1) n (fnM n nl mb) :=
  ⟨f, fd, ps, hn, hm, F.kp, F.binds hbd, fn_okoR F S hn hnl how body⟩
end
end Ask
namespace Ask
open PySem L2 Evl
/-- in an except suite: isinstance of the exception that the name holds -/
def bIsE (K : PySem.W.Frag) (Dc a : Addr) : List D → Option D
  | [.own x, .own C] => if x = a then match PySem.W.kitOne K (.ref Dc) (.ref C) with
    | some b => some (.bl b)
    | none => none else none
  | [.own x, .ty n] => if x = a then match PySem.W.kitOne K (.ref Dc) (.type n) with
    | some b => some (.bl b)
    | none => none else none
  | _ => none
theorem cb_isE {X : Cx} {a Dc : Addr} {oe : Obj} {pn : List (Addr × Obj)} (C : ExcC X.K Dc) (hz : Zc (.ref Dc) none oe) (hf : ∃ vs, oe.data = .fields vs) : CbM (X.suite a ((a, oe) :: pn)) (.builtin "isinstance") (bIsE X.K Dc a) := by
  refine ⟨_, call_isE C hz hf, fun vs ds z B H Q hB r h q => ?_⟩
  unfold bIsE at h
  split at h
  · cases r with
    | cons r1 r2 =>
      cases r2 with
      | cons r3 r4 =>
        cases r4
        cases r1
        cases r3
        split at h
        · next hx =>
          subst hx
          split at h
          · next b hb => cases h; exact ⟨_, _, b, rfl, fun u hu => hu, hb, q _ H (Kx.refl hB) (.bl _)⟩
          · cases h
        · cases h
  · cases r with
    | cons r1 r2 =>
      cases r2 with
      | cons r3 r4 =>
        cases r4
        cases r1
        cases r3
        split at h
        · next hx =>
          subst hx
          split at h
          · next b hb => cases h; exact ⟨_, _, b, rfl, fun u hu => hu, hb, q _ H (Kx.refl hB) (.bl _)⟩
          · cases h
        · cases h
  · cases h
/-- the weakest reading of a block -/
def tsOf (K : PySem.W.Frag) (mg : Str → Option Value) (W : WX) (m : Sl → O) : TS := fun E σ H => ∃ env B, RS K B H σ env ∧ PoS K mg W E B H (m env)
theorem MSs.pss {X : Cx} {W : WX} {st : List Stmt} {m : Sl → O} (h : MSs X W st m) : PSs X st (tsOf X.K X.mg W m) := by
  obtain ⟨t, h1, h2⟩ := h
  exact ⟨fun pins s σ H E I ⟨env, B, hs, q⟩ => h1.run pins s σ H E I (h2 env σ B H E hs q)⟩
end Ask
namespace Ask
open PySem L2 Evl
/-! more: str, list, tuple, max of two, == of rows, while -/
section
variable {X : Cx} {W : WX} {e a b c : Expr} {es : List Expr} {ma mb mc : Sl → R D} {pos p2 : Pos}
def bStr : List D → Option D
  | [.int n] => if n.natAbs.log2 < 1920 then some (.str (toString n)) else none
  | _ => none
theorem cb_str : CbM X (.type "str") bStr := by
  refine ⟨_, call_str_int, fun vs ds z B H Q hB r h q => ?_⟩
  unfold bStr at h
  split at h
  · split at h
    · next hn =>
      cases h
      cases r with
      | cons r1 r2 => cases r2; cases r1; exact ⟨_, rfl, hn, q _ H (Kx.refl hB) (.str _)⟩
    · cases h
  · cases h
def bList : List D → Option D
  | [d] => match d.items with
    | some ds => some (.lst ds)
    | none => none
  | _ => none
theorem cb_list (hc : CallR X (.type "list") (fun xs H Q => ∃ p ys, xs = [.ref p] ∧ (SqL X.K H p ys ∨ SqT X.K H p ys) ∧ ∀ l, H l = none → Q (.ref l) (upd H l (.lst ys)))) : CbM X (.type "list") bList := by
  refine ⟨_, hc, fun vs ds z B H Q hB r h q => ?_⟩
  unfold bList at h
  split at h
  · cases r with
    | cons r1 r2 =>
      cases r2
      split at h
      · next ys hi =>
        cases h
        obtain ⟨p, xs, rfl, hs, ra⟩ := r1.seq hi
        exact ⟨p, xs, rfl, hs, fun l hl => q _ _ (Kx.new hB hl) (.lst (hid_new hB hl) (ra.mv (Kx.new hB hl)))⟩
      · cases h
  · cases h
def bTuple : List D → Option D
  | [.lst ds] => some (.tup ds)
  | [.klst ds] => some (.tup ds)
  | [.tup ds] => some (.tup ds)
  | [.ktup ds] => some (.ktup ds)
  | _ => none
theorem cb_tuple (hc : CallR X (.type "tuple") (fun xs H Q => ∃ p ys, xs = [.ref p] ∧ ((SqL X.K H p ys ∧ ∀ l, H l = none → Q (.ref l) (upd H l (.tup ys))) ∨ (SqT X.K H p ys ∧ Q (.ref p) H)))) : CbM X (.type "tuple") bTuple := by
  refine ⟨_, hc, fun vs ds z B H Q hB r h q => ?_⟩
  unfold bTuple at h
  split at h
  · cases r with
    | cons r1 r2 =>
      cases r2; cases h
      cases r1 with
      | lst hp ra => exact ⟨_, _, rfl, .inl ⟨sq_of (hid_some hp), fun l hl => q _ _ (Kx.new hB hl) (.tup (hid_new hB hl) (ra.mv (Kx.new hB hl)))⟩⟩
  · cases r with
    | cons r1 r2 =>
      cases r2; cases h
      cases r1 with
      | klst hp ra => exact ⟨_, _, rfl, .inl ⟨ex_l (hid_ex B H) hp, fun l hl => q _ _ (Kx.new hB hl) (.tup (hid_new hB hl) (ra.mv (Kx.new hB hl)))⟩⟩
  · cases r with
    | cons r1 r2 =>
      cases r2; cases h
      cases r1 with
      | tup hp ra => exact ⟨_, _, rfl, .inr ⟨st_of (hid_some hp), q _ H (Kx.refl hB) (.tup hp ra)⟩⟩
  · cases r with
    | cons r1 r2 =>
      cases r2; cases h
      cases r1 with
      | ktup hp ra => exact ⟨_, _, rfl, .inr ⟨ex_t (hid_ex B H) hp, q _ H (Kx.refl hB) (.ktup hp ra)⟩⟩
  · cases h
def bMax2 : List D → Option D
  | [.int i, .int j] => some (.int (if j > i then j else i))
  | _ => none
theorem cb_max2 (hc : X.calm = true) : CbM X (.builtin "max") bMax2 := by
  refine ⟨_, call_max2 hc, fun vs ds z B H Q hB r h q => ?_⟩
  unfold bMax2 at h
  split at h
  · cases r with
    | cons r1 r2 =>
      cases r2 with
      | cons r3 r4 => cases r4; cases r1; cases r3; cases h; exact ⟨_, _, rfl, q _ H (Kx.refl hB) (.int _)⟩
  · cases h
/-! == of rows within rows -/
mutual
def D.py : D → Option PyData
  | .non => some .none
  | .bl b => some (.bool b)
  | .int i => some (.int i)
  | .str x => some (.str x)
  | .tup ds => match pys ds with
    | some xs => some (.tuple xs)
    | none => none
  | .ktup ds => match pys ds with
    | some xs => some (.tuple xs)
    | none => none
  | .lst ds => match pys ds with
    | some xs => some (.list xs)
    | none => none
  | .klst ds => match pys ds with
    | some xs => some (.list xs)
    | none => none
  | .ty _ => none
  | .dct _ => none
  | .own _ => none
  | .ins _ _ => none
def pys : List D → Option (List PyData)
  | [] => some []
  | d :: ds => match d.py, pys ds with
    | some x, some xs => some (x :: xs)
    | _, _ => none
end
mutual
theorem rp_py {K : PySem.W.Frag} {B : List Addr} {H : Hp} : ∀ {d : D} {v : V} {x : PyData}, Rp K B H v d → d.py = some x → Dp K H v x
  | .non, v, x, r, h => by cases r; simp only [D.py] at h; cases h; exact .non
  | .bl b, v, x, r, h => by cases r; simp only [D.py] at h; cases h; exact .bl b
  | .int i, v, x, r, h => by cases r; simp only [D.py] at h; cases h; exact .int i
  | .str z, v, x, r, h => by cases r; simp only [D.py] at h; cases h; exact .str z
  | .tup ds, v, x, r, h => by
    simp only [D.py] at h
    split at h
    · next xs hx => cases h; cases r with
      | tup hp ra => exact .tup (st_of (hid_some hp)) (rpa_py ra hx)
    · cases h
  | .ktup ds, v, x, r, h => by
    simp only [D.py] at h
    split at h
    · next xs hx => cases h; cases r with
      | ktup hp ra => exact .tup (ex_t (hid_ex B H) hp) (rpa_py ra hx)
    · cases h
  | .lst ds, v, x, r, h => by
    simp only [D.py] at h
    split at h
    · next xs hx => cases h; cases r with
      | lst hp ra => exact .lst (sq_of (hid_some hp)) (rpa_py ra hx)
    · cases h
  | .klst ds, v, x, r, h => by
    simp only [D.py] at h
    split at h
    · next xs hx => cases h; cases r with
      | klst hp ra => exact .lst (ex_l (hid_ex B H) hp) (rpa_py ra hx)
    · cases h
  | .ty _, v, x, r, h => by simp only [D.py] at h; cases h
  | .dct _, v, x, r, h => by simp only [D.py] at h; cases h
  | .own _, v, x, r, h => by simp only [D.py] at h; cases h
  | .ins _ _, v, x, r, h => by simp only [D.py] at h; cases h
theorem rpa_py {K : PySem.W.Frag} {B : List Addr} {H : Hp} : ∀ {ds : List D} {vs : List V} {xs : List PyData}, RpA K B H vs ds → pys ds = some xs → DpAll K H vs xs
  | [], vs, xs, r, h => by cases r; simp only [pys] at h; cases h; exact .nil
  | d :: ds, vs, xs, r, h => by
    simp only [pys] at h
    split at h
    · next x ys h1 h2 => cases h; cases r with
      | cons r1 r2 => exact .cons (rp_py r1 h1) (rpa_py r2 h2)
    · cases h
end
def D.eqP (a b : D) : Option D := match a.py, b.py with
  | some x, some y => if (SeqAt.shaped x && SeqAt.shaped y) = true then some (.bl (PyData.eqv x y)) else none
  | _, _ => none
def D.neP (a b : D) : Option D := match a.py, b.py with
  | some x, some y => if (SeqAt.shaped x && SeqAt.shaped y) = true then some (.bl (!PyData.eqv x y)) else none
  | _, _ => none
theorem om_eqP (hu : X.A.units + 64 < cLine) : OpM X (compareOp .Eq) D.eqP := ⟨_, op_eqD hu, fun x y d e z B H Q hB rx ry h q => by
  unfold D.eqP at h
  split at h
  · next p1 p2 h1 h2 =>
    split at h
    · next hs =>
      cases h
      rw [Bool.and_eq_true] at hs
      exact ⟨_, _, rp_py rx h1, rp_py ry h2, hs.1, hs.2, q _ H (Kx.refl hB) (.bl _)⟩
    · cases h
  · cases h⟩
theorem om_neP (hu : X.A.units + 64 < cLine) : OpM X (compareOp .NotEq) D.neP := ⟨_, op_neD hu, fun x y d e z B H Q hB rx ry h q => by
  unfold D.neP at h
  split at h
  · next p1 p2 h1 h2 =>
    split at h
    · next hs =>
      cases h
      rw [Bool.and_eq_true] at hs
      exact ⟨_, _, rp_py rx h1, rp_py ry h2, hs.1, hs.2, q _ H (Kx.refl hB) (.bl _)⟩
    · cases h
  · cases h⟩
/-! while: as many turns as it takes -/
def whGo (t : Sl → R Bool) (body : Sl → O) : Nat → Sl → O
  | 0, _ => .bad
  | n + 1, env => toO (t env) fun b => if b = true then (match body env with
    | .nx e => whGo t body n e
    | .ct e => whGo t body n e
    | .bk e => .nx e
    | o => o) else .nx env
theorem whGo_more {t : Sl → R Bool} {body : Sl → O} : ∀ {n : Nat} {env : Sl}, whGo t body n env ≠ .bad → ∀ k, whGo t body (n + k) env = whGo t body n env
  | 0, env, h, k => absurd rfl h
  | n + 1, env, h, k => by
    rw [show n + 1 + k = (n + k) + 1 by omega]
    unfold whGo at h ⊢
    cases ht : t env with
    | err c => simp only [toO]
    | bad => simp only [toO]
    | ok b =>
      rw [ht] at h
      simp only [toO] at h ⊢
      cases b with
      | false => rfl
      | true =>
        simp only [if_true] at h ⊢
        cases hb : body env with
        | nx e => rw [hb] at h; exact whGo_more h k
        | ct e => rw [hb] at h; exact whGo_more h k
        | bk e => rfl
        | rt d => rfl
        | er c => rfl
        | bad => rfl
open Classical in
noncomputable def whM (t : Sl → R Bool) (body : Sl → O) : Sl → O := fun env => if h : ∃ n, whGo t body n env ≠ .bad then whGo t body (Classical.choose h) env else .bad
theorem whM_is {t : Sl → R Bool} {body : Sl → O} {n : Nat} {env : Sl} {o : O} (h : whGo t body n env = o) (hb : o ≠ .bad) : whM t body env = o := by
  have ex : ∃ n, whGo t body n env ≠ .bad := ⟨n, by rw [h]; exact hb⟩
  unfold whM
  rw [dif_pos ex]
  have h1 := Classical.choose_spec ex
  generalize Classical.choose ex = m at h1 ⊢
  have e1 := whGo_more h1 n
  have e2 := whGo_more (n := n) (env := env) (by rw [h]; exact hb) m
  rw [← e1, Nat.add_comm, e2, h]
theorem ms_while {body : List Stmt} {mt : Sl → R Bool} {mb : Sl → O} (hp : PassesOwn (model X.prog X.w) X.A X.env X.xe) (hc : MT X W c mt) (hb : MSs X W body mb) : MS X W (.While c body [] pos) (whM mt mb) := by
  obtain ⟨tc, c1, c2⟩ := hc
  obtain ⟨tb, b1, b2⟩ := hb
  refine ⟨_, ps_while hp c1 b1, fun env σ B H E hs h => ?_⟩
  unfold whM at h
  split at h
  · next ex =>
    generalize Classical.choose ex = n at h
    refine ⟨fun m σ2 H2 => Kx B H H2 ∧ ∃ en, RS X.K B H2 σ2 en ∧ PoS X.K X.mg W E B H2 (whGo mt mb m en), ⟨n, Kx.refl hs.inB, env, hs, h⟩, ?_⟩
    rintro m σ2 H2 ⟨k2, en, hs2, q2⟩
    cases m with
    | zero => exact q2.elim
    | succ m =>
      unfold whGo at q2
      refine c2 en σ2 B H2 _ hs2 (Po.toO q2 fun bb hbb v H3 e3 r q => ?_)
      have ev : v = bb := r
      subst ev
      cases v with
      | false => exact iteF (q σ2 H3 (Kx.refl e3.inB') (hs2.mono e3))
      | true =>
        simp only [if_true] at q
        refine iteT ⟨fun σ4 H4 => Kx B H H4 ∧ ∃ en, RS X.K B H4 σ4 en ∧ PoS X.K X.mg W E B H4 (whGo mt mb m en), fun σ' H' n => ⟨m, Nat.lt_succ_self m, n⟩, b2 en σ2 B H3 _ (hs2.mono e3) ?_⟩
        cases hm : mb en with
        | nx e => rw [hm] at q; exact fun σ4 H4 x4 r4 => ⟨(k2.trans e3).trans x4, e, r4, PoS.mono x4 q⟩
        | ct e => rw [hm] at q; exact fun σ4 H4 x4 r4 => ⟨(k2.trans e3).trans x4, e, r4, PoS.mono x4 q⟩
        | bk e => rw [hm] at q; exact q
        | rt d => rw [hm] at q; exact q
        | er c => rw [hm] at q; exact q
        | bad => rw [hm] at q; exact q.elim
  · exact h.elim
end
end Ask
namespace Ask
open PySem L2 Evl
/-! defs with lists of their own, that grow: the slots ow hold them; no other name reads them -/
/-- what stands at an address of one's own -/
def OwnAt (K : PySem.W.Frag) (B : List Addr) (H : Hp) (p : Addr) (d : D) : Prop := (∃ acc zs, d = .lst zs ∧ H p = some (.lst acc) ∧ RpA K B H acc zs) ∨ (∃ xs kvs, d = .dct kvs ∧ H p = some (.dK xs) ∧ RpD0 K (hid B H) xs kvs)
theorem OwnAt.some {K : PySem.W.Frag} {B : List Addr} {H : Hp} {p : Addr} {d : D} (h : OwnAt K B H p d) : H p ≠ none := by
  rcases h with ⟨_, _, _, h, _⟩ | ⟨_, _, _, h, _⟩ <;> (rw [h]; exact fun z => by cases z)
theorem OwnAt.my {K : PySem.W.Frag} {B B' : List Addr} {H H' : Hp} {p : Addr} {d : D} (h : OwnAt K B H p d) (k : Ky B H B' H') (e : H' p = H p) : OwnAt K B' H' p d := by
  rcases h with ⟨acc, zs, h1, h2, h3⟩ | ⟨acc, zs, h1, h2, h3⟩
  · exact .inl ⟨acc, zs, h1, e.trans h2, h3.my k⟩
  · exact .inr ⟨acc, zs, h1, e.trans h2, h3.mono k.hid⟩
theorem OwnAt.mv {K : PySem.W.Frag} {B : List Addr} {H H' : Hp} {p : Addr} {d : D} (h : OwnAt K B H p d) (k : Kx B H H') : OwnAt K B H' p d := by
  refine h.my k.ky ?_
  rcases h with ⟨_, _, _, h, _⟩ | ⟨_, _, _, h, _⟩ <;> (rw [h, k.ex _ _ h])
structure RSw (K : PySem.W.Frag) (ow : List Nat) (B0 : List Addr) (H0 : Hp) (ks : List (List Addr × Hp)) (B : List Addr) (H : Hp) (σ : L2.St) (env : Sl) : Prop where
  inB0 : InB B0 H0
  sub : ∀ a ∈ B0, a ∈ B
  ky : Ky B0 H0 B H
  kys : ∀ p ∈ ks, Ky p.1 p.2 B H
  ex : Ex H0 H
  rs : RS K B H σ (wipeE env ow)
  own : ∀ i ∈ ow, ∀ d, env[i]? = some (some d) → ∃ p, σ[i]? = some (some (.ref p)) ∧ p ∈ B ∧ H0 p = none ∧ OwnAt K B H p d
  dis : ∀ i ∈ ow, ∀ j ∈ ow, ∀ p d e, env[i]? = some (some d) → env[j]? = some (some e) → σ[i]? = some (some (.ref p)) → σ[j]? = some (some (.ref p)) → i = j
section
variable {K : PySem.W.Frag} {ow : List Nat} {B0 B : List Addr} {H0 H H1 : Hp} {ks : List (List Addr × Hp)} {σ : L2.St} {env : Sl}
theorem RSw.mono (h : RSw K ow B0 H0 ks B H σ env) (e : Kx B H H1) : RSw K ow B0 H0 ks B H1 σ env where
  inB0 := h.inB0
  sub := h.sub
  ky := h.ky.trans e.ky
  kys := fun p hp => (h.kys p hp).trans e.ky
  ex := h.ex.trans e.ex
  rs := h.rs.mono e
  own := fun i hi d q => let ⟨p, a2, a3, a4, a5⟩ := h.own i hi d q; ⟨p, a2, a3, a4, a5.mv e⟩
  dis := h.dis
theorem RSw.kx (h : RSw K ow B0 H0 ks B H σ env) : Kx B0 H0 H := ⟨h.ex, h.inB0⟩
theorem RSw.back (h : RSw K ow B0 H0 ks B H σ env) : Ky B H B0 H where
  hid := fun a u q => by
    have hn : a ∉ B := fun z => by unfold Ask.hid at q; rw [if_pos z] at q; cases q
    exact hid_at (hid_some q) fun z => hn (h.sub a z)
  inB' := fun a ha => h.ky.inB' a (h.sub a ha)
theorem RSw.addK (h : RSw K ow B0 H0 ks B H σ env) : RSw K ow B0 H0 ((B, H) :: ks) B H σ env := by
  refine ⟨h.inB0, h.sub, h.ky, fun p hp => ?_, h.ex, h.rs, h.own, h.dis⟩
  rcases List.mem_cons.mp hp with e | e
  · subst e; exact ⟨Ex.refl _, h.ky.inB'⟩
  · exact h.kys p e
theorem RSw.lessK {k0 : List Addr × Hp} (h : RSw K ow B0 H0 (k0 :: ks) B H σ env) : RSw K ow B0 H0 ks B H σ env :=
  ⟨h.inB0, h.sub, h.ky, fun p hp => h.kys p (List.mem_cons_of_mem _ hp), h.ex, h.rs, h.own, h.dis⟩
theorem RSw.set {i : Nat} {v : V} {d : D} (h : RSw K ow B0 H0 ks B H σ env) (hi : i ∉ ow) (r : Rp K B H v d) : RSw K ow B0 H0 ks B H (σ.set i (some v)) (env.set i (some d)) where
  inB0 := h.inB0
  sub := h.sub
  ky := h.ky
  kys := h.kys
  ex := h.ex
  rs := by rw [wipe_setE hi]; exact h.rs.set r
  own := fun j hj e q => by
    have hn : i ≠ j := fun z => hi (z ▸ hj)
    rw [List.getElem?_set_ne hn] at q
    rw [List.getElem?_set_ne hn]
    exact h.own j hj e q
  dis := fun j hj k hk p d e q1 q2 q3 q4 => by
    have hn : i ≠ j := fun z => hi (z ▸ hj)
    have hm : i ≠ k := fun z => hi (z ▸ hk)
    rw [List.getElem?_set_ne hn] at q1 q3
    rw [List.getElem?_set_ne hm] at q2 q4
    exact h.dis j hj k hk p d e q1 q2 q3 q4
end
def PoSw (K : PySem.W.Frag) (mg : Str → Option Value) (W : WX) (ow : List Nat) (E : Ends) (B0 : List Addr) (H0 : Hp) (ks : List (List Addr × Hp)) : O → Prop
  | .nx env => ∀ σ' B' H', RSw K ow B0 H0 ks B' H' σ' env → E.nx σ' H'
  | .rt d => ∀ v H', Kx B0 H0 H' → Rp K B0 H' v d → E.rt v H'
  | .bk env => ∀ σ' B' H', RSw K ow B0 H0 ks B' H' σ' env → E.bk σ' H'
  | .ct env => ∀ σ' B' H', RSw K ow B0 H0 ks B' H' σ' env → E.ct σ' H'
  | .er c => ∀ σ' H', Kx B0 H0 H' → W (clsV mg c) none σ' H'
  | .bad => False
def EvSw (K : PySem.W.Frag) (mg : Str → Option Value) (W : WX) (ow : List Nat) (ts : TS) (m : Sl → O) : Prop := ∀ (env : Sl) (σ : L2.St) (B0 : List Addr) (H0 : Hp) (ks : List (List Addr × Hp)) (B : List Addr) (H : Hp) (E : Ends), RSw K ow B0 H0 ks B H σ env → PoSw K mg W ow E B0 H0 ks (m env) → ts E σ H
def MSw (X : Cx) (W : WX) (ow : List Nat) (st : Stmt) (m : Sl → O) : Prop := ∃ ts, PS X st ts ∧ EvSw X.K X.mg W ow ts m
def MSsw (X : Cx) (W : WX) (ow : List Nat) (st : List Stmt) (m : Sl → O) : Prop := ∃ ts, PSs X st ts ∧ EvSw X.K X.mg W ow ts m
section
variable {X : Cx} {W : WX} {ow : List Nat} {a b c e : Expr} {es : List Expr} {ma mb mc : Sl → R D} {pos p2 : Pos}
theorem Po.toOw {α β : Type} {rel : List Addr → Hp → β → α → Prop} {K : PySem.W.Frag} {mg : Str → Option Value} {σ : L2.St} {B0 B : List Addr} {H0 H : Hp} {ks : List (List Addr × Hp)} {env : Sl} {E : Ends} {Q : β → Hp → Prop} {x : R α} {f : α → O} (hs : RSw K ow B0 H0 ks B H σ env) (h : PoSw K mg W ow E B0 H0 ks (Ask.toO x f))
    (k : ∀ a, x = .ok a → ∀ v H1, RSw K ow B0 H0 ks B H1 σ env → rel B H1 v a → PoSw K mg W ow E B0 H0 ks (f a) → Q v H1) : Po rel mg W σ B H Q x := by
  cases x with
  | ok a => exact fun v H1 e r => k a rfl v H1 (hs.mono e) r h
  | err c => exact fun H' e => h σ H' (hs.mono e).kx
  | bad => exact h
theorem mssw_nil : MSsw X W ow [] nextM := ⟨_, pss_nil, fun env σ B0 H0 ks B H E hs h => h σ B H hs⟩
theorem mssw_one {st : Stmt} {m : Sl → O} (h : MSw X W ow st m) : MSsw X W ow [st] m := let ⟨t, a, b⟩ := h; ⟨t, pss_one a, b⟩
theorem mssw_cons {st : Stmt} {rest : List Stmt} {m n : Sl → O} (h : MSw X W ow st m) (k : MSsw X W ow rest n) : MSsw X W ow (st :: rest) (seqM m n) := by
  obtain ⟨t, a1, a2⟩ := h
  obtain ⟨u, b1, b2⟩ := k
  refine ⟨_, pss_cons a1 b1, fun env σ B0 H0 ks B H E hs h => a2 env σ B0 H0 ks B H _ hs ?_⟩
  unfold seqM at h
  cases hm : m env with
  | nx e => rw [hm] at h; exact fun σ' B' H' r => b2 e σ' B0 H0 ks B' H' E r h
  | rt d => rw [hm] at h; exact h
  | bk e => rw [hm] at h; exact h
  | ct e => rw [hm] at h; exact h
  | er c => rw [hm] at h; exact h
  | bad => rw [hm] at h; exact h
theorem msw_ret (he : ME X W e ma) : MSw X W ow (.Return (some e) pos) (retMo ow ma) := by
  obtain ⟨t, a1, a2⟩ := he
  exact ⟨_, ps_ret a1, fun env σ B0 H0 ks B H E hs h => a2 _ σ B H _ hs.rs (Po.toOw hs h fun d _ v H1 h1 r q => q v H1 h1.kx (r.my h1.back))⟩
theorem msw_set (i : Nat) {x : Str} {pos' : Pos} (hi2 : i ∉ ow) (he : ME X W e ma) (hN : X.N.Nodup) (hi : X.N[i]? = some x := by rfl) (hx : Loc X.env.scope x := by first | exact Or.inl rfl | exact Or.inr rfl) (hs : swapsWith e (some (.Name x pos')) pos.line X.env = pure false := by rfl) (hf : X.fn x = true ∨ X.env.scope.names.lookup x = some .local := by first | exact .inl rfl | exact .inr rfl) :
    MSw X W ow (.Assign [.Name x pos'] e pos) (asgMo ow i ma) := by
  obtain ⟨t, a1, a2⟩ := he
  exact ⟨_, ps_set hN hi hx a1 hs hf, fun env σ B0 H0 ks B H E hs h => a2 _ σ B H _ hs.rs (Po.toOw hs h fun d _ v H1 h1 r q => q _ B H1 (h1.set hi2 r))⟩
theorem msw_asgLc {st : Stmt} (j : Nat) {m : Sl → R D} (hj : j ∉ ow) (h : ∃ te, PS X st (tAsg te (gName j)) ∧ EvE X.K X.mg W te m) : MSw X W ow st (asgMo ow j m) := by
  obtain ⟨t, a1, a2⟩ := h
  exact ⟨_, a1, fun env σ B0 H0 ks B H E hs h => a2 _ σ B H _ hs.rs (Po.toOw hs h fun d _ v H1 h1 r q => q _ B H1 (h1.set hj r))⟩
theorem msw_expr (he : ME X W e ma) (hs : swapsWith e none pos.line X.env = pure false := by rfl) : MSw X W ow (.Expr e pos) (dropMo ow ma) := by
  obtain ⟨t, a1, a2⟩ := he
  exact ⟨_, ps_expr a1 hs, fun env σ B0 H0 ks B H E hs h => a2 _ σ B H _ hs.rs (Po.toOw hs h fun d _ v H1 h1 r q => q _ B H1 h1)⟩
theorem msw_if {m : Sl → R Bool} {xs ys : List Stmt} {n k : Sl → O} (hc : MT X W c m) (ha : MSsw X W ow xs n) (hb : MSsw X W ow ys k) : MSw X W ow (.If c xs ys pos) (ifSo ow m n k) := by
  obtain ⟨t, h1, h2⟩ := hc
  obtain ⟨ta, a1, a2⟩ := ha
  obtain ⟨tb, b1, b2⟩ := hb
  refine ⟨_, ps_if h1 a1 b1, fun env σ B0 H0 ks B H E hs h => h2 _ σ B H _ hs.rs (Po.toOw hs h fun x _ v H1 h1 r q => ?_)⟩
  have ev : v = x := r
  subst ev
  cases v with
  | true => exact iteT (a2 env σ B0 H0 ks B H1 E h1 q)
  | false => exact iteF (b2 env σ B0 H0 ks B H1 E h1 q)
theorem msw_aug (i : Nat) {x : Str} {pos' : Pos} (hi2 : i ∉ ow) (he : ME X W e ma) (hN : X.N.Nodup) (hi : X.N[i]? = some x := by rfl) (hx : Loc X.env.scope x := by first | exact Or.inl rfl | exact Or.inr rfl) (hf : X.fn x = true ∨ X.env.scope.names.lookup x = some .local := by first | exact .inl rfl | exact .inr rfl) :
    MSw X W ow (.AugAssign (.Name x pos') .Add e pos) (augMo ow i ma) := by
  obtain ⟨t, a1, a2⟩ := he
  refine ⟨_, ps_aug hN hi hx a1 ip_add hf, fun env σ B0 H0 ks B H E hs h => ?_⟩
  unfold augMo varM at h
  cases hv : (wipeE env ow)[i]? with
  | none => rw [hv] at h; exact h.elim
  | some o =>
    rw [hv] at h
    cases o with
    | none => exact h.elim
    | some d =>
      obtain ⟨v, hv2, rv⟩ := hs.rs.get i d hv
      refine ⟨v, hv2, a2 _ σ B H _ hs.rs (Po.toOw hs h fun b _ u H1 h1 r q => ?_)⟩
      cases rv with
      | int p =>
        cases r with
        | int p2 => exact ⟨p, p2, rfl, rfl, q _ B H1 (h1.set hi2 (.int _))⟩
        | _ => exact q.elim
      | _ => exact q.elim
/-- a target that is none of them -/
def GoodGw (K : PySem.W.Frag) (ow : List Nat) (g : TG) (m : D → Sl → Option Sl) : Prop := ∀ (env env' : Sl) (σ : L2.St) (B0 : List Addr) (H0 : Hp) (ks : List (List Addr × Hp)) (B : List Addr) (H : Hp) (v : V) (d : D) (Q : L2.St → Hp → Prop), RSw K ow B0 H0 ks B H σ env → Rp K B H v d → m d env = some env' → (∀ σ', RSw K ow B0 H0 ks B H σ' env' → Q σ' H) → g v σ H Q
def MGw (X : Cx) (ow : List Nat) (tg : Expr) (m : D → Sl → Option Sl) : Prop := ∃ g, PG X tg g ∧ GoodGw X.K ow g m
theorem mgw_name (i : Nat) {x : Str} (hi2 : i ∉ ow) (hN : X.N.Nodup) (hi : X.N[i]? = some x := by rfl) (hx : Loc X.env.scope x := by first | exact Or.inl rfl | exact Or.inr rfl) (hf : X.fn x = true ∨ X.env.scope.names.lookup x = some .local := by first | exact .inl rfl | exact .inr rfl) : MGw X ow (.Name x pos) (tgN i) :=
  ⟨_, pg_name hN hi hx hf, fun env env' σ B0 H0 ks B H v d Q hs r h q => by cases h; exact q _ (hs.set hi2 r)⟩
theorem mgw_two {x y : Expr} {k : Nat} {m1 m2 : D → Sl → Option Sl} (hc : X.calm = true) (h1 : MGw X ow x m1) (h2 : MGw X ow y m2) (s1 : (assignEach [x, y] X.env).map (·.2) = assign x X.env :: (assignEach [y] X.env).map (·.2) := by rfl) (s2 : (assignEach [y] X.env).map (·.2) = assign y X.env :: (assignEach [] X.env).map (·.2) := by rfl)
    (hn : (assignEach [x, y] X.env).length = 2 := by rfl) (hst : (assignEach [x, y] X.env).findIdx? (·.1) = none := by rfl) : MGw X ow (.Tuple [x, y] k pos) (tg2 m1 m2) := by
  obtain ⟨g1, a1, a2⟩ := h1
  obtain ⟨g2, b1, b2⟩ := h2
  refine ⟨_, pg_tup hc (pgs_cons a1 (pgs_cons b1 pgs_nil s2) s1) hn hst, fun env env' σ B0 H0 ks B H v d Q hs r h q => ?_⟩
  unfold tg2 at h
  split at h
  · next x y hd =>
    split at h
    · next hT =>
      obtain ⟨p, xs, rfl, ra, k⟩ := r.seqT hd
      rcases k with ⟨_, k⟩ | ⟨t, _⟩
      · cases ra with
        | cons r1 ra =>
          cases ra with
          | cons r2 ra =>
            cases ra
            cases h1 : m1 x env with
            | none => rw [h1] at h; cases h
            | some e1 =>
              rw [h1] at h
              exact ⟨p, _, rfl, ex_t (hid_ex B H) k, rfl, _, _, rfl, a2 env e1 σ B0 H0 ks B H _ x _ hs r1 h1 fun σ1 hs1 => ⟨_, _, rfl, b2 e1 env' σ1 B0 H0 ks B H _ y _ hs1 r2 h fun σ2 hs2 => ⟨rfl, q σ2 hs2⟩⟩⟩
      · rw [t] at hT; cases hT
    · cases h
  · cases h
/-- the iterator and what it walks, kept while new objects are laid and lists of one's own grow -/
theorem msw_for {tg iter : Expr} {body : List Stmt} {mi : Sl → R (List D)} {bi : D → Sl → Option Sl} {mb : Sl → O} (hp : PassesOwn (model X.prog X.w) X.A X.env X.xe) (hc : X.calm = true) (hi : MI X W tg iter mi) (hg : MGw X ow tg bi) (hb : MSsw X W ow body mb)
    (hs : ∀ x, foldedSetIterable iter X.env x = pure x := by intro _; rfl) : MSw X W ow (.For tg iter body [] pos) (forMo ow mi bi mb) := by
  obtain ⟨wi, i1, i2⟩ := hi
  obtain ⟨g, g1, g2⟩ := hg
  obtain ⟨tb, b1, b2⟩ := hb
  refine ⟨_, ps_for hp hc i1 g1 b1 hs, fun env σ B0 H0 ks B H E hs h => i2 _ σ B H _ hs.rs (Po.toOw hs h fun ds _ J H1 h1 wk q => ?_)⟩
  have h2 : RSw X.K ow B0 H0 ((B, H1) :: ks) B H1 σ env := h1.addK
  have less : ∀ {B' : List Addr} {H' : Hp} {σ' : L2.St} {en : Sl}, RSw X.K ow B0 H0 ((B, H1) :: ks) B' H' σ' en → RSw X.K ow B0 H0 ks B' H' σ' en := fun r => r.lessK
  refine ⟨fun i m σ2 H2 => m = ds.length - i ∧ i ≤ ds.length ∧ ∃ B2 en, RSw X.K ow B0 H0 ((B, H1) :: ks) B2 H2 σ2 en ∧ PoSw X.K X.mg W ow E B0 H0 ks (forGo bi mb (ds.drop i) en), ⟨ds.length, by simp, Nat.zero_le _, B, env, h2, q⟩, ?_⟩
  rintro i m σ2 H2 ⟨rfl, hi2, B2, en, hs2, q2⟩
  obtain ⟨go, stop⟩ := wk B2 H2 (hs2.kys _ List.mem_cons_self)
  by_cases hlt : i < ds.length
  · obtain ⟨g3, y3⟩ := go i hlt
    refine .inr ⟨g3, fun σ3 H3 => i + 1 ≤ ds.length ∧ ∃ B3 en, RSw X.K ow B0 H0 ((B, H1) :: ks) B3 H3 σ3 en ∧ PoSw X.K X.mg W ow E B0 H0 ks (forGo bi mb (ds.drop (i + 1)) en), fun σ' H' n => ⟨ds.length - (i + 1), by omega, rfl, n.1, n.2⟩, fun x H3 y => ?_⟩
    obtain ⟨e3, d, hd, rx⟩ := y3 x H3 y
    have hdrop : ds.drop i = d :: ds.drop (i + 1) := by
      rw [List.drop_eq_getElem_cons hlt]
      rw [List.getElem?_eq_getElem hlt] at hd
      cases hd
      rfl
    rw [hdrop] at q2
    simp only [forGo] at q2
    cases hb : bi d en with
    | none => rw [hb] at q2; exact q2.elim
    | some f1 =>
      rw [hb] at q2
      simp only at q2
      refine g2 _ _ _ _ _ _ _ _ _ _ _ (hs2.mono e3) rx hb fun σ' hs' => b2 f1 σ' B0 H0 ((B, H1) :: ks) B2 H3 _ hs' ?_
      cases hm : mb f1 with
      | nx e => rw [hm] at q2; exact fun σ4 B4 H4 r4 => ⟨by omega, B4, e, r4, q2⟩
      | ct e => rw [hm] at q2; exact fun σ4 B4 H4 r4 => ⟨by omega, B4, e, r4, q2⟩
      | bk e => rw [hm] at q2; exact fun σ4 B4 H4 r4 => q2 σ4 B4 H4 (less r4)
      | rt d => rw [hm] at q2; exact q2
      | er c => rw [hm] at q2; exact q2
      | bad => rw [hm] at q2; exact q2.elim
  · have ei : i = ds.length := by omega
    subst ei
    rw [List.drop_length] at q2
    exact .inl ⟨stop, q2 _ B2 H2 (less hs2)⟩
theorem RSw.lay {K : PySem.W.Frag} {B0 B : List Addr} {H0 H H' : Hp} {ks : List (List Addr × Hp)} {σ : L2.St} {env : Sl} {i : Nat} {p : Addr} {d : D} (hs : RSw K ow B0 H0 ks B H σ env) (hi2 : i ∈ ow) (lay : Ky B H (p :: B) H') (x : Ex H H') (hp : H p = none) (o : OwnAt K (p :: B) H' p d) :
    RSw K ow B0 H0 ks (p :: B) H' (σ.set i (some (.ref p))) (env.set i (some d)) := by
  have h0 : H0 p = none := by
    cases q : H0 p with
    | none => rfl
    | some o => rw [hs.ex p o q] at hp; cases hp
  have hl : (wipeE env ow).length = env.length := wipeE_length env ow
  have hσ := hs.rs.len
  have hne : ∀ {q : Addr} {d2 : D}, OwnAt K B H q d2 → q ≠ p := fun a e => a.some (by rw [e]; exact hp)
  refine ⟨hs.inB0, fun a ha => List.mem_cons_of_mem _ (hs.sub a ha), hs.ky.trans lay, fun q hq => (hs.kys q hq).trans lay, hs.ex.trans x, ⟨lay.inB', ?_, fun j d2 q => ?_⟩, fun j hj d2 q => ?_, fun j hj k hk r d2 e q1 q2 q3 q4 => ?_⟩
  · rw [List.length_set, wipeE_length, List.length_set, hσ, hl]
  · by_cases hji : i = j
    · subst hji
      exact absurd q (wipeE_in hi2)
    · by_cases hjo : j ∈ ow
      · exact absurd q (wipeE_in hjo)
      · rw [wipeE_out hjo, List.getElem?_set_ne hji] at q
        have q' : (wipeE env ow)[j]? = some (some d2) := by rw [wipeE_out hjo]; exact q
        obtain ⟨v, e1, e2⟩ := hs.rs.get j d2 q'
        exact ⟨v, by rw [List.getElem?_set_ne hji]; exact e1, e2.my lay⟩
  · by_cases hji : i = j
    · subst hji
      by_cases hlt : i < env.length
      · rw [List.getElem?_set_self hlt] at q
        cases q
        exact ⟨p, List.getElem?_set_self (by omega), List.mem_cons_self, h0, o⟩
      · rw [List.getElem?_eq_none (by rw [List.length_set]; omega)] at q
        cases q
    · rw [List.getElem?_set_ne hji] at q
      obtain ⟨r, a2, a3, a4, a5⟩ := hs.own j hj d2 q
      refine ⟨r, by rw [List.getElem?_set_ne hji]; exact a2, List.mem_cons_of_mem _ a3, a4, a5.my lay ?_⟩
      cases ho : H r with
      | none => exact absurd ho a5.some
      | some o2 => exact x r o2 ho
  · have fresh : ∀ j ∈ ow, i ≠ j → ∀ d, env[j]? = some (some d) → σ[j]? = some (some (.ref r)) → r ≠ p := fun j hj hn d hd hσj => by
      obtain ⟨r', a2, a3, a4, a5⟩ := hs.own j hj d hd
      rw [a2] at hσj
      cases hσj
      exact hne a5
    by_cases hji : i = j
    · by_cases hki : i = k
      · exact hji.symm.trans hki
      · subst hji
        rw [List.getElem?_set_ne hki] at q2 q4
        have lt : i < σ.length := by
          by_cases hh : i < σ.length
          · exact hh
          · rw [List.getElem?_eq_none (by rw [List.length_set]; omega)] at q3; cases q3
        rw [List.getElem?_set_self lt] at q3
        cases q3
        exact absurd rfl (fresh k hk hki e q2 q4)
    · by_cases hki : i = k
      · subst hki
        rw [List.getElem?_set_ne hji] at q1 q3
        have lt : i < σ.length := by
          by_cases hh : i < σ.length
          · exact hh
          · rw [List.getElem?_eq_none (by rw [List.length_set]; omega)] at q4; cases q4
        rw [List.getElem?_set_self lt] at q4
        cases q4
        exact absurd rfl (fresh j hj hji d2 q1 q3)
      · rw [List.getElem?_set_ne hji] at q1 q3
        rw [List.getElem?_set_ne hki] at q2 q4
        exact hs.dis j hj k hk r d2 e q1 q2 q3 q4
theorem RSw.put {K : PySem.W.Frag} {B0 B : List Addr} {H0 H1 : Hp} {ks : List (List Addr × Hp)} {σ : L2.St} {env : Sl} {i : Nat} {p : Addr} {d d' : D} {o : HO} (h1 : RSw K ow B0 H0 ks B H1 σ env) (hi2 : i ∈ ow) (hz : env[i]? = some (some d)) (hσ : σ[i]? = some (some (.ref p)))
    (on : Ky B H1 B (upd H1 p o) → OwnAt K B (upd H1 p o) p d') : RSw K ow B0 H0 ks B (upd H1 p o) σ (env.set i (some d')) := by
  obtain ⟨p', hσ', hpB, hp0, hp'⟩ := h1.own i hi2 _ hz
  rw [hσ] at hσ'
  cases hσ'
  have hB := h1.rs.inB
  have put : ∀ {b : List Addr} {h : Hp}, Ky b h B H1 → Ky b h B (upd H1 p o) := fun {b h} k => by
    refine ⟨fun a u z => ?_, fun a ha => ?_⟩
    · have z1 := k.hid a u z
      have hn : a ∉ B := fun y => by unfold Ask.hid at z1; rw [if_pos y] at z1; cases z1
      have hap : a ≠ p := fun y => hn (by rw [y]; exact hpB)
      exact hid_at (by rw [upd_ne hap]; exact hid_some z1) hn
    · by_cases hap : a = p
      · rw [hap, upd_same]; exact fun z => by cases z
      · rw [upd_ne hap]; exact hB a ha
  have putS : Ky B H1 B (upd H1 p o) := put ⟨Ex.refl _, hB⟩
  have hlen := h1.rs.len
  have ilt : i < env.length := by
    by_cases hh : i < env.length
    · exact hh
    · rw [List.getElem?_eq_none (by omega)] at hz; cases hz
  refine ⟨h1.inB0, h1.sub, put h1.ky, fun z hz => put (h1.kys z hz), Ex.mut h1.ex hp0, ⟨putS.inB', ?_, fun j d' q' => ?_⟩, fun j hj d2 q' => ?_, fun j hj k hk r' d2 e' q1 q2 q3 q4 => ?_⟩
  · rw [wipeE_length, List.length_set, hlen, wipeE_length]
  · by_cases hjo : j ∈ ow
    · exact absurd q' (wipeE_in hjo)
    · have hji : i ≠ j := fun z => hjo (z ▸ hi2)
      rw [wipeE_out hjo, List.getElem?_set_ne hji] at q'
      have q'' : (wipeE env ow)[j]? = some (some d') := by rw [wipeE_out hjo]; exact q'
      obtain ⟨u, e1, e2⟩ := h1.rs.get j d' q''
      exact ⟨u, e1, e2.my putS⟩
  · by_cases hji : i = j
    · subst hji
      rw [List.getElem?_set_self ilt] at q'
      cases q'
      exact ⟨p, hσ, hpB, hp0, on putS⟩
    · rw [List.getElem?_set_ne hji] at q'
      obtain ⟨p2, b2, b3, b4, b5⟩ := h1.own j hj d2 q'
      have hne : p2 ≠ p := fun z => by
        subst z
        exact hji (h1.dis i hi2 j hj p2 _ _ hz q' hσ b2)
      exact ⟨p2, b2, b3, b4, b5.my putS (upd_ne hne)⟩
  · have back : ∀ {j : Nat} {d'' : D}, (env.set i (some d'))[j]? = some (some d'') → ∃ d3, env[j]? = some (some d3) := fun {j d''} z => by
      by_cases hji : i = j
      · subst hji; exact ⟨_, hz⟩
      · rw [List.getElem?_set_ne hji] at z; exact ⟨_, z⟩
    obtain ⟨d3, z3⟩ := back q1
    obtain ⟨d4, z4⟩ := back q2
    exact h1.dis j hj k hk r' d3 d4 z3 z4 q3 q4
/-- x = [e, ..], a list of one's own -/
def newMw (ow : List Nat) (i : Nat) (m : Sl → R (List D)) : Sl → O := fun env => toO (m (wipeE env ow)) fun ds => if ds.length ≤ 100000 then .nx (env.set i (some (.lst ds))) else .bad
theorem msw_new (i : Nat) {x : Str} {pos' lpos : Pos} {m : Sl → R (List D)} (hi2 : i ∈ ow) (he : MA X W es m) (hN : X.N.Nodup) (hi : X.N[i]? = some x := by rfl) (hx : Loc X.env.scope x := by first | exact Or.inl rfl | exact Or.inr rfl) (hs : swapsWith (.List es lpos) (some (.Name x pos')) pos.line X.env = pure false := by rfl) (hf : X.fn x = true ∨ X.env.scope.names.lookup x = some .local := by first | exact .inl rfl | exact .inr rfl) :
    MSw X W ow (.Assign [.Name x pos'] (.List es lpos) pos) (newMw ow i m) := by
  obtain ⟨t, a1, a2⟩ := he
  refine ⟨_, ps_set hN hi hx (pe_lst a1) hs hf, fun env σ B0 H0 ks B H E hs h => a2 _ σ B H _ hs.rs (Po.toOw hs h fun ds _ vs H1 h1 r q => ?_)⟩
  by_cases hl : ds.length ≤ 100000
  · rw [if_pos hl] at q
    refine ⟨by rw [r.length]; exact line1 hl, fun p hp => q _ _ _ (h1.lay hi2 (ky_lay h1.rs.inB hp) (Ex.new hp) hp (.inl ⟨vs, ds, rfl, upd_same, r.my (ky_lay h1.rs.inB hp)⟩))⟩
  · rw [if_neg hl] at q; exact q.elim
/-- x.append(e) -/
def appMw (ow : List Nat) (i : Nat) (m : Sl → R D) : Sl → O := fun env => match env[i]? with
  | some (some (.lst zs)) => toO (m (wipeE env ow)) fun d => if zs.length ≤ 8000000 then .nx (env.set i (some (.lst (zs ++ [d])))) else .bad
  | _ => .bad
theorem msw_app (i : Nat) {x : Str} {px apos cpos : Pos} (hi2 : i ∈ ow) (he : ME X W e ma) (hi : X.N[i]? = some x := by rfl) (hv : Vis X.env.scope x := by first | exact Or.inl rfl | exact Or.inr (Or.inl rfl) | exact Or.inr (Or.inr rfl)) (hd : (x == ("__debug__" : Str)) = false := by decide) (hcd : (x == ("__classdict__" : Str)) = false := by decide)
    (hs : swapsWith (.Call (.Attribute (.Name x px) "append" apos) [e] [] cpos) none pos.line X.env = pure false := by rfl)
    (hbase : attributeBase (.Name x px) "append" X.env (eval (.Name x px) X.env) = eval (.Name x px) X.env := by rfl)
    (hfew : ((backTo cpos (starEach [e] X.env)).all (fun x => !x.1) && (backToKw cpos (keywordEach [] X.env)).all (fun x => x.1.isSome)
      && decide (([e] : List Expr).length + ([] : List Keyword).length + (if ([] : List Keyword).isEmpty then 0 else 1) < 30)) = true := by rfl)
    (hline : (apos.endLine == cpos.line) = true := by rfl) (hst : starEach [e] X.env = (false, eval e X.env) :: starEach [] X.env := by rfl) (hplain : (backTo cpos (starEach ([] : List Expr) X.env)).any (·.1) = false := by rfl) :
    MSw X W ow (.Expr (.Call (.Attribute (.Name x px) "append" apos) [e] [] cpos) pos) (appMw ow i ma) := by
  obtain ⟨t, a1, a2⟩ := he
  refine ⟨_, ps_expr (pe_bm PySem.F.plainAttrs_list PySem.F.slot_list_append PySem.F.type_list_append mt_append (pe_var (i := i) hi hv hd hcd) (pa_cons a1 pa_nil hst) hbase hfew hline hst hplain) hs, fun env σ B0 H0 ks B H E hs h => ?_⟩
  unfold appMw at h
  split at h
  · next zs hz =>
    obtain ⟨p, hσ, hpB, hp0, hp⟩ := hs.own i hi2 _ hz
    rcases hp with ⟨acc, zs', e0, hp, ra⟩ | ⟨_, _, e0, _⟩
    · cases e0
      refine ⟨.ref p, hσ, .inl ⟨rfl, acc, .inl (.inl hp)⟩, a2 _ σ B H _ hs.rs (Po.toOw hs h fun d _ v H1 h1 r q => ?_)⟩
      by_cases hl : zs.length ≤ 8000000
      · rw [if_pos hl] at q
        obtain ⟨p', hσ', hpB', hp0', hp'⟩ := h1.own i hi2 _ hz
        rw [hσ] at hσ'
        cases hσ'
        rcases hp' with ⟨acc', zs'', e0, hp', ra'⟩ | ⟨_, _, e0, _⟩
        · cases e0
          have lt : acc'.length = zs.length := ra'.length
          exact ⟨p, acc', v, rfl, rfl, hp', (show acc'.length < 2 ^ 24 by omega), q _ B _ (h1.put hi2 hz hσ fun k => .inl ⟨_, _, rfl, upd_same, (ra'.append (.cons r .nil)).my k⟩)⟩
        · cases e0
      · rw [if_neg hl] at q
        exact q.elim
    · cases e0
  · exact h.elim
/-- return x, a thing of one's own -/
theorem msw_retOwn (i : Nat) {x : Str} {px : Pos} (hi2 : i ∈ ow) (hi : X.N[i]? = some x := by rfl) (hv : Vis X.env.scope x := by first | exact Or.inl rfl | exact Or.inr (Or.inl rfl) | exact Or.inr (Or.inr rfl)) (hd : (x == ("__debug__" : Str)) = false := by decide) (hcd : (x == ("__classdict__" : Str)) = false := by decide) :
    MSw X W ow (.Return (some (.Name x px)) pos) (retOwn i) := by
  refine ⟨_, ps_ret (pe_var (i := i) hi hv hd hcd), fun env σ B0 H0 ks B H E hs h => ?_⟩
  unfold retOwn at h
  split at h
  · next d hz =>
    obtain ⟨p, hσ, hpB, hp0, hp⟩ := hs.own i hi2 _ hz
    rcases hp with ⟨acc, zs, e0, hp, ra⟩ | ⟨acc, zs, e0, hp, ra⟩
    · subst e0
      exact ⟨.ref p, hσ, h _ H hs.kx (.lst (hid_at hp fun z => hs.inB0 p z hp0) (ra.my hs.back))⟩
    · subst e0
      exact ⟨.ref p, hσ, h _ H hs.kx (.dct (hid_at hp fun z => hs.inB0 p z hp0) (ra.mono hs.back.hid))⟩
  · exact h.elim
theorem fn_okwR {P : Program} {w : World} {K : PySem.W.Frag} {mg : Str → Option Value} {base : Heap} {x qual : Str} {st : Stmt} {f : Addr} {fd : FuncData} {N ps : List Str} {k n nl : Nat} {mb : Sl → O} (F : Fun K x qual st f fd) (S : FnScope N ps (defScope st)) (hn : ps.length = n) (hnl : N.length = n + nl) (how : ∀ i ∈ ow, n ≤ i)
    (body : ∀ (cdv : Value) (A : Around) (outer : List Env) (s : Shared) (H : Hp) (E : XK), Room k (A.deeper (PyProof.Rows.envOfC qual (defScope st) s.heap.objs.size f cdv)) →
      MSsw (cxOf (L2.CX P w) P w K mg base N qual (defScope st) f cdv A outer s H E) (fun cls d _ H' => E cls d H') ow (defBody st) mb) : FnOk P w K mg base (L2.CX P w) (k + 1) f fd ps (spM K mg n (fnM n nl mb)) := by
  refine F.okX S (fun vs H Q E h => ?_) fun cdv A outer s H vs Q E hr h => ?_
  · obtain ⟨B, ds, _, hl, r, _⟩ := h
    rw [r.length, hl, hn]
  · obtain ⟨B, ds, hB, hl, r, q⟩ := h
    obtain ⟨t, t1, t2⟩ := body cdv A outer s H E hr
    have e : N.length - ds.length = nl := by omega
    have rs := rs_start (N := N) hB r
    rw [e] at rs
    have none_at : ∀ i ∈ ow, ∀ d, (ds.map some ++ List.replicate nl none)[i]? ≠ some (some d) := fun i hi d z => by
      have := how i hi
      rw [List.getElem?_append_right (by simp; omega), List.getElem?_replicate] at z
      split at z <;> cases z
    refine ⟨t, t1, t2 _ _ B H [] B H _ ⟨hB, fun _ z => z, ⟨Ex.refl _, hB⟩, (fun _ z => by cases z), Ex.refl _, ⟨hB, by rw [wipeE_length]; exact rs.len, fun i d z => ?_⟩, fun i hi d z => absurd z (none_at i hi d), fun i hi j hj p d e z => absurd z (none_at i hi d)⟩ ?_⟩
    · by_cases hi : i ∈ ow
      · exact absurd z (wipeE_in hi)
      · rw [wipeE_out hi] at z
        exact rs.get i d z
    unfold fnM at q
    rw [if_pos hl] at q
    show PoSw K mg (fun cls d _ H' => E cls d H') ow { nx := fun _ H' => Q .non H', rt := Q } B H [] (mb (ds.map some ++ List.replicate nl none))
    cases hb : mb (ds.map some ++ List.replicate nl none) with
    | nx e => rw [hb] at q; exact fun σ' B' H' x => q .non H' x.kx .non
    | rt d => rw [hb] at q; exact q
    | er c => rw [hb] at q; exact fun σ' H' x => q H' x
    | bk e => rw [hb] at q; exact q.elim
    | ct e => rw [hb] at q; exact q.elim
    | bad => rw [hb] at q; exact q.elim
theorem fn_okw {P : Program} {w : World} {K : PySem.W.Frag} {mg : Str → Option Value} {base : Heap} {x qual : Str} {st : Stmt} {f : Addr} {fd : FuncData} {N ps : List Str} {k n nl : Nat} {mb : Sl → O} (F : Fun K x qual st f fd) (S : FnScope N ps (defScope st)) (hn : ps.length = n) (hnl : N.length = n + nl) (hm : mg x = some (.ref f))
    (hbd : ∀ (kV doc pm : Value) (an : Option Addr) (cdv ct : Value) (us : List Value), us.length = ps.length → bindArgs (PySem.W.fnOf x qual (defArgs st) (defBody st) (defScope st) .none kV doc pm an cdv ct) ⟨us, []⟩ = pure (ps.zip us)) (how : ∀ i ∈ ow, n ≤ i)
    (body : ∀ (cdv : Value) (A : Around) (outer : List Env) (s : Shared) (H : Hp) (E : XK), Room k (A.deeper (PyProof.Rows.envOfC qual (defScope st) s.heap.objs.size f cdv)) →
      MSsw (cxOf (L2.CX P w) P w K mg base N qual (defScope st) f cdv A outer s H E) (fun cls d _ H' => E cls d H') ow (defBody st) mb) : FnI P w K mg base x (k + 1) n (fnM n nl mb) :=
  ⟨f, fd, ps, hn, hm, F.kp, F.binds hbd, fn_okwR F S hn hnl how body⟩
end
end Ask
namespace Ask
open PySem L2 Evl
/-! things of one's own, read -/
mutual
/-- it holds no list, no dict -/
def noK : D → Bool
  | .non => true
  | .bl _ => true
  | .int _ => true
  | .str _ => true
  | .ty _ => true
  | .own _ => true
  | .tup ds => noKs ds
  | .lst _ => false
  | .ktup _ => false
  | .klst _ => false
  | .dct _ => false
  | .ins _ _ => false
def noKs : List D → Bool
  | [] => true
  | d :: ds => noK d && noKs ds
end
def ownA (ow : List Nat) (σ : L2.St) (env : Sl) : List Addr := ow.filterMap fun i => match (env[i]? : Option (Option D)), (σ[i]? : Option (Option V)) with
  | some (some _), some (some (.ref p)) => some p
  | _, _ => none
def viewB (B : List Addr) (os : List Addr) : List Addr := B.filter fun a => !os.contains a
theorem viewB_mem {B os : List Addr} {a : Addr} : a ∈ viewB B os ↔ a ∈ B ∧ a ∉ os := by
  unfold viewB
  rw [List.mem_filter]
  simp
section
variable {K : PySem.W.Frag} {ow : List Nat} {B0 B : List Addr} {H0 H H1 : Hp} {ks : List (List Addr × Hp)} {σ : L2.St} {env : Sl}
theorem ownA_own (h : RSw K ow B0 H0 ks B H σ env) {p : Addr} (hp : p ∈ ownA ow σ env) : p ∈ B ∧ H0 p = none ∧ ∃ d, OwnAt K B H p d := by
  unfold ownA at hp
  obtain ⟨i, hi, e⟩ := List.mem_filterMap.mp hp
  split at e
  · next d q h1 h2 =>
    cases e
    obtain ⟨p', a1, a2, a3, a4⟩ := h.own i hi d h1
    rw [a1] at h2
    cases h2
    exact ⟨a2, a3, d, a4⟩
  · cases e
theorem ownA_mem {i : Nat} {d : D} {p : Addr} (hi : i ∈ ow) (h1 : env[i]? = some (some d)) (h2 : σ[i]? = some (some (.ref p))) : p ∈ ownA ow σ env :=
  List.mem_filterMap.mpr ⟨i, hi, by simp only [h1, h2]⟩
theorem hid_view {B os : List Addr} {H : Hp} : Ex (hid B H) (hid (viewB B os) H) := fun a o h => by
  have hn : a ∉ B := fun z => by unfold Ask.hid at h; rw [if_pos z] at h; cases h
  exact hid_at (hid_some h) fun z => hn (viewB_mem.mp z).1
theorem ky_view {B os : List Addr} {H : Hp} (hB : InB B H) : Ky B H (viewB B os) H := ⟨hid_view, fun a ha => hB a (viewB_mem.mp ha).1⟩
/-- the slots, those of one's own too -/
theorem RSw.view (h : RSw K ow B0 H0 ks B H σ env) : RS K (viewB B (ownA ow σ env)) H σ env := by
  have hB := h.rs.inB
  have k := ky_view (os := ownA ow σ env) hB
  refine ⟨k.inB', by have := h.rs.len; rw [wipeE_length] at this; exact this, fun i d q => ?_⟩
  by_cases hi : i ∈ ow
  · obtain ⟨p, a1, a2, a3, a4⟩ := h.own i hi d q
    have hm := ownA_mem (σ := σ) hi q a1
    refine ⟨.ref p, a1, ?_⟩
    have hn : p ∉ viewB B (ownA ow σ env) := fun z => (viewB_mem.mp z).2 hm
    rcases a4 with ⟨acc, zs, e0, hp, ra⟩ | ⟨acc, zs, e0, hp, ra⟩
    · subst e0; exact .lst (hid_at hp hn) (ra.my k)
    · subst e0; exact .dct (hid_at hp hn) (ra.mono k.hid)
  · obtain ⟨v, e1, e2⟩ := h.rs.get i d (by rw [wipeE_out hi]; exact q)
    exact ⟨v, e1, e2.my k⟩
theorem Kx.unview {os : List Addr} (hB : InB B H) (e : Kx (viewB B os) H H1) : Kx B H H1 := ⟨e.ex, hB⟩
mutual
theorem rp_unview {os : List Addr} (ho : ∀ p ∈ os, p ∈ B → (∃ xs, H p = some (.lst xs)) ∨ ∃ xs, H p = some (.dK xs)) : ∀ {d : D} {v : V}, noK d = true → Rp0 K (hid (viewB B os) H) v d → Rp0 K (hid B H) v d
  | .non, v, _, r => by cases r; exact .non
  | .bl b, v, _, r => by cases r; exact .bl b
  | .int b, v, _, r => by cases r; exact .int b
  | .str b, v, _, r => by cases r; exact .str b
  | .ty b, v, _, r => by cases r; exact .ty b
  | .own b, v, _, r => by cases r; exact .own b
  | .tup ds, v, h, r => by
    cases r with
    | @tup a xs _ hp ra =>
      have hp2 := hid_some hp
      have hn : a ∉ B := fun z => by
        by_cases hos : a ∈ os
        · rcases ho a hos z with ⟨xs, e⟩ | ⟨xs, e⟩ <;> (rw [hp2] at e; cases e)
        · have := viewB_mem.mpr ⟨z, hos⟩
          unfold Ask.hid at hp
          rw [if_pos this] at hp
          cases hp
      exact .tup (hid_at hp2 hn) (rpa_unview ho (by unfold noK at h; exact h) ra)
  | .lst _, v, h, r => by unfold noK at h; cases h
  | .ktup _, v, h, r => by unfold noK at h; cases h
  | .klst _, v, h, r => by unfold noK at h; cases h
  | .dct _, v, h, r => by unfold noK at h; cases h
  | .ins _ _, v, h, r => by unfold noK at h; cases h
theorem rpa_unview {os : List Addr} (ho : ∀ p ∈ os, p ∈ B → (∃ xs, H p = some (.lst xs)) ∨ ∃ xs, H p = some (.dK xs)) : ∀ {ds : List D} {vs : List V}, noKs ds = true → RpA0 K (hid (viewB B os) H) vs ds → RpA0 K (hid B H) vs ds
  | [], vs, _, r => by cases r; exact .nil
  | d :: ds, vs, h, r => by
    cases r with
    | cons r1 r2 =>
      unfold noKs at h
      rw [Bool.and_eq_true] at h
      exact .cons (rp_unview ho h.1 r1) (rpa_unview ho h.2 r2)
end
theorem RSw.kinds (h : RSw K ow B0 H0 ks B H σ env) : ∀ p ∈ ownA ow σ env, p ∈ B → (∃ xs, H p = some (.lst xs)) ∨ ∃ xs, H p = some (.dK xs) := fun p hp _ => by
  obtain ⟨_, _, d, o⟩ := ownA_own h hp
  rcases o with ⟨acc, zs, _, e, _⟩ | ⟨acc, zs, _, e, _⟩
  · exact .inl ⟨_, e⟩
  · exact .inr ⟨_, e⟩
/-- at the end nothing is one's own any more -/
theorem RSw.backV (h : RSw K ow B0 H0 ks B H σ env) : Ky (viewB B (ownA ow σ env)) H B0 H where
  hid := fun a u q => by
    refine hid_at (hid_some q) fun z => ?_
    have hn : a ∉ viewB B (ownA ow σ env) := fun y => by unfold Ask.hid at q; rw [if_pos y] at q; cases q
    refine hn (viewB_mem.mpr ⟨h.sub a z, fun y => ?_⟩)
    exact h.inB0 a z (ownA_own h y).2.1
  inB' := fun a ha => h.ky.inB' a (h.sub a ha)
end
section
variable {X : Cx} {W : WX} {ow : List Nat} {a b c e : Expr} {es : List Expr} {ma mb mc : Sl → R D} {pos p2 : Pos}
/-- an expression that reads them -/
theorem Po.toOv {α β : Type} {rel : List Addr → Hp → β → α → Prop} {K : PySem.W.Frag} {mg : Str → Option Value} {σ : L2.St} {B0 B : List Addr} {H0 H : Hp} {ks : List (List Addr × Hp)} {env : Sl} {E : Ends} {Q : β → Hp → Prop} {x : R α} {f : α → O} (hs : RSw K ow B0 H0 ks B H σ env) (h : PoSw K mg W ow E B0 H0 ks (Ask.toO x f))
    (k : ∀ a, x = .ok a → ∀ v H1, RSw K ow B0 H0 ks B H1 σ env → rel (viewB B (ownA ow σ env)) H1 v a → PoSw K mg W ow E B0 H0 ks (f a) → Q v H1) : Po rel mg W σ (viewB B (ownA ow σ env)) H Q x := by
  cases x with
  | ok a => exact fun v H1 e r => k a rfl v H1 (hs.mono (e.unview hs.rs.inB)) r h
  | err c => exact fun H' e => h σ H' (hs.mono (e.unview hs.rs.inB)).kx
  | bad => exact h
theorem msw_retV (he : ME X W e ma) : MSw X W ow (.Return (some e) pos) (retM ma) := by
  obtain ⟨t, a1, a2⟩ := he
  exact ⟨_, ps_ret a1, fun env σ B0 H0 ks B H E hs h => a2 _ σ _ H _ hs.view (Po.toOv hs h fun d _ v H1 h1 r q => q v H1 h1.kx (r.my h1.backV))⟩
def asgMv (i : Nat) (m : Sl → R D) : Sl → O := fun env => toO (m env) fun d => if noK d = true then .nx (env.set i (some d)) else .bad
theorem msw_setV (i : Nat) {x : Str} {pos' : Pos} (hi2 : i ∉ ow) (he : ME X W e ma) (hN : X.N.Nodup) (hi : X.N[i]? = some x := by rfl) (hx : Loc X.env.scope x := by first | exact Or.inl rfl | exact Or.inr rfl) (hs : swapsWith e (some (.Name x pos')) pos.line X.env = pure false := by rfl) (hf : X.fn x = true ∨ X.env.scope.names.lookup x = some .local := by first | exact .inl rfl | exact .inr rfl) :
    MSw X W ow (.Assign [.Name x pos'] e pos) (asgMv i ma) := by
  obtain ⟨t, a1, a2⟩ := he
  refine ⟨_, ps_set hN hi hx a1 hs hf, fun env σ B0 H0 ks B H E hs h => a2 _ σ _ H _ hs.view (Po.toOv hs h fun d _ v H1 h1 r q => ?_)⟩
  by_cases hk : noK d = true
  · rw [if_pos hk] at q
    exact q _ B H1 (h1.set hi2 (rp_unview h1.kinds hk r))
  · rw [if_neg hk] at q; exact q.elim
theorem msw_ifV {m : Sl → R Bool} {xs ys : List Stmt} {n k : Sl → O} (hc : MT X W c m) (ha : MSsw X W ow xs n) (hb : MSsw X W ow ys k) : MSw X W ow (.If c xs ys pos) (ifS m n k) := by
  obtain ⟨t, h1, h2⟩ := hc
  obtain ⟨ta, a1, a2⟩ := ha
  obtain ⟨tb, b1, b2⟩ := hb
  refine ⟨_, ps_if h1 a1 b1, fun env σ B0 H0 ks B H E hs h => h2 _ σ _ H _ hs.view (Po.toOv hs h fun x _ v H1 h1 r q => ?_)⟩
  have ev : v = x := r
  subst ev
  cases v with
  | true => exact iteT (a2 env σ B0 H0 ks B H1 E h1 q)
  | false => exact iteF (b2 env σ B0 H0 ks B H1 E h1 q)
theorem Po.toOk {α β : Type} {rel : List Addr → Hp → β → α → Prop} {K : PySem.W.Frag} {mg : Str → Option Value} {σ : L2.St} {B0 B : List Addr} {H0 H : Hp} {ks : List (List Addr × Hp)} {env : Sl} {E : Ends} {Q : β → Hp → Prop} {x : R α} {f : α → O} (hs : RSw K ow B0 H0 ks B H σ env) (h : PoSw K mg W ow E B0 H0 ks (Ask.toO x f))
    (k : ∀ a, x = .ok a → ∀ v H1, Kx B H H1 → RSw K ow B0 H0 ks B H1 σ env → rel B H1 v a → PoSw K mg W ow E B0 H0 ks (f a) → Q v H1) : Po rel mg W σ B H Q x := by
  cases x with
  | ok a => exact fun v H1 e r => k a rfl v H1 e (hs.mono e) r h
  | err c => exact fun H' e => h σ H' (hs.mono e).kx
  | bad => exact h
/-- x[k] = e, a list of one's own; e reads none of them -/
def putMw (ow : List Nat) (i : Nat) (mi : Sl → R D) (m : Sl → R D) : Sl → O := fun env => toO (m (wipeE env ow)) fun d => match env[i]? with
  | some (some (.lst zs)) => toO (mi (wipeE env ow)) fun j => match j with
    | .int j => match ixN zs.length j with
      | some k => .nx (env.set i (some (.lst (zs.set k d))))
      | none => .bad
    | _ => .bad
  | _ => .bad
theorem RpA0.set {K : PySem.W.Frag} {H : Hp} {v : V} {d : D} (r : Rp0 K H v d) : ∀ {xs : List V} {ds : List D} (k : Nat), RpA0 K H xs ds → RpA0 K H (xs.set k v) (ds.set k d)
  | _, _, _, .nil => .nil
  | _, _, 0, .cons h q => .cons r q
  | _, _, k + 1, .cons h q => .cons h (RpA0.set r k q)
theorem msw_put (i : Nat) {x : Str} {px spos : Pos} {ie : Expr} {mi : Sl → R D} (hi2 : i ∈ ow) (he : ME X W e ma) (hie : ME X W ie mi) (hi : X.N[i]? = some x := by rfl) (hv : Vis X.env.scope x := by first | exact Or.inl rfl | exact Or.inr (Or.inl rfl) | exact Or.inr (Or.inr rfl)) (hd : (x == ("__debug__" : Str)) = false := by decide) (hcd : (x == ("__classdict__" : Str)) = false := by decide)
    (ha : ∀ v, assign (.Subscript (.Name x px) ie spos) X.env v = (do
      let ov ← holding [v] (eval (.Name x px) X.env)
      let iv ← holding [v, ov] (eval ie X.env)
      standAt spos
      holding [v, ov, iv] (setItem ov iv v)
      release [v, ov, iv] []) := by intro _; rfl)
    (hs : swapsWithSole [.Subscript (.Name x px) ie spos] e pos.line X.env = pure false := by rfl) (hw : swappedStores [.Subscript (.Name x px) ie spos] e X.env = pure none := by rfl)
    (h1 : (assignEach [.Subscript (.Name x px) ie spos] X.env).map (·.2) = [assign (.Subscript (.Name x px) ie spos) X.env] := by rfl) :
    MSw X W ow (.Assign [.Subscript (.Name x px) ie spos] e pos) (putMw ow i mi ma) := by
  obtain ⟨t, a1, a2⟩ := he
  obtain ⟨u, b1, b2⟩ := hie
  refine ⟨_, ps_asg a1 (pg_sub (pe_var (i := i) hi hv hd hcd) b1 set_list ha) hs hw h1, fun env σ B0 H0 ks B H E hs h => a2 _ σ B H _ hs.rs (Po.toOw hs h fun d _ v H1 g1 r q => ?_)⟩
  split at q
  · next zs hz =>
    obtain ⟨p, hσ, hpB, hp0, hp⟩ := g1.own i hi2 _ hz
    refine ⟨.ref p, hσ, b2 _ σ B H1 _ g1.rs (Po.toOk g1 q fun j _ w H2 e2 g2 r2 q2 => ?_)⟩
    split at q2
    · next jv hj =>
      split at q2
      · next k hk =>
        cases r2
        obtain ⟨p', hσ', hpB', hp0', hp'⟩ := g2.own i hi2 _ hz
        rw [hσ] at hσ'
        cases hσ'
        rcases hp' with ⟨acc, zs', e0, hp', ra⟩ | ⟨_, _, e0, _⟩
        · cases e0
          refine ⟨p, acc, jv, k, rfl, rfl, hp', by rw [ra.length]; exact hk, q2 _ B _ (g2.put hi2 hz hσ fun kk => .inl ⟨_, _, rfl, upd_same, ((RpA0.set (r.mv e2) k ra)).my kk⟩)⟩
        · cases e0
      · exact q2.elim
    · exact q2.elim
  · exact q.elim
end
end Ask
namespace Ask
open PySem L2 Evl
/-! a comprehension's list, as a new one -/
def PoL (K : PySem.W.Frag) (mg : Str → Option Value) (W : WX) (σ : L2.St) (B : List Addr) (H : Hp) (Q : VK) : R D → Prop
  | .ok (.lst ys) => ∀ p H' acc, Kx B H H' → H p = none → H' p = some (.lst acc) → Ky B H (p :: B) H' → RpA K (p :: B) H' acc ys → Q (.ref p) H'
  | .ok _ => False
  | .err c => ∀ H', Kx B H H' → W (clsV mg c) none σ H'
  | .bad => False
theorem none_back {H H' : Hp} (e : Ex H H') {p : Addr} (h : H' p = none) : H p = none := by
  cases q : H p with
  | none => rfl
  | some o => rw [e p o q] at h; cases h
theorem PoL.mono {K : PySem.W.Frag} {mg : Str → Option Value} {W : WX} {σ : L2.St} {B : List Addr} {H H1 : Hp} {Q : VK} (e : Kx B H H1) : ∀ {x : R D}, PoL K mg W σ B H Q x → PoL K mg W σ B H1 Q x
  | .ok (.lst ys), h => fun p H' acc k hp h2 ky r => h p H' acc (e.trans k) (none_back e.ex hp) h2 (e.ky.trans ky) r
  | .ok (.non), h => h.elim
  | .ok (.bl _), h => h.elim
  | .ok (.int _), h => h.elim
  | .ok (.str _), h => h.elim
  | .ok (.ty _), h => h.elim
  | .ok (.tup _), h => h.elim
  | .ok (.ktup _), h => h.elim
  | .ok (.klst _), h => h.elim
  | .ok (.dct _), h => h.elim
  | .ok (.own _), h => h.elim
  | .err _, h => fun H' k => h H' (e.trans k)
  | .bad, h => h
theorem PoL.step {γ δ : Type} {rel' : List Addr → Hp → δ → γ → Prop} {K : PySem.W.Frag} {mg : Str → Option Value} {W : WX} {σ : L2.St} {B : List Addr} {H : Hp} {Q : VK} {Q' : δ → Hp → Prop} {x : R γ} {f : γ → R D} (h : PoL K mg W σ B H Q (x.bind f)) (k : ∀ a, x = .ok a → ∀ v H1, Kx B H H1 → rel' B H1 v a → PoL K mg W σ B H1 Q (f a) → Q' v H1) : Po rel' mg W σ B H Q' x := by
  cases x with
  | ok a => exact fun v H1 e r => k a rfl v H1 e r (PoL.mono e h)
  | err c => exact h
  | bad => exact h
section
theorem EvLcF {K : PySem.W.Frag} {mg : Str → Option Value} {wi : TI} {g : TG} {tt : TT} {te : TE} {vs : List Nat} {mi : Sl → R (List D)} {bi : D → Sl → Option Sl} {mt : Sl → R Bool} {me : Sl → R D}
    (hi : EvI K mg W wi mi) (hg : EvG K g bi) (ht : EvB K mg W0 tt mt) (he : EvE K mg W0 te me) (hw2 : ∀ v σ H Q, g v (wipe σ vs) H Q → g v (wipe σ vs) H fun σ2 H2 => wipe σ2 vs = wipe σ vs ∧ Q σ2 H2) :
    ∀ (env : Sl) (σ : L2.St) (B : List Addr) (H : Hp) (Q : VK), RS K B H σ env → PoL K mg W σ B H Q (lcM mi vs bi mt me env) → tLc wi g tt te vs σ H Q := fun env σ B H Q hs h => by
  refine hi env σ B H _ hs (PoL.step h fun ds _ J H1 e1 wk q => ?_)
  by_cases hl : ds.length ≤ 8000000
  · rw [if_pos hl] at q
    intro Dl hD
    have hB1 := e1.inB'
    have hDB : Dl ∉ B := fun z => hB1 Dl z hD
    cases hgo : lcGo bi mt me (wipeE env vs) ds with
    | bad => rw [hgo] at q; exact q.elim
    | err c => rw [hgo] at q; exact q.elim
    | ok ys =>
      rw [hgo] at q
      have q' : ∀ p H' acc, Kx B H1 H' → H1 p = none → H' p = some (.lst acc) → Ky B H1 (p :: B) H' → RpA K (p :: B) H' acc ys → Q (.ref p) H' := q
      refine ⟨fun i m H2 => m = ds.length - i ∧ i ≤ ds.length ∧ Ky B H1 (Dl :: B) H2 ∧ Ex H1 H2 ∧ ∃ acc zs rs, H2 Dl = some (.lst acc) ∧ RpA K (Dl :: B) H2 acc zs ∧ lcGo bi mt me (wipeE env vs) (ds.drop i) = .ok rs ∧ zs ++ rs = ys,
        ⟨ds.length, by simp, Nat.zero_le _, ky_lay hB1 hD, Ex.new hD, [], [], ys, upd_same, .nil, hgo, rfl⟩, ?_⟩
      rintro i m H2 ⟨rfl, hi2, e2, x2, acc, zs, rs, hacc, ra, hrs, hys⟩
      obtain ⟨go, stop⟩ := wk _ H2 e2
      by_cases hlt : i < ds.length
      · obtain ⟨g1, g2⟩ := go i hlt
        refine .inr ⟨g1, fun H3 => i + 1 ≤ ds.length ∧ Ky B H1 (Dl :: B) H3 ∧ Ex H1 H3 ∧ ∃ acc zs rs, H3 Dl = some (.lst acc) ∧ RpA K (Dl :: B) H3 acc zs ∧ lcGo bi mt me (wipeE env vs) (ds.drop (i + 1)) = .ok rs ∧ zs ++ rs = ys, fun H' n => ⟨ds.length - (i + 1), by omega, rfl, n.1, n.2.1, n.2.2⟩, fun x H3 y => ?_⟩
        obtain ⟨e3, d, hd, rx⟩ := g2 x H3 y
        have hdrop : ds.drop i = d :: ds.drop (i + 1) := by
          rw [List.drop_eq_getElem_cons hlt]
          rw [List.getElem?_eq_getElem hlt] at hd
          cases hd
          rfl
        rw [hdrop] at hrs
        simp only [lcGo] at hrs
        cases hb : bi d (wipeE env vs) with
        | none => rw [hb] at hrs; cases hrs
        | some f1 =>
          rw [hb] at hrs
          simp only at hrs
          have hs3 : RS K (Dl :: B) H3 (wipe σ vs) (wipeE env vs) := ((hs.mono e1).my (e2.trans e3.ky)).wipe vs
          refine hw2 _ _ _ _ (hg _ _ _ _ _ _ _ _ hs3 rx hb fun σ' hs' => ?_)
          cases hk : mt f1 with
          | err c => rw [hk] at hrs; cases hrs
          | bad => rw [hk] at hrs; cases hrs
          | ok k =>
            rw [hk] at hrs
            refine ht f1 σ' _ H3 _ hs' (Po.noerr hk fun b H4 e4 r4 => ?_)
            have eb : b = k := r4
            subst eb
            simp only [R.bind] at hrs
            cases b with
            | true =>
              simp only [if_true] at hrs
              refine iteT ?_
              cases hel : me f1 with
              | err c => rw [hel] at hrs; cases hrs
              | bad => rw [hel] at hrs; cases hrs
              | ok y' =>
                rw [hel] at hrs
                simp only at hrs
                cases hrest : lcGo bi mt me (wipeE env vs) (ds.drop (i + 1)) with
                | err c => rw [hrest] at hrs; cases hrs
                | bad => rw [hrest] at hrs; cases hrs
                | ok rs' =>
                  rw [hrest] at hrs
                  cases hrs
                  refine he f1 σ' _ H4 _ (hs'.mono e4) (Po.noerr hel fun v H5 e5 r5 => ?_)
                  have l1 : acc.length = zs.length := ra.length
                  have l2 : (zs ++ y' :: rs').length = ys.length := by rw [hys]
                  have l3 := lcGo_len hgo
                  rw [List.length_append, List.length_cons] at l2
                  have hDl : H5 Dl = some (.lst acc) := e5.ex _ _ (e4.ex _ _ (e3.ex _ _ hacc))
                  have ra5 : RpA K (Dl :: B) H5 acc zs := ((ra.mv e3).mv e4).mv e5
                  have put := ky_put (o := .lst (acc ++ [v])) e5.inB'
                  refine ⟨acc, hDl, (show acc.length < 2 ^ 24 by omega), by omega, (((e2.trans e3.ky).trans e4.ky).trans e5.ky).trans put, Ex.mut (((x2.trans e3.ex).trans e4.ex).trans e5.ex) hD, acc ++ [v], zs ++ [y'], rs', upd_same, (ra5.append (.cons r5 .nil)).my put, rfl, ?_⟩
                  rw [List.append_assoc]
                  exact hys
            | false =>
              simp only [Bool.false_eq_true, if_false] at hrs
              exact iteF ⟨by omega, (e2.trans e3.ky).trans e4.ky, (x2.trans e3.ex).trans e4.ex, acc, zs, rs, e4.ex _ _ (e3.ex _ _ hacc), (ra.mv e3).mv e4, hrs, hys⟩
      · have ei : i = ds.length := by omega
        subst ei
        rw [List.drop_length] at hrs
        cases hrs
        rw [List.append_nil] at hys
        subst hys
        exact .inl ⟨stop, q' _ H2 _ ⟨x2, hB1⟩ hD hacc e2 ra⟩
  · rw [if_neg hl] at q
    exact q.elim
end
section
variable {X : Cx} {W : WX} {ow : List Nat} {a b c e : Expr} {es : List Expr} {ma mb mc : Sl → R D} {pos p2 : Pos}
/-- y = [.. for x in ..], a list of one's own -/
def newLw (ow : List Nat) (j : Nat) (m : Sl → R D) : Sl → O := fun env => toO (m (wipeE env ow)) fun d => match d with
  | .lst ys => .nx (env.set j (some (.lst ys)))
  | _ => .bad
theorem Po.toOl {K : PySem.W.Frag} {mg : Str → Option Value} {σ : L2.St} {B0 B : List Addr} {H0 H : Hp} {ks : List (List Addr × Hp)} {env : Sl} {E : Ends} {j : Nat} {x : R D} (hj : j ∈ ow) (hs : RSw K ow B0 H0 ks B H σ env) (h : PoSw K mg W ow E B0 H0 ks (Ask.toO x fun d => match d with
  | .lst ys => .nx (env.set j (some (.lst ys)))
  | _ => .bad)) : PoL K mg W σ B H (fun v H' => gName j v σ H' E.nx) x := by
  cases x with
  | ok a =>
    cases a with
    | lst ys => exact fun p H' acc k hp h2 ky r => h _ _ _ (hs.lay hj ky k.ex hp (.inl ⟨acc, ys, rfl, h2, r⟩))
    | _ => exact h.elim
  | err c => exact fun H' e => h σ H' (hs.mono e).kx
  | bad => exact h
theorem msw_setLcIf (i j : Nat) {elt iter c : Expr} {x y : Str} {px py spos : Pos} {scope : Scope} {mi : Sl → R (List D)} {mt : Sl → R Bool} {m : Sl → R D} (hj : j ∈ ow) (hc : X.calm = true) (hN : X.N.Nodup) (hy : X.N[j]? = some y) (hyl : X.env.scope.names.lookup y = some .local)
    (hsw : swapsWith (.ListComp elt [⟨.Name x px, iter, [c], 0⟩] scope pos) (some (.Name y py)) spos.line X.env = pure true) (hi : MI X W (.Name x px) iter mi) (ok : BlkOk X.N X.env.scope scope [(x, i)])
    (hg1 : Blk X scope fun Y => PG Y (.Name x px) (gName i)) (ht : Blk X scope fun Y => MT Y W0 c mt) (he : Blk X scope fun Y => ME Y W0 elt m) (hs : ∀ x, foldedSetIterable iter X.env x = pure x := by intro _; rfl) :
    MSw X W ow (.Assign [.Name y py] (.ListComp elt [⟨.Name x px, iter, [c], 0⟩] scope pos) spos) (newLw ow j (lcM mi [i] (tgN i) mt m)) := by
  obtain ⟨wi, i1, i2⟩ := hi
  refine ⟨_, ps_setLc (own := [(x, i)]) hc hN hy hyl hsw i1 ok hg1 (fun s H C cl fp => pts_one (ht s H C cl fp).pt) (fun s H C cl fp => (he s H C cl fp).pe) hs, fun env σ B0 H0 ks B H E hs h => EvLcF i2 (fun env env' σ B H v d Q hs r h q => ?_) tbOf_ev teOf_ev (fun v σ H Q h => wipe_one h) _ σ B H _ hs.rs (Po.toOl hj hs h)⟩
  cases h; exact q _ (hs.set r)
theorem msw_setLc (i j : Nat) {elt iter : Expr} {x y : Str} {px py spos : Pos} {scope : Scope} {mi : Sl → R (List D)} {m : Sl → R D} (hj : j ∈ ow) (hc : X.calm = true) (hN : X.N.Nodup) (hy : X.N[j]? = some y) (hyl : X.env.scope.names.lookup y = some .local)
    (hsw : swapsWith (.ListComp elt [⟨.Name x px, iter, [], 0⟩] scope pos) (some (.Name y py)) spos.line X.env = pure true) (hi : MI X W (.Name x px) iter mi) (ok : BlkOk X.N X.env.scope scope [(x, i)])
    (hg1 : Blk X scope fun Y => PG Y (.Name x px) (gName i)) (he : Blk X scope fun Y => ME Y W0 elt m) (hs : ∀ x, foldedSetIterable iter X.env x = pure x := by intro _; rfl) :
    MSw X W ow (.Assign [.Name y py] (.ListComp elt [⟨.Name x px, iter, [], 0⟩] scope pos) spos) (newLw ow j (lcM mi [i] (tgN i) yesM m)) := by
  obtain ⟨wi, i1, i2⟩ := hi
  refine ⟨_, ps_setLc (own := [(x, i)]) hc hN hy hyl hsw i1 ok hg1 (fun _ _ _ _ _ => pts_nil) (fun s H C cl fp => (he s H C cl fp).pe) hs, fun env σ B0 H0 ks B H E hs h => EvLcF i2 (fun env env' σ B H v d Q hs r h q => ?_) (fun env σ B H Q hs h => ?_) teOf_ev (fun v σ H Q h => wipe_one h) _ σ B H _ hs.rs (Po.toOl hj hs h)⟩
  · cases h; exact q _ (hs.set r)
  · exact h true H (Kx.refl hs.inB) rfl
/-- y = [.. for x in .. if ..], a value -/
theorem ms_setLcIf (i j : Nat) {elt iter c : Expr} {x y : Str} {px py spos : Pos} {scope : Scope} {mi : Sl → R (List D)} {mt : Sl → R Bool} {m : Sl → R D} (hc : X.calm = true) (hN : X.N.Nodup) (hy : X.N[j]? = some y) (hyl : X.env.scope.names.lookup y = some .local)
    (hsw : swapsWith (.ListComp elt [⟨.Name x px, iter, [c], 0⟩] scope pos) (some (.Name y py)) spos.line X.env = pure true) (hi : MI X W (.Name x px) iter mi) (ok : BlkOk X.N X.env.scope scope [(x, i)])
    (hg1 : Blk X scope fun Y => PG Y (.Name x px) (gName i)) (ht : Blk X scope fun Y => MT Y W0 c mt) (he : Blk X scope fun Y => ME Y W0 elt m) (hs : ∀ x, foldedSetIterable iter X.env x = pure x := by intro _; rfl) :
    ∃ te, PS X (.Assign [.Name y py] (.ListComp elt [⟨.Name x px, iter, [c], 0⟩] scope pos) spos) (tAsg te (gName j)) ∧ EvE X.K X.mg W te (lcM mi [i] (tgN i) mt m) := by
  obtain ⟨wi, i1, i2⟩ := hi
  refine ⟨_, ps_setLc (own := [(x, i)]) hc hN hy hyl hsw i1 ok hg1 (fun s H C cl fp => pts_one (ht s H C cl fp).pt) (fun s H C cl fp => (he s H C cl fp).pe) hs, EvLc i2 (fun env env' σ B H v d Q hs r h q => ?_) tbOf_ev teOf_ev fun v σ H Q h => wipe_one h⟩
  cases h; exact q _ (hs.set r)
end
end Ask
namespace Ask
open PySem L2 Evl
/-! dicts of one's own, their keys texts -/
def putD (ds : List (Str × D)) (k : Str) (d : D) : List (Str × D) := if (ds.any fun kv => decide (kv.1 = k)) = true then ds.map (fun kv => if kv.1 = k then (kv.1, d) else kv) else ds ++ [(k, d)]
section
variable {K : PySem.W.Frag} {H : Hp}
theorem RpD0.length : ∀ {xs : List (Key × V)} {ds : List (Str × D)}, RpD0 K H xs ds → xs.length = ds.length
  | _, _, .nil => rfl
  | _, _, .cons _ r => congrArg (· + 1) r.length
theorem RpD0.any (k : Str) : ∀ {xs : List (Key × V)} {ds : List (Str × D)}, RpD0 K H xs ds → (xs.any fun kv => decide (kv.1 = Sum.inr k)) = (ds.any fun kv => decide (kv.1 = k))
  | _, _, .nil => rfl
  | _, _, .cons (k := z) _ r => by
    have : decide ((Sum.inr z : Key) = Sum.inr k) = decide (z = k) := by
      by_cases h : z = k
      · subst h; simp
      · rw [decide_eq_false h, decide_eq_false (fun e => h (Sum.inr.inj e))]
    simp only [List.any_cons, RpD0.any k r, this]
theorem RpD0.mapPut {k : Str} {v : V} {d : D} (rv : Rp0 K H v d) : ∀ {xs : List (Key × V)} {ds : List (Str × D)}, RpD0 K H xs ds → RpD0 K H (xs.map fun kv => if kv.1 = Sum.inr k then (kv.1, v) else kv) (ds.map fun kv => if kv.1 = k then (kv.1, d) else kv)
  | _, _, .nil => .nil
  | _, _, .cons (k := z) h r => by
    simp only [List.map_cons]
    by_cases hz : z = k
    · subst hz
      rw [if_pos rfl, if_pos rfl]
      exact .cons rv (RpD0.mapPut rv r)
    · rw [if_neg (fun e => hz (Sum.inr.inj e)), if_neg hz]
      exact .cons h (RpD0.mapPut rv r)
theorem RpD0.snoc {k : Str} {v : V} {d : D} (rv : Rp0 K H v d) : ∀ {xs : List (Key × V)} {ds : List (Str × D)}, RpD0 K H xs ds → RpD0 K H (xs ++ [(Sum.inr k, v)]) (ds ++ [(k, d)])
  | _, _, .nil => .cons rv .nil
  | _, _, .cons h r => .cons h (RpD0.snoc rv r)
theorem RpD0.put {k : Str} {v : V} {d : D} (rv : Rp0 K H v d) {xs : List (Key × V)} {ds : List (Str × D)} (r : RpD0 K H xs ds) : RpD0 K H (putK xs (Sum.inr k) v) (putD ds k d) := by
  unfold putK putD
  rw [r.any k]
  split
  · exact r.mapPut rv
  · exact r.snoc rv
end
section
variable {X : Cx} {W : WX} {ow : List Nat} {a b c e : Expr} {es : List Expr} {ma mb mc : Sl → R D} {pos p2 : Pos}
/-- x = {} -/
def newDw (i : Nat) : Sl → O := fun env => .nx (env.set i (some (.dct [])))
theorem msw_dnew (i : Nat) {x : Str} {pos' dpos : Pos} (hi2 : i ∈ ow) (hN : X.N.Nodup) (hi : X.N[i]? = some x := by rfl) (hx : Loc X.env.scope x := by first | exact Or.inl rfl | exact Or.inr rfl) (hs : swapsWith (.Dict [] [] dpos) (some (.Name x pos')) pos.line X.env = pure false := by rfl) (hf : X.fn x = true ∨ X.env.scope.names.lookup x = some .local := by first | exact .inl rfl | exact .inr rfl) :
    MSw X W ow (.Assign [.Name x pos'] (.Dict [] [] dpos) pos) (newDw i) :=
  ⟨_, ps_set hN hi hx pe_dnewK hs hf, fun env σ B0 H0 ks B H E hs h p hp => h _ _ _ (hs.lay hi2 (ky_lay hs.rs.inB hp) (Ex.new hp) hp (.inr ⟨[], [], rfl, upd_same, .nil⟩))⟩
/-- x = dict(e) -/
def copDw (ow : List Nat) (i : Nat) (m : Sl → R D) : Sl → O := fun env => toO (m (wipeE env ow)) fun d => match d with
  | .dct kvs => .nx (env.set i (some (.dct kvs)))
  | _ => .bad
theorem msw_dcopy (i : Nat) {x : Str} {pos' fp cpos : Pos} (hi2 : i ∈ ow) (he : ME X W e ma) (hN : X.N.Nodup) (hg : Gl X "dict") (hm : X.mg "dict" = none) (hi : X.N[i]? = some x := by rfl) (hx : Loc X.env.scope x := by first | exact Or.inl rfl | exact Or.inr rfl)
    (hs : swapsWith (.Call (.Name "dict" fp) [e] [] cpos) (some (.Name x pos')) pos.line X.env = pure false := by rfl) (hf : X.fn x = true ∨ X.env.scope.names.lookup x = some .local := by first | exact .inl rfl | exact .inr rfl)
    (hst : starEach [e] X.env = (false, eval e X.env) :: starEach [] X.env := by rfl) :
    MSw X W ow (.Assign [.Name x pos'] (.Call (.Name "dict" fp) [e] [] cpos) pos) (copDw ow i ma) := by
  obtain ⟨t, a1, a2⟩ := he
  refine ⟨_, ps_set hN hi hx (pe_callTy call_dictD hg hm (by decide +kernel) (pa_cons a1 pa_nil hst) (he := hst)) hs hf, fun env σ B0 H0 ks B H E hs h => a2 _ σ B H _ hs.rs (Po.toOw hs h fun d _ v H1 h1 r q => ?_)⟩
  cases r with
  | dct hp rd =>
    exact ⟨_, _, rfl, .inl (hid_some hp), fun p hn => q _ _ _ (h1.lay hi2 (ky_lay h1.rs.inB hn) (Ex.new hn) hn (.inr ⟨_, _, rfl, upd_same, rd.mono (ky_lay h1.rs.inB hn).hid⟩))⟩
  | _ => exact q.elim
/-- x[k] = e, a dict of one's own -/
def putDw (ow : List Nat) (i : Nat) (mi : Sl → R D) (m : Sl → R D) : Sl → O := fun env => toO (m (wipeE env ow)) fun d => match env[i]? with
  | some (some (.dct kvs)) => toO (mi (wipeE env ow)) fun j => match j with
    | .str k => if kvs.length ≤ 100000 then .nx (env.set i (some (.dct (putD kvs k d)))) else .bad
    | _ => .bad
  | _ => .bad
theorem msw_dput (i : Nat) {x : Str} {px spos : Pos} {ie : Expr} {mi : Sl → R D} (hu : X.A.units + 1 < cLine) (hi2 : i ∈ ow) (he : ME X W e ma) (hie : ME X W ie mi) (hi : X.N[i]? = some x := by rfl) (hv : Vis X.env.scope x := by first | exact Or.inl rfl | exact Or.inr (Or.inl rfl) | exact Or.inr (Or.inr rfl)) (hd : (x == ("__debug__" : Str)) = false := by decide) (hcd : (x == ("__classdict__" : Str)) = false := by decide)
    (ha : ∀ v, assign (.Subscript (.Name x px) ie spos) X.env v = (do
      let ov ← holding [v] (eval (.Name x px) X.env)
      let iv ← holding [v, ov] (eval ie X.env)
      standAt spos
      holding [v, ov, iv] (setItem ov iv v)
      release [v, ov, iv] []) := by intro _; rfl)
    (hs : swapsWithSole [.Subscript (.Name x px) ie spos] e pos.line X.env = pure false := by rfl) (hw : swappedStores [.Subscript (.Name x px) ie spos] e X.env = pure none := by rfl)
    (h1 : (assignEach [.Subscript (.Name x px) ie spos] X.env).map (·.2) = [assign (.Subscript (.Name x px) ie spos) X.env] := by rfl) :
    MSw X W ow (.Assign [.Subscript (.Name x px) ie spos] e pos) (putDw ow i mi ma) := by
  obtain ⟨t, a1, a2⟩ := he
  obtain ⟨u, b1, b2⟩ := hie
  refine ⟨_, ps_asg a1 (pg_sub (pe_var (i := i) hi hv hd hcd) b1 (set_dict hu) ha) hs hw h1, fun env σ B0 H0 ks B H E hs h => a2 _ σ B H _ hs.rs (Po.toOw hs h fun d _ v H1 g1 r q => ?_)⟩
  split at q
  · next kvs hz =>
    obtain ⟨p, hσ, hpB, hp0, hp⟩ := g1.own i hi2 _ hz
    refine ⟨.ref p, hσ, b2 _ σ B H1 _ g1.rs (Po.toOk g1 q fun j _ w H2 e2 g2 r2 q2 => ?_)⟩
    split at q2
    · next k hk =>
      split at q2
      · next hl =>
        cases r2
        obtain ⟨p', hσ', hpB', hp0', hp'⟩ := g2.own i hi2 _ hz
        rw [hσ] at hσ'
        cases hσ'
        rcases hp' with ⟨_, _, e0, _⟩ | ⟨xs, kvs', e0, hp', rd⟩
        · cases e0
        · cases e0
          have hlen : xs.length = kvs.length := rd.length
          exact ⟨p, _, rfl, DPut.k (k := Sum.inr k) hp' (show xs.length < 2 ^ 24 by omega), q2 _ B _ (g2.put hi2 hz hσ fun kk => .inr ⟨_, _, rfl, upd_same, (RpD0.put (r.mv e2) rd).mono kk.hid⟩)⟩
      · exact q2.elim
    · exact q2.elim
  · exact q.elim
end
end Ask
namespace Ask
open PySem L2 Evl
/-! {"k": e, ..} as a thing of one's own; d.get(k, e) -/
section
variable {X : Cx} {W : WX} {ow : List Nat} {a b c e : Expr} {es : List Expr} {ma mb mc : Sl → R D} {pos p2 : Pos}
/-- pairs: texts and values -/
def RpPs (K : PySem.W.Frag) (ks : List Str) : List Addr → Hp → List (V × V) → List D → Prop := fun B H ps ds => ∃ vs, ps = (ks.map V.str).zip vs ∧ vs.length = ks.length ∧ RpA K B H vs ds
def MPs (X : Cx) (W : WX) (pos : Pos) (keys : List (Option Expr)) (values : List Expr) (ks : List Str) (m : Sl → R (List D)) : Prop :=
  ∃ trs, PPs X pos keys values trs ∧ ∀ (env : Sl) (σ : L2.St) (B : List Addr) (H : Hp) (Q : List (V × V) → Hp → Prop), RS X.K B H σ env → Po (RpPs X.K ks) X.mg W σ B H Q (m env) → tPairs trs σ H Q
theorem mp_nil : MPs X W pos [] [] [] nilA := ⟨[], pps_nil, fun env σ B H Q hs h => h [] H (Kx.refl hs.inB) ⟨[], rfl, rfl, .nil⟩⟩
theorem mp_cons {keys : List (Option Expr)} {values : List Expr} {ks : List Str} {k : Str} {j : Nat} {kp : Pos} {m : Sl → R (List D)} (he : ME X W e ma) (hr : MPs X W pos keys values ks m) : MPs X W pos (some (.Constant (.str k) j kp) :: keys) (e :: values) (k :: ks) (consA ma m) := by
  obtain ⟨t, h1, h2⟩ := he
  obtain ⟨trs, k1, k2⟩ := hr
  refine ⟨_, pps_cons pe_str h1 k1, fun env σ B H Q hs h => ?_⟩
  show t σ H fun y H2 => tPairs trs σ H2 fun ps H3 => Q ((V.str k, y) :: ps) H3
  refine h2 env σ B H _ hs (Po.step h fun x _ v H1 e1 r1 q => ?_)
  refine k2 env σ B H1 _ (hs.mono e1) (Po.step q fun xs _ ps H2 e2 r2 q2 => ?_)
  obtain ⟨vs, rfl, hl, ra⟩ := r2
  exact q2 _ H2 (Kx.refl e2.inB') ⟨v :: vs, rfl, by rw [List.length_cons, List.length_cons, hl], .cons (r1.mv e2) ra⟩
/-- the display's pairs, each text once -/
theorem merge_zip {K : PySem.W.Frag} {H : Hp} : ∀ (ks : List Str) (vs : List V) (ds : List D), ks.Nodup → vs.length = ks.length → RpA0 K H vs ds → RpD0 K H (((ks.map fun k => (Sum.inr k : Key)).zip vs)) (ks.zip ds)
  | [], _, _, _, _, _ => .nil
  | k :: ks, [], ds, _, h, _ => by cases h
  | k :: ks, v :: vs, _, nd, h, .cons r1 r2 => .cons r1 (merge_zip ks vs _ (List.nodup_cons.mp nd).2 (by simpa using h) r2)
def newPw (ow : List Nat) (i : Nat) (ks : List Str) (m : Sl → R (List D)) : Sl → O := fun env => toO (m (wipeE env ow)) fun ds => .nx (env.set i (some (.dct (ks.zip ds))))
theorem msw_ddisp (i : Nat) {x : Str} {pos' dpos : Pos} {keys : List (Option Expr)} {values : List Expr} {ks : List Str} {m : Sl → R (List D)} (hi2 : i ∈ ow) (he : MPs X W dpos keys values ks m) (nd : ks.Nodup) (hN : X.N.Nodup) (h15 : ks.length ≤ 15) (hall : keys.all (·.isSome) = true) (hl : keys.length = values.length) (h0 : keys ≠ []) (h16 : keys.length ≤ 15)
    (hi : X.N[i]? = some x := by rfl) (hx : Loc X.env.scope x := by first | exact Or.inl rfl | exact Or.inr rfl) (hs : swapsWith (.Dict keys values dpos) (some (.Name x pos')) pos.line X.env = pure false := by rfl) (hf : X.fn x = true ∨ X.env.scope.names.lookup x = some .local := by first | exact .inl rfl | exact .inr rfl) :
    MSw X W ow (.Assign [.Name x pos'] (.Dict keys values dpos) pos) (newPw ow i ks m) := by
  obtain ⟨trs, k1, k2⟩ := he
  refine ⟨_, ps_set hN hi hx (pe_disp k1 hall hl h0 h16) hs hf, fun env σ B0 H0 ks0 B H E hs h p hp => ?_⟩
  have hB := hs.rs.inB
  have lay := ky_lay (o := .dK []) hB hp
  have hs1 : RS X.K (p :: B) (upd H p (.dK [])) σ (wipeE env ow) := hs.rs.my lay
  refine k2 _ σ (p :: B) _ _ hs1 ?_
  unfold newPw at h
  cases hm : m (wipeE env ow) with
  | bad => rw [hm] at h; exact h.elim
  | err c =>
    rw [hm] at h
    exact fun H' e => h σ H' ⟨hs.ex.trans ((Ex.new hp).trans e.ex), hs.inB0⟩
  | ok ds =>
    rw [hm] at h
    intro ps H' e1 r1
    obtain ⟨vs, rfl, hlv, ra⟩ := r1
    have hpp : H' p = some (.dK []) := e1.ex _ _ upd_same
    refine ⟨hpp, (ks.map fun k => (Sum.inr k : Key)).zip vs, ?_, ?_, ?_⟩
    · rw [List.map_zip_eq_zipWith]
      have : ∀ (ks : List Str) (vs : List V), (ks.map V.str).zip vs = List.zipWith (fun (a : Key) (b : V) => (kV a, b)) (ks.map fun k => (Sum.inr k : Key)) vs := by
        intro ks
        induction ks with
        | nil => intro vs; rfl
        | cons k ks ih => intro vs; cases vs with
          | nil => rfl
          | cons v vs => simp only [List.map_cons, List.zip_cons_cons, List.zipWith_cons_cons, ih]; rfl
      rw [this]
      rfl
    · rw [List.length_zip, List.length_map]; omega
    · have mg : mergeK [] ((ks.map fun k => (Sum.inr k : Key)).zip vs) = (ks.map fun k => (Sum.inr k : Key)).zip vs := by
        have h1 := mergeK_new ((ks.map fun k => (Sum.inr k : Key)).zip vs) [] (fun p hp => by
          have := (List.of_mem_zip hp).1
          obtain ⟨k, _, hk⟩ := List.mem_map.mp this
          exact ⟨k, hk.symm⟩) (by
            rw [List.nil_append, List.map_fst_zip (by rw [List.length_map, hlv]; exact Nat.le_refl _)]
            exact List.Pairwise.map _ (fun a b hab z => hab (Sum.inr.inj z)) nd)
        rw [List.nil_append] at h1
        exact h1
      rw [mg]
      have put := ky_put (o := .dK ((ks.map fun k => (Sum.inr k : Key)).zip vs)) e1.inB'
      have k3 : Ky B H (p :: B) (upd H' p (.dK ((ks.map fun k => (Sum.inr k : Key)).zip vs))) := (lay.trans e1.ky).trans put
      exact h _ _ _ (hs.lay hi2 k3 (Ex.mut ((Ex.new hp).trans e1.ex) hp) hp (.inr ⟨_, _, rfl, upd_same, (merge_zip ks vs ds nd hlv ra).mono put.hid⟩))
end
end Ask
namespace Ask
open PySem L2 Evl
section
variable {X : Cx} {W : WX} {a b c e f : Expr} {es : List Expr} {ma mb mc : Sl → R D} {pos p2 : Pos}
/-- a[b], a list, a tuple, a text or a dict -/
def ixA (ma mb : Sl → R D) : Sl → R D := fun env => match ma env with
  | .ok (.dct _) => op2 D.dix ma mb env
  | _ => op2 D.ix ma mb env
theorem me_ixA (hu : X.A.units + 1 < cLine) (ha : ME X W a ma) (hb : ME X W b mb) (hn : NoSl b) (hp : PlainIx b := by exact fun _ _ => rfl) : ME X W (.Subscript a b pos) (ixA ma mb) := by
  obtain ⟨t1, g1, g2⟩ := me_dix (pos := pos) hu ha hb hn
  obtain ⟨t2, k1, k2⟩ := me_ix (pos := pos) ha hb hp
  refine ⟨fun σ H Q => t1 σ H Q ∨ t2 σ H Q, ⟨fun pins s σ H Q I h => h.elim (fun h => g1.run pins s σ H Q I h) (fun h => k1.run pins s σ H Q I h)⟩, fun env σ B H Q hs h => ?_⟩
  unfold ixA at h
  split at h
  · exact .inl (g2 env σ B H Q hs h)
  · exact .inr (k2 env σ B H Q hs h)
theorem RpD0.getO {K : PySem.W.Frag} {H : Hp} {k : Str} : ∀ {xs : List (Key × V)} {ds : List (Str × D)}, RpD0 K H xs ds → ds.lookup k = none → valV xs (Sum.inr k) = none
  | _, _, .nil, h => rfl
  | _, _, .cons (k := k') (v := v) (d := d') r t, h => by
    by_cases hk : k = k'
    · subst hk
      rw [List.lookup_cons_self] at h
      cases h
    · have hb : (k == k') = false := beq_eq_false_iff_ne.mpr hk
      rw [List.lookup_cons, hb] at h
      rw [valV_neg (fun q => hk (Sum.inr.inj q).symm)]
      exact RpD0.getO t h
/-- d.get(k, e) -/
def dgetM (ma mb mc : Sl → R D) : Sl → R D := fun env => (ma env).bind fun x => match x with
  | .dct kvs => (mb env).bind fun y => (mc env).bind fun z => match y with
    | .str k => .ok ((kvs.lookup k).getD z)
    | _ => .bad
  | _ => .bad
theorem me_dget2 {apos cpos : Pos} (hu : X.A.units + 1 < cLine) (ha : ME X W a ma) (hb : ME X W b mb) (hc : ME X W c mc) (m : M2 X a "get" apos b c cpos := by exact ⟨rfl, rfl, rfl, rfl⟩) : ME X W (.Call (.Attribute a "get" apos) [b, c] [] cpos) (dgetM ma mb mc) := by
  obtain ⟨ta, a1, a2⟩ := ha
  obtain ⟨tb, b1, b2⟩ := hb
  obtain ⟨tc, c1, c2⟩ := hc
  refine ⟨_, pe_dget2 hu a1 b1 c1 m, fun env σ B H Q hs h => a2 env σ B H _ hs (Po.step h fun x hx v H1 e1 r1 q => ?_)⟩
  cases x with
  | dct kvs =>
    cases r1 with
    | dct hp rd =>
      refine ⟨_, rfl, .inl ⟨_, .inl (hid_some hp)⟩, b2 env σ B H1 _ (hs.mono e1) (Po.step q fun y _ u H2 e2 r2 q2 => c2 env σ B H2 _ ((hs.mono e1).mono e2) (Po.step q2 fun z _ w H3 e3 r3 q3 => ?_))⟩
      cases r2 with
      | str k =>
        have e := e2.trans e3
        have hp3 := hid_some (e.hid _ _ hp)
        have rd3 := rd.mono e.hid
        cases hl : kvs.lookup k with
        | some d =>
          obtain ⟨v, hv, rv⟩ := rd3.get hl
          refine ⟨some v, by rw [← hv]; exact DGet.k (k := Sum.inr k) hp3, q3 v H3 (Kx.refl e3.inB') ?_⟩
          rw [hl]; exact rv
        | none =>
          refine ⟨none, by rw [← rd3.getO hl]; exact DGet.k (k := Sum.inr k) hp3, q3 w H3 (Kx.refl e3.inB') ?_⟩
          rw [hl]; exact r3
      | _ => exact q3.elim
  | _ => exact q.elim
end
end Ask
/-! enumerate(tuple, start=k); reversed(list), reversed(range(n)) -/
namespace Ask
open PySem L2 Evl PyProof.Rows
section
variable {M : Model} {A : Around} {E : Value → Shared → Prop} {s : Shared} {env : Env}
theorem callWith_type_kwB {pos : Pos} {T : String} {first : List Value} {args : List (Bool × Sem Value)} {keywords : List (Option Str × Sem Value)} {Q : Value → Shared → Prop}
    (hplain : args.any (·.1) = false) (hkw : keywords.any (·.1.isNone) = false)
    (h : wpAny M A (evalArgs (.type T) true args keywords) (fun a s₁ => wpAny M A (call (.type T) (first ++ a.pos) a.kw) Q E s₁) E s) :
    wpAny M A (callWith pos (.type T) first args keywords) Q E s := by
  unfold callWith
  refine wpAny_bind (wpAny_holding (wpAny_mono h (fun a s₁ h₁ => wpAny_bind (wpAny_standAt ?_)) fun _ _ x => x))
  simp only [hplain, hkw, Bool.or_false]
  refine wpAny_bind (wpAny_pure ?_)
  exact wpAny_bind (wpAny_mono h₁ (fun r s₂ hr => wpAny_bind (wpAny_holding (wpAny_point (wpAny_pure hr)))) fun _ _ x => x)
theorem callWith_kwT {pos : Pos} {T : String} {e : Expr} {rest : List Expr} {kws : List Keyword} {Q : Value → Shared → Prop}
    (h : wpAny M A (spliced (backTo pos (starEach (e :: rest) env))) (fun vs s₁ => wpAny M A (evalAll ((backToKw pos (keywordEach kws env)).map (·.2)))
      (fun kvs s₂ => wpAny M A (call (.type T) vs (((backToKw pos (keywordEach kws env)).filterMap (·.1)).zip kvs)) Q E s₂) E s₁) E s)
    (he : backTo pos (starEach (e :: rest) env) = (false, eval e env) :: backTo pos (starEach rest env) := by rfl)
    (hplain : (backTo pos (starEach (e :: rest) env)).any (·.1) = false := by rfl)
    (hall : (backToKw pos (keywordEach kws env)).all (·.1.isSome) = true := by rfl)
    (hkw : (backToKw pos (keywordEach kws env)).any (·.1.isNone) = false := by rfl) :
    wpAny M A (callWith pos (.type T) [] (backTo pos (starEach (e :: rest) env)) (backToKw pos (keywordEach kws env))) Q E s := by
  refine callWith_type_kwB hplain hkw ?_
  rw [he] at h ⊢
  exact evalArgs_kwB hall h
end
/-- the tuple at a, each item in a new pair behind its number, from k on -/
def ItT (K : PySem.W.Frag) (a : Addr) (k : Int) : It :=
  ⟨fun i H => ∃ (xs : List V) (x : V), SqT K H a xs ∧ xs[i]? = some x, fun i H v H' => ∃ T x, v = .ref T ∧ H T = none ∧ H' = upd H T (.tup [.int (k + (i : Nat)), x]) ∧ ∀ xs, SqT K H a xs → xs[i]? = some x, fun i H => ∃ xs : List V, SqT K H a xs ∧ xs.length = i⟩
theorem ne_tup_iter {h : Heap} {it a t : Addr} {i : Nat} {items : Array Value} (hi : h.IsTupleIter it t i) (ht : h.IsTuple a items) : a ≠ it := fun z => by
  subst z
  obtain ⟨o, ho, hc, hd⟩ := hi
  obtain ⟨o2, ho2, hc2, n, hd2⟩ := ht
  rw [ho] at ho2
  cases ho2
  rw [hd] at hd2
  cases hd2
theorem ne_tup_enum {h : Heap} {e it a : Addr} {c : Int} {old : Value} {items : Array Value} (hi : IsEnum h e it c old) (ht : h.IsTuple a items) : e ≠ a := fun z => by
  subst z
  obtain ⟨o2, ho2, hc2, n, hd2⟩ := ht
  unfold IsEnum at hi
  rw [hi] at ho2
  cases ho2
  cases hd2
theorem turn_enumT {P : Program} {w : World} {K : PySem.W.Frag} {elts : List Expr} {kk : Nat} {tpos : Pos} (a e it : Addr) (k : Int) :
    Turn P w K (.Tuple elts kk tpos) (ItT K a k) [e, it] e (fun i h => (∃ old, IsEnum h e it (k + ((i : Nat) : Int)) old) ∧ h.IsTupleIter it a i ∧ e ≠ it) where
  mem := by simp
  obj := fun i h st b hb => by
    obtain ⟨⟨old, he⟩, ⟨o, ho, hc, hd⟩, _⟩ := st
    have e' : b = e ∨ b = it := by simpa using hb
    rcases e' with z | z
    · rw [z]; exact ⟨_, he, fun v q => nomatch q⟩
    · rw [z]; exact ⟨o, ho, fun v q => by rw [hd] at q; cases q⟩
  keep := fun i h h' st k' => let ⟨⟨old, he⟩, hi, hne⟩ := st; ⟨⟨old, k' e (by simp) _ he⟩, hi.at fun o q => k' it (by simp) o q, hne⟩
  item := by
    intro X hP hw hK hc i pins s σ H E I hf st hg
    subst hP hw hK
    obtain ⟨⟨old, he⟩, hit, hne⟩ := st
    obtain ⟨xs, x, hq, hx⟩ := hg
    obtain ⟨its, rv, p, hz⟩ := I.tuple hq
    obtain ⟨u, hu, ru⟩ := rv.get hx
    have hel : e < s.heap.objs.size := Heap.lt_size he
    have hil : it < s.heap.objs.size := by obtain ⟨_, q, _⟩ := hit; exact Heap.lt_size q
    have ht : s.heap.IsTuple a its.toArray := p
    have hh : X.A.in1.handled = none := I.ok.hd hc
    have D : Draws X.prog X.w X.A.in1 it [it, a] its.toArray.size (fun i v => its.toArray[i]? = some v) (fun i h => h.IsTupleIter it a i ∧ h.IsTuple a its.toArray) := Draws.tuple (A := X.A.in1) hh it a (ne_tup_iter hit ht) its.toArray
    have hlt : i < its.toArray.size := by
      obtain ⟨q, _⟩ := List.getElem?_eq_some_iff.mp hu
      simpa using q
    refine wpAny_pyNext_enum_itemC D he ⟨hit, ht⟩ hlt hne (by
      intro z
      have e' : e = it ∨ e = a := by simpa using z
      rcases e' with z | z
      · exact hne z
      · exact ne_tup_enum he ht z) fun y h' tk hy ho hst hT hsz hk => ?_
    have hyu : y = u := by
      have : its.toArray[i]? = some u := by simpa using hu
      rw [this] at hy
      cases hy
      rfl
    subst hyu
    refine ⟨_, rfl, wpAny_letOwnedTupleGo_enum (s := { s with heap := h', toks := tk + 1 }) ho fun h'' he' sb => ?_⟩
    have hT2 : h''.get? s.heap.objs.size = some { cls := .type "tuple", data := .seq #[.int (k + i) tk, y] } := (sb.2 _ (Nat.ne_of_gt hel)).trans hT
    have new : ObjOk X.prog X.w (upd H s.heap.objs.size (.tup [.int (k + (i : Nat)), x])) h'' s.heap.objs.size (.tup [.int (k + (i : Nat)), x]) :=
      ⟨by show 2 ≤ sizeLine; decide, [.int (k + i) tk, y], .cons ⟨_, rfl⟩ (.cons ru .nil), ⟨_, hT2, rfl, _, rfl⟩⟩
    have I1 : Inv X pins σ (upd H s.heap.objs.size (.tup [.int (k + (i : Nat)), x])) { s with heap := h'', toks := tk + 1 } :=
      I.turnedNew (ch := [e, it]) (fun b ob hb q => (sb.2 b (fun z => hb (by simp [z]))).trans (hk b ob (fun z => hb (by simp [z])) (fun z => hb (by simp [z])) q)) hf (Nat.le_refl _) new
    refine ⟨.ref s.heap.objs.size, _, I1, rfl, ⟨_, x, rfl, I.hok.fresh (Nat.le_refl _), rfl, fun ys hy => by rw [I.tuple_inj hy hq]; exact hx⟩, ⟨⟨y, ?_⟩, hst.1.at fun o q => (sb.2 it (Ne.symm hne)).trans q, hne⟩, fun b hb => ?_⟩
    · have e1 : k + ((i + 1 : Nat) : Int) = k + (i : Int) + 1 := by omega
      rw [e1]; exact he'
    · have hb' : b < s.heap.objs.size := by
        have e' : b = e ∨ b = it := by simpa using hb
        rcases e' with z | z
        · rw [z]; exact hel
        · rw [z]; exact hil
      rw [upd_ne (Nat.ne_of_lt hb')]
      exact (hf b hb).1
  done := by
    intro X hP hw hK hc i pins s σ H E I hf st hg
    subst hP hw hK
    obtain ⟨⟨old, he⟩, hit, hne⟩ := st
    obtain ⟨xs, hq, hx⟩ := hg
    obtain ⟨its, rv, p, hz⟩ := I.tuple hq
    obtain ⟨f0, f1, f2, f3, f4, f5⟩ := hf it (by simp)
    have hl := rv.length
    have ht : s.heap.IsTuple a its.toArray := p
    have hh : X.A.in1.handled = none := I.ok.hd hc
    have D : Draws X.prog X.w X.A.in1 it [it, a] its.toArray.size (fun i v => its.toArray[i]? = some v) (fun i h => h.IsTupleIter it a i ∧ h.IsTuple a its.toArray) := Draws.tuple (A := X.A.in1) hh it a (ne_tup_iter hit ht) its.toArray
    have ei : i = its.toArray.size := by simp; omega
    exact wpAny_pyNext_enum_endD D he ⟨by rw [← ei]; exact hit, ht⟩ fun h' eb => ⟨rfl, I.turned (t' := s.toks) (fun b o hb q => eb b o hb q) f0 f1 f3 f4 f5⟩
  self := fun A i s Q E st h => let ⟨⟨_, he⟩, _⟩ := st; wpAny_pyIter_enum he h
def iEnumT (K : PySem.W.Frag) (ta tk : TA) : TI := fun σ H R => ta σ H fun vs H1 => tk σ H1 fun ks H2 => ∃ a xs k, vs = [.ref a] ∧ ks = [.int k] ∧ SqT K H2 a xs ∧ -(2 ^ 63) ≤ k ∧ k < 2 ^ 63 ∧ R (ItT K a k) H2
theorem pi_enumT {X : Cx} {e e2 : Expr} {ta tk : TA} {p pos tpos kp : Pos} {elts : List Expr} {kk : Nat} (hg : Gl X "enumerate") (hm : X.mg "enumerate" = none) (ha : PA X [e] ta) (hk : PK X [⟨some "start", e2, kp⟩] tk)
    (he : backTo pos (starEach [e] X.env) = (false, eval e X.env) :: backTo pos (starEach [] X.env) := by rfl) (hpl : (backTo pos (starEach [e] X.env)).any (·.1) = false := by rfl) (hall : (backToKw pos (keywordEach [⟨some "start", e2, kp⟩] X.env)).all (·.1.isSome) = true := by rfl) (hnone : (backToKw pos (keywordEach [⟨some "start", e2, kp⟩] X.env)).any (·.1.isNone) = false := by rfl) (hks : (backToKw pos (keywordEach [⟨some "start", e2, kp⟩] X.env)).filterMap (·.1) = [("start" : Str)] := by rfl) :
    PI X (.Tuple elts kk tpos) (.Call (.Name "enumerate" p) [e] [⟨some "start", e2, kp⟩] pos) (iEnumT X.K ta tk) := by
  refine ⟨fun pins s σ H R I h => ?_⟩
  refine wpAny_Call_Name_kw (ld_blt I hg hm boot_enumerate ?_ (by decide) (by decide))
  refine callWith_kwT (thn (ha.run pos pins s σ H _ I h) fun us s0 ⟨vs, H0, I0, r0, q0⟩ => thn (hk.run pos pins s0 σ H0 _ I0 q0) fun ws s1 ⟨zs, H1, I1, r2, q2⟩ => ?_) he hpl hall hnone
  rw [hks]
  obtain ⟨a, xs, k, ex, ez, hq, k0, k1, q⟩ := q2
  subst ex ez
  cases r0 with
  | cons r rr =>
    cases rr
    cases r
    cases r2 with
    | cons r' rr' =>
      cases rr'
      obtain ⟨t, rfl⟩ := (show ∃ t, _ = Value.int k t from r')
      obtain ⟨its, rv, p', hz⟩ := I1.tuple hq
      have ht : s1.heap.IsTuple a its.toArray := p'
      show wpAny _ _ (call (.type "enumerate") [.ref a] [(Str.ofString "start", .int k t)]) _ _ _
      refine enum_begins_start (begins_tuple a its.toArray) ht k0 k1 fun h' he' hit hsz hk' => wpAny_pyIter_enum he' ?_
      have I2 : Inv X pins σ H1 { s1 with heap := h' } := I1.kept (t' := s1.toks) hk'
      refine ⟨s1.heap.objs.size + 1, [s1.heap.objs.size + 1, s1.heap.objs.size], _, _, H1, rfl, I2, turn_enumT a (s1.heap.objs.size + 1) s1.heap.objs.size k, ⟨⟨.none, ?_⟩, ⟨_, hit, rfl, rfl⟩, Nat.succ_ne_self _⟩, fun b hb => ?_, q⟩
      · have e0 : k + ((0 : Nat) : Int) = k := by simp
        rw [e0]; exact he'
      · have e' : b = s1.heap.objs.size + 1 ∨ b = s1.heap.objs.size := by simpa using hb
        have hle : s1.heap.objs.size ≤ b := by
          rcases e' with z | z
          · rw [z]; exact Nat.le_add_right _ _
          · rw [z]; exact Nat.le_refl _
        exact I1.fpOk hle (I1.hok.fresh hle)
end Ask
/-! Things of one's own within things of one's own: shapes, what stands where, and what a change leaves. -/
namespace Ask
open PySem L2 Evl
inductive Sh where
  | pl | lst (e : Sh) | tup (es : List Sh) | dct (f : List (Str × Sh)) | ins (f : List (Str × Sh))
def Sh.at (f : List (Str × Sh)) (k : Str) : Sh := (f.lookup k).getD .pl
mutual
inductive Ow (K : PySem.W.Frag) (B : List Addr) (H : Hp) : Sh → List Addr → V → D → Prop
  | pl {v : V} {d : D} : Rp0 K (hid B H) v d → Ow K B H .pl [] v d
  | lst {e : Sh} {p : Addr} {fps : List Addr} {xs : List V} {ds : List D} : H p = some (.lst xs) → OwL K B H (List.replicate ds.length e) fps xs ds → Ow K B H (.lst e) (p :: fps) (.ref p) (.lst ds)
  | tup {es : List Sh} {p : Addr} {fps : List Addr} {xs : List V} {ds : List D} : hid B H p = some (.tup xs) → OwL K B H es fps xs ds → Ow K B H (.tup es) fps (.ref p) (.tup ds)
  | dct {f : List (Str × Sh)} {p : Addr} {fps : List Addr} {xs : List (Key × V)} {kvs : List (Str × D)} : H p = some (.dK xs) → (xs.map fun q => q.1) = (kvs.map fun q => (Sum.inr q.1 : Key)) → OwL K B H (kvs.map fun q => Sh.at f q.1) fps (xs.map fun q => q.2) (kvs.map fun q => q.2) → Ow K B H (.dct f) (p :: fps) (.ref p) (.dct kvs)
  | ins {f : List (Str × Sh)} {p C dx : Addr} {c : Str} {fps : List Addr} {xs : List (Str × V)} {kvs : List (Str × D)} : CN K C c → H p = some (.ins C dx xs) → H dx = some (.own p) → (xs.map fun q => q.1) = (kvs.map fun q => q.1) → OwL K B H (kvs.map fun q => Sh.at f q.1) fps (xs.map fun q => q.2) (kvs.map fun q => q.2) → Ow K B H (.ins f) (p :: dx :: fps) (.ref p) (.ins c kvs)
inductive OwL (K : PySem.W.Frag) (B : List Addr) (H : Hp) : List Sh → List Addr → List V → List D → Prop
  | nil : OwL K B H [] [] [] []
  | cons {sh : Sh} {fp fps : List Addr} {v : V} {d : D} {shs : List Sh} {vs : List V} {ds : List D} : Ow K B H sh fp v d → OwL K B H shs fps vs ds → OwL K B H (sh :: shs) (fp ++ fps) (v :: vs) (d :: ds)
end
section
variable {K : PySem.W.Frag} {B B' : List Addr} {H H' : Hp}
mutual
theorem Ow.mono (x : Ex (hid B H) (hid B' H')) : ∀ {sh : Sh} {fp : List Addr} {v : V} {d : D}, (∀ a ∈ fp, H' a = H a) → Ow K B H sh fp v d → Ow K B' H' sh fp v d
  | _, _, _, _, e, .pl r => .pl (r.mono x)
  | _, _, _, _, e, .lst h r => .lst ((e _ List.mem_cons_self).trans h) (OwL.mono x (fun a ha => e a (List.mem_cons_of_mem _ ha)) r)
  | _, _, _, _, e, .tup h r => .tup (x _ _ h) (OwL.mono x e r)
  | _, _, _, _, e, .dct h k r => .dct ((e _ List.mem_cons_self).trans h) k (OwL.mono x (fun a ha => e a (List.mem_cons_of_mem _ ha)) r)
  | _, _, _, _, e, .ins n h g k r => .ins n ((e _ List.mem_cons_self).trans h) ((e _ (List.mem_cons_of_mem _ List.mem_cons_self)).trans g) k (OwL.mono x (fun a ha => e a (List.mem_cons_of_mem _ (List.mem_cons_of_mem _ ha))) r)
theorem OwL.mono (x : Ex (hid B H) (hid B' H')) : ∀ {sh : List Sh} {fp : List Addr} {v : List V} {d : List D}, (∀ a ∈ fp, H' a = H a) → OwL K B H sh fp v d → OwL K B' H' sh fp v d
  | _, _, _, _, e, .nil => .nil
  | _, _, _, _, e, .cons h r => .cons (Ow.mono x (fun a ha => e a (List.mem_append_left _ ha)) h) (OwL.mono x (fun a ha => e a (List.mem_append_right _ ha)) r)
end
theorem rpd_zip : ∀ {xs : List (Key × V)} {kvs : List (Str × D)}, (xs.map fun q => q.1) = (kvs.map fun q => (Sum.inr q.1 : Key)) → RpA0 K H (xs.map fun q => q.2) (kvs.map fun q => q.2) → RpD0 K H xs kvs
  | [], [], _, _ => .nil
  | [], _ :: _, e, _ => by cases e
  | _ :: _, [], e, _ => by cases e
  | (k, v) :: xs, (k', d) :: kvs, e, r => by
    simp only [List.map_cons, List.cons.injEq] at e
    cases r with
    | cons r1 r2 =>
      obtain ⟨e1, e2⟩ := e
      have e1' : k = Sum.inr k' := e1
      subst e1'
      exact .cons r1 (rpd_zip e2 r2)
theorem rpf_zip : ∀ {xs : List (Str × V)} {kvs : List (Str × D)}, (xs.map fun q => q.1) = (kvs.map fun q => q.1) → RpA0 K H (xs.map fun q => q.2) (kvs.map fun q => q.2) → RpF0 K H xs kvs
  | [], [], _, _ => .nil
  | [], _ :: _, e, _ => by cases e
  | _ :: _, [], e, _ => by cases e
  | (k, v) :: xs, (k', d) :: kvs, e, r => by
    simp only [List.map_cons, List.cons.injEq] at e
    cases r with
    | cons r1 r2 =>
      obtain ⟨e1, e2⟩ := e
      have e1' : k = k' := e1
      subst e1'
      exact .cons r1 (rpf_zip e2 r2)
mutual
/-- all of it to be read -/
theorem Ow.open_ (s : ∀ a ∈ B', a ∈ B) : ∀ {sh : Sh} {fp : List Addr} {v : V} {d : D}, (∀ a ∈ fp, a ∉ B') → Ow K B H sh fp v d → Rp0 K (hid B' H) v d
  | _, _, _, _, e, .pl r => r.mono fun a o h => by
    have hn : a ∉ B := fun z => by unfold hid at h; rw [if_pos z] at h; cases h
    exact hid_at (hid_some h) fun z => hn (s a z)
  | _, _, _, _, e, .lst h r => .lst (hid_at h (e _ List.mem_cons_self)) (OwL.open_ s (fun a ha => e a (List.mem_cons_of_mem _ ha)) r)
  | _, _, _, _, e, @Ow.tup _ _ _ _ p _ _ _ h r => by
    have hn : p ∉ B := fun z => by unfold hid at h; rw [if_pos z] at h; cases h
    exact .tup (hid_at (hid_some h) fun z => hn (s p z)) (OwL.open_ s e r)
  | _, _, _, _, e, .dct h k r => .dct (hid_at h (e _ List.mem_cons_self)) (rpd_zip k (OwL.open_ s (fun a ha => e a (List.mem_cons_of_mem _ ha)) r))
  | _, _, _, _, e, .ins n h g k r => .ins n (hid_at h (e _ List.mem_cons_self)) (rpf_zip k (OwL.open_ s (fun a ha => e a (List.mem_cons_of_mem _ (List.mem_cons_of_mem _ ha))) r))
theorem OwL.open_ (s : ∀ a ∈ B', a ∈ B) : ∀ {sh : List Sh} {fp : List Addr} {v : List V} {d : List D}, (∀ a ∈ fp, a ∉ B') → OwL K B H sh fp v d → RpA0 K (hid B' H) v d
  | _, _, _, _, e, .nil => .nil
  | _, _, _, _, e, .cons h r => .cons (Ow.open_ s (fun a ha => e a (List.mem_append_left _ ha)) h) (OwL.open_ s (fun a ha => e a (List.mem_append_right _ ha)) r)
end
/-- what may change -/
def Mo (H : Hp) (a : Addr) : Prop := (∃ xs, H a = some (.lst xs)) ∨ (∃ xs, H a = some (.dK xs)) ∨ (∃ C dx xs, H a = some (.ins C dx xs)) ∨ ∃ p, H a = some (.own p)
mutual
theorem Ow.mo : ∀ {sh : Sh} {fp : List Addr} {v : V} {d : D}, Ow K B H sh fp v d → ∀ a ∈ fp, Mo H a
  | _, _, _, _, .pl _, a, h => by cases h
  | _, _, _, _, .lst h r, a, ha => by
    rcases List.mem_cons.mp ha with e | e
    · rw [e]; exact .inl ⟨_, h⟩
    · exact OwL.mo r a e
  | _, _, _, _, .tup _ r, a, ha => OwL.mo r a ha
  | _, _, _, _, .dct h k r, a, ha => by
    rcases List.mem_cons.mp ha with e | e
    · rw [e]; exact .inr (.inl ⟨_, h⟩)
    · exact OwL.mo r a e
  | _, _, _, _, .ins n h g k r, a, ha => by
    rcases List.mem_cons.mp ha with e | e
    · rw [e]; exact .inr (.inr (.inl ⟨_, _, _, h⟩))
    · rcases List.mem_cons.mp e with e | e
      · rw [e]; exact .inr (.inr (.inr ⟨_, g⟩))
      · exact OwL.mo r a e
theorem OwL.mo : ∀ {sh : List Sh} {fp : List Addr} {v : List V} {d : List D}, OwL K B H sh fp v d → ∀ a ∈ fp, Mo H a
  | _, _, _, _, .nil, a, h => by cases h
  | _, _, _, _, .cons h r, a, ha => by
    rcases List.mem_append.mp ha with e | e
    · exact Ow.mo h a e
    · exact OwL.mo r a e
end
theorem Mo.some {a : Addr} (h : Mo H a) : H a ≠ none := by
  rcases h with ⟨_, e⟩ | ⟨_, e⟩ | ⟨_, _, _, e⟩ | ⟨_, e⟩ <;> (rw [e]; exact fun z => by cases z)
theorem OwL.app : ∀ {sh sh2 : List Sh} {fp fp2 : List Addr} {v v2 : List V} {d d2 : List D}, OwL K B H sh fp v d → OwL K B H sh2 fp2 v2 d2 → OwL K B H (sh ++ sh2) (fp ++ fp2) (v ++ v2) (d ++ d2)
  | _, _, _, _, _, _, _, _, .nil, s => s
  | _, _, _, _, _, _, _, _, .cons h r, s => by
    rw [List.append_assoc]
    exact .cons h (OwL.app r s)
theorem OwL.one {sh : Sh} {fp : List Addr} {v : V} {d : D} (h : Ow K B H sh fp v d) : OwL K B H [sh] fp [v] [d] := by
  have := OwL.cons h (.nil (K := K) (B := B) (H := H))
  rwa [List.append_nil] at this
theorem OwL.unapp : ∀ {sh sh2 : List Sh} {fp : List Addr} {v v2 : List V} {d d2 : List D}, sh.length = v.length → sh.length = d.length → OwL K B H (sh ++ sh2) fp (v ++ v2) (d ++ d2) → ∃ f1 f2, fp = f1 ++ f2 ∧ OwL K B H sh f1 v d ∧ OwL K B H sh2 f2 v2 d2
  | [], _, fp, [], _, [], _, _, _, h => ⟨[], fp, rfl, .nil, h⟩
  | s :: sh, sh2, fp, v :: vs, v2, d :: ds, d2, l1, l2, h => by
    cases h with
    | cons h1 h2 =>
      obtain ⟨f1, f2, rfl, a, b⟩ := OwL.unapp (Nat.succ.inj l1) (Nat.succ.inj l2) h2
      exact ⟨_, f2, (List.append_assoc _ _ _).symm, .cons h1 a, b⟩
theorem OwL.len : ∀ {sh : List Sh} {fp : List Addr} {v : List V} {d : List D}, OwL K B H sh fp v d → sh.length = v.length ∧ sh.length = d.length
  | _, _, _, _, .nil => ⟨rfl, rfl⟩
  | _, _, _, _, .cons _ r => ⟨congrArg (· + 1) r.len.1, congrArg (· + 1) r.len.2⟩
theorem OwL.unlast {sh : List Sh} {s : Sh} {fp : List Addr} {v : List V} {x : V} {d : List D} {c : D} (l1 : sh.length = v.length) (l2 : sh.length = d.length) (h : OwL K B H (sh ++ [s]) fp (v ++ [x]) (d ++ [c])) : ∃ f1 f2, fp = f1 ++ f2 ∧ OwL K B H sh f1 v d ∧ Ow K B H s f2 x c := by
  obtain ⟨f1, f2, e, a, b⟩ := OwL.unapp l1 l2 h
  cases b with
  | cons b1 b2 => cases b2; exact ⟨f1, _, e, a, by rw [List.append_nil]; exact b1⟩
/-- plain ones -/
theorem OwL.plain {vs : List V} {ds : List D} (r : RpA K B H vs ds) : OwL K B H (List.replicate ds.length .pl) [] vs ds := by
  induction ds generalizing vs with
  | nil => cases r; exact .nil
  | cons d ds ih => cases r with
    | cons r1 r2 => exact OwL.cons (.pl r1) (ih r2)
theorem OwL.rpa : ∀ {sh : List Sh} {fp : List Addr} {vs : List V} {ds : List D}, (∀ s ∈ sh, s = .pl) → OwL K B H sh fp vs ds → fp = [] ∧ RpA K B H vs ds
  | _, _, _, _, e, .nil => ⟨rfl, .nil⟩
  | _, _, _, _, e, .cons h r => by
    obtain rfl := e _ List.mem_cons_self
    cases h with
    | pl h =>
      obtain ⟨rfl, r2⟩ := OwL.rpa (fun s hs => e s (List.mem_cons_of_mem _ hs)) r
      exact ⟨rfl, .cons h r2⟩
theorem rep_pl {n : Nat} : ∀ s ∈ List.replicate n Sh.pl, s = .pl := fun s h => (List.mem_replicate.mp h).2
/-- one of them, and the others -/
theorem OwL.focus : ∀ {sh : List Sh} {fp : List Addr} {vs : List V} {ds : List D} {n : Nat} {d : D}, OwL K B H sh fp vs ds → ds[n]? = some d →
    ∃ s v l m r, sh[n]? = some s ∧ vs[n]? = some v ∧ fp = l ++ m ++ r ∧ Ow K B H s m v d ∧
      ∀ (B' : List Addr) (H' : Hp) (s' : Sh) (m' : List Addr) (v' : V) (d' : D), Ex (hid B H) (hid B' H') → (∀ a ∈ l ++ r, H' a = H a) → Ow K B' H' s' m' v' d' → OwL K B' H' (sh.set n s') (l ++ m' ++ r) (vs.set n v') (ds.set n d')
  | _, _, _, _, 0, d, .cons (fp := fp) (fps := fps) h r, e => by
    simp only [List.getElem?_cons_zero, Option.some.injEq] at e
    subst e
    refine ⟨_, _, [], fp, fps, rfl, rfl, rfl, h, fun B' H' s' m' v' d' x k o => ?_⟩
    exact .cons o (OwL.mono x (fun a ha => k a ha) r)
  | _, _, _, _, n + 1, d, .cons (fp := fp) (fps := fps) h r, e => by
    obtain ⟨s, v, l, m, q, e1, e2, rfl, o, k⟩ := OwL.focus r (n := n) (by simpa using e)
    refine ⟨s, v, fp ++ l, m, q, by simpa using e1, by simpa using e2, by simp, o, fun B' H' s' m' v' d' x j o' => ?_⟩
    have g := k B' H' s' m' v' d' x (fun a ha => j a (by simp only [List.append_assoc, List.mem_append] at ha ⊢; exact .inr ha)) o'
    have c := OwL.cons (Ow.mono x (fun a ha => j a (by simp only [List.append_assoc, List.mem_append]; exact .inl ha)) h) g
    simpa only [List.append_assoc, List.set_cons_succ] using c
/-- slots -/
inductive OwS (K : PySem.W.Frag) (B : List Addr) (H : Hp) : List Sh → List Addr → List (Option V) → List (Option D) → Prop
  | nil : OwS K B H [] [] [] []
  | non {sh : Sh} {fps : List Addr} {x : Option V} {shs : List Sh} {σ : List (Option V)} {env : List (Option D)} : OwS K B H shs fps σ env → OwS K B H (sh :: shs) fps (x :: σ) (none :: env)
  | som {sh : Sh} {fp fps : List Addr} {v : V} {d : D} {shs : List Sh} {σ : List (Option V)} {env : List (Option D)} : Ow K B H sh fp v d → OwS K B H shs fps σ env → OwS K B H (sh :: shs) (fp ++ fps) (some v :: σ) (some d :: env)
theorem OwS.mono (x : Ex (hid B H) (hid B' H')) : ∀ {sh : List Sh} {fp : List Addr} {v : List (Option V)} {d : List (Option D)}, (∀ a ∈ fp, H' a = H a) → OwS K B H sh fp v d → OwS K B' H' sh fp v d
  | _, _, _, _, e, .nil => .nil
  | _, _, _, _, e, .non r => .non (OwS.mono x e r)
  | _, _, _, _, e, .som h r => .som (Ow.mono x (fun a ha => e a (List.mem_append_left _ ha)) h) (OwS.mono x (fun a ha => e a (List.mem_append_right _ ha)) r)
theorem OwS.mo : ∀ {sh : List Sh} {fp : List Addr} {v : List (Option V)} {d : List (Option D)}, OwS K B H sh fp v d → ∀ a ∈ fp, Mo H a
  | _, _, _, _, .nil, a, h => by cases h
  | _, _, _, _, .non r, a, ha => OwS.mo r a ha
  | _, _, _, _, .som h r, a, ha => by
    rcases List.mem_append.mp ha with e | e
    · exact Ow.mo h a e
    · exact OwS.mo r a e
theorem OwS.len : ∀ {sh : List Sh} {fp : List Addr} {v : List (Option V)} {d : List (Option D)}, OwS K B H sh fp v d → v.length = d.length ∧ sh.length = d.length
  | _, _, _, _, .nil => ⟨rfl, rfl⟩
  | _, _, _, _, .non r => ⟨congrArg (· + 1) r.len.1, congrArg (· + 1) r.len.2⟩
  | _, _, _, _, .som _ r => ⟨congrArg (· + 1) r.len.1, congrArg (· + 1) r.len.2⟩
theorem OwS.focus : ∀ {sh : List Sh} {fp : List Addr} {σ : List (Option V)} {env : List (Option D)} {n : Nat}, OwS K B H sh fp σ env → n < env.length →
    ∃ s l m r, sh[n]? = some s ∧ fp = l ++ m ++ r ∧ (∀ d, env[n]? = some (some d) → ∃ v, σ[n]? = some (some v) ∧ Ow K B H s m v d) ∧ (env[n]? = some none → m = []) ∧
      ∀ (B' : List Addr) (H' : Hp) (s' : Sh) (m' : List Addr) (v' : V) (d' : D), Ex (hid B H) (hid B' H') → (∀ a ∈ l ++ r, H' a = H a) → Ow K B' H' s' m' v' d' → OwS K B' H' (sh.set n s') (l ++ m' ++ r) (σ.set n (some v')) (env.set n (some d'))
  | _, _, _, _, 0, .non (sh := sh) (fps := fps) r, e => by
    refine ⟨sh, [], [], fps, rfl, rfl, (fun d z => by simp at z), (fun _ => rfl), fun B' H' s' m' v' d' x k o => ?_⟩
    exact .som o (OwS.mono x (fun a ha => k a ha) r)
  | _, _, _, _, 0, .som (sh := sh) (fp := fp) (fps := fps) (v := v) h r, e => by
    refine ⟨sh, [], fp, fps, rfl, rfl, (fun d z => by simp at z; subst z; exact ⟨v, rfl, h⟩), (fun z => by simp at z), fun B' H' s' m' v' d' x k o => ?_⟩
    exact .som o (OwS.mono x (fun a ha => k a ha) r)
  | _, _, _, _, n + 1, .non (fps := fps) r, e => by
    obtain ⟨s, l, m, q, e1, rfl, g, g0, k⟩ := OwS.focus r (n := n) (by simpa using e)
    refine ⟨s, l, m, q, by simpa using e1, rfl, fun d z => ?_, fun z => g0 (by simpa using z), fun B' H' s' m' v' d' x j o' => ?_⟩
    · obtain ⟨v, e2, o⟩ := g d (by simpa using z)
      exact ⟨v, by simpa using e2, o⟩
    · exact .non (k B' H' s' m' v' d' x j o')
  | _, _, _, _, n + 1, .som (fp := fp) (fps := fps) h r, e => by
    obtain ⟨s, l, m, q, e1, rfl, g, g0, k⟩ := OwS.focus r (n := n) (by simpa using e)
    refine ⟨s, fp ++ l, m, q, by simpa using e1, by simp, fun d z => ?_, fun z => g0 (by simpa using z), fun B' H' s' m' v' d' x j o' => ?_⟩
    · obtain ⟨v, e2, o⟩ := g d (by simpa using z)
      exact ⟨v, by simpa using e2, o⟩
    · have g := k B' H' s' m' v' d' x (fun a ha => j a (by simp only [List.append_assoc, List.mem_append] at ha ⊢; exact .inr ha)) o'
      have c := OwS.som (Ow.mono x (fun a ha => j a (by simp only [List.append_assoc, List.mem_append]; exact .inl ha)) h) g
      simpa only [List.append_assoc, List.set_cons_succ] using c
end
end Ask
namespace Ask
open PySem L2 Evl
inductive Stp where
  | fld (f : Str) | key (k : Str) | idx (n : Nat)
def setL : List (Str × D) → Str → D → List (Str × D)
  | [], _, _ => []
  | (k, v) :: r, x, c => if k = x then (k, c) :: r else (k, v) :: setL r x c
def chO : Sh → D → Option Stp → Option (Sh × D)
  | sh, d, none => some (sh, d)
  | .ins f, .ins _ kvs, some (.fld x) => (kvs.lookup x).map fun d => (Sh.at f x, d)
  | .dct f, .dct kvs, some (.key x) => (kvs.lookup x).map fun d => (Sh.at f x, d)
  | .lst e, .lst ds, some (.idx n) => (ds[n]?).map fun d => (e, d)
  | .tup es, .tup ds, some (.idx n) => match es[n]?, ds[n]? with
    | some e, some d => some (e, d)
    | _, _ => none
  | _, _, _ => none
def chPut : D → Option Stp → D → D
  | _, none, c => c
  | .ins cc kvs, some (.fld x), c => .ins cc (setL kvs x c)
  | .dct kvs, some (.key x), c => .dct (setL kvs x c)
  | .lst ds, some (.idx n), c => .lst (ds.set n c)
  | .tup ds, some (.idx n), c => .tup (ds.set n c)
  | d, _, _ => d
def Foc (H : Hp) (r : V) : Option Stp → V → Prop
  | none, v => v = r
  | some (.fld f), v => ∃ p C dx xs, r = .ref p ∧ H p = some (.ins C dx xs) ∧ xs.lookup f = some v
  | some (.key k), v => ∃ p xs, r = .ref p ∧ H p = some (.dK xs) ∧ valV xs (.inr k) = some v
  | some (.idx n), v => ∃ p xs, r = .ref p ∧ (H p = some (.lst xs) ∨ H p = some (.tup xs)) ∧ xs[n]? = some v
theorem Foc.mono {H H' : Hp} (x : Ex H H') {r v : V} : ∀ {s : Option Stp}, Foc H r s v → Foc H' r s v
  | none, h => h
  | some (.fld f), ⟨p, C, dx, xs, a, b, c⟩ => ⟨p, C, dx, xs, a, x _ _ b, c⟩
  | some (.key k), ⟨p, xs, a, b, c⟩ => ⟨p, xs, a, x _ _ b, c⟩
  | some (.idx n), ⟨p, xs, a, b, c⟩ => ⟨p, xs, a, b.imp (x _ _) (x _ _), c⟩
theorem lk_idx : ∀ {kvs : List (Str × D)} {x : Str} {d : D}, kvs.lookup x = some d → ∃ n : Nat, (kvs.map fun q => q.2)[n]? = some d ∧ (kvs.map fun q => q.1)[n]? = some x ∧
    (∀ c, ((setL kvs x c).map fun q => q.2) = (kvs.map fun q => q.2).set n c ∧ ((setL kvs x c).map fun q => q.1) = (kvs.map fun q => q.1)) ∧
    (∀ xs : List (Str × V), (xs.map fun q => q.1) = (kvs.map fun q => q.1) → ∀ v, xs.lookup x = some v → (xs.map fun q => q.2)[n]? = some v) ∧
    ∀ xs : List (Key × V), (xs.map fun q => q.1) = (kvs.map fun q => (Sum.inr q.1 : Key)) → ∀ v, valV xs (.inr x) = some v → (xs.map fun q => q.2)[n]? = some v
  | [], x, d, h => by cases h
  | (k, e) :: r, x, d, h => by
    by_cases hk : k = x
    · subst hk
      have hb : (k == k) = true := beq_iff_eq.mpr rfl
      simp only [List.lookup, hb, Option.some.injEq] at h
      subst h
      refine ⟨0, rfl, rfl, fun c => ?_, fun xs ex v hv => ?_, fun xs ex v hv => ?_⟩
      · unfold setL; rw [if_pos rfl]; exact ⟨rfl, rfl⟩
      · cases xs with
        | nil => cases ex
        | cons y ys =>
          obtain ⟨a, b⟩ := y
          simp only [List.map_cons, List.cons.injEq] at ex
          obtain ⟨e1, e2⟩ := ex
          have e1' : a = k := e1
          subst e1'
          simp only [List.lookup, hb, Option.some.injEq] at hv
          subst hv
          rfl
      · cases xs with
        | nil => cases ex
        | cons y ys =>
          simp only [List.map_cons, List.cons.injEq] at ex
          rw [valV_pos ex.1] at hv
          simpa using hv
    · have hb : (x == k) = false := beq_eq_false_iff_ne.mpr fun z => hk z.symm
      simp only [List.lookup, hb] at h
      obtain ⟨n, a1, a2, a3, a4, a5⟩ := lk_idx h
      refine ⟨n + 1, by simpa using a1, by simpa using a2, fun c => ?_, fun xs ex v hv => ?_, fun xs ex v hv => ?_⟩
      · unfold setL; rw [if_neg hk]
        simp only [List.map_cons, List.set_cons_succ, (a3 c).1, (a3 c).2, and_self]
      · cases xs with
        | nil => cases ex
        | cons y ys =>
          obtain ⟨a, b⟩ := y
          simp only [List.map_cons, List.cons.injEq] at ex
          obtain ⟨e1, e2⟩ := ex
          have e1' : a = k := e1
          subst e1'
          simp only [List.lookup, hb] at hv
          simpa using a4 ys e2 v hv
      · cases xs with
        | nil => cases ex
        | cons y ys =>
          simp only [List.map_cons, List.cons.injEq] at ex
          have hn : ¬ y.1 = (Sum.inr x : Key) := fun z => hk (by rw [ex.1] at z; exact Sum.inr.inj z)
          rw [valV_neg hn] at hv
          simpa using a5 ys ex.2 v hv
theorem set_same {α : Type} {l : List α} {n : Nat} {a : α} (h : l[n]? = some a) : l.set n a = l := by
  apply List.ext_getElem?
  intro j
  by_cases hj : n = j
  · subst hj
    have hl : n < l.length := by
      by_cases hh : n < l.length
      · exact hh
      · rw [List.getElem?_eq_none (by omega)] at h; cases h
    rw [List.getElem?_set_self hl, h]
  · rw [List.getElem?_set_ne hj]
section
variable {K : PySem.W.Frag} {B B' : List Addr} {H H' : Hp}
theorem tup_of_hid {p : Addr} {xs : List V} (h : hid B H p = some (.tup xs)) : H p = some (.tup xs) := hid_some h
/-- a part, and the rest of it -/
theorem Ow.child {sh : Sh} {fp : List Addr} {r : V} {d : D} {s : Option Stp} {s' : Sh} {d' : D} {v : V} (o : Ow K B H sh fp r d) (hc : chO sh d s = some (s', d')) (fo : Foc H r s v) :
    ∃ l m q, fp = l ++ m ++ q ∧ Ow K B H s' m v d' ∧
      ∀ (B' : List Addr) (H' : Hp) (m' : List Addr) (d'' : D), Ex (hid B H) (hid B' H') → (∀ a ∈ l ++ q, H' a = H a) → Ow K B' H' s' m' v d'' → Ow K B' H' sh (l ++ m' ++ q) r (chPut d s d'') := by
  cases s with
  | none =>
    have hc' : some (sh, d) = some (s', d') := by cases sh <;> cases d <;> exact hc
    cases hc'
    obtain rfl : v = r := fo
    exact ⟨[], fp, [], by simp, o, fun B' H' m' d'' x k o' => by cases d <;> simpa [chPut] using o'⟩
  | some s =>
    cases s with
    | fld f =>
      cases o with
      | @ins g p C dx cc fps xs kvs hcn hp hx hk ol =>
        obtain ⟨p', C', dx', xs', e1, e2, e3⟩ := fo
        cases e1
        rw [hp] at e2
        cases e2
        simp only [chO, Option.map_eq_some_iff] at hc
        obtain ⟨d0, hl, he⟩ := hc
        cases he
        obtain ⟨n, a1, a2, a3, a4, a5⟩ := lk_idx hl
        obtain ⟨s0, v0, l, m, q, b1, b2, rfl, b4, b5⟩ := ol.focus a1
        have hv := a4 xs hk v e3
        rw [hv] at b2
        cases b2
        have hs : (kvs.map fun q => Sh.at g q.1)[n]? = some (Sh.at g f) := by
          rw [List.getElem?_map] at a2 ⊢
          obtain ⟨y, y1, y2⟩ := Option.map_eq_some_iff.mp a2
          rw [y1]
          simp only [Option.map_some, y2]
        have b1' := b1
        rw [hs] at b1'
        cases b1'
        refine ⟨p :: dx :: l, m, q, by simp, b4, fun B' H' m' d'' x k o' => ?_⟩
        have hnd : H' p = H p := k p (by simp)
        have hnx : H' dx = H dx := k dx (by simp)
        have g1 := b5 B' H' (Sh.at g f) m' v d'' x (fun a ha => k a (by simp only [List.cons_append, List.mem_cons]; exact .inr (.inr ha))) o'
        rw [set_same hs, set_same hv, ← (a3 d'').1] at g1
        have g2 : ((setL kvs f d'').map fun q => Sh.at g q.1) = kvs.map fun q => Sh.at g q.1 := by
          have := congrArg (List.map (Sh.at g)) (a3 d'').2
          simpa [List.map_map, Function.comp_def] using this
        rw [← g2] at g1
        exact .ins hcn (hnd.trans hp) (hnx.trans hx) (hk.trans (a3 d'').2.symm) g1
      | _ => cases hc
    | key f =>
      cases o with
      | @dct g p fps xs kvs hp hk ol =>
        obtain ⟨p', xs', e1, e2, e3⟩ := fo
        cases e1
        rw [hp] at e2
        cases e2
        simp only [chO, Option.map_eq_some_iff] at hc
        obtain ⟨d0, hl, he⟩ := hc
        cases he
        obtain ⟨n, a1, a2, a3, a4, a5⟩ := lk_idx hl
        obtain ⟨s0, v0, l, m, q, b1, b2, rfl, b4, b5⟩ := ol.focus a1
        have hv := a5 xs hk v e3
        rw [hv] at b2
        cases b2
        have hs : (kvs.map fun q => Sh.at g q.1)[n]? = some (Sh.at g f) := by
          rw [List.getElem?_map] at a2 ⊢
          obtain ⟨y, y1, y2⟩ := Option.map_eq_some_iff.mp a2
          rw [y1]
          simp only [Option.map_some, y2]
        have b1' := b1
        rw [hs] at b1'
        cases b1'
        refine ⟨p :: l, m, q, by simp, b4, fun B' H' m' d'' x k o' => ?_⟩
        have hnd : H' p = H p := k p (by simp)
        have g1 := b5 B' H' (Sh.at g f) m' v d'' x (fun a ha => k a (by simp only [List.cons_append, List.mem_cons]; exact .inr ha)) o'
        rw [set_same hs, set_same hv, ← (a3 d'').1] at g1
        have g2 : ((setL kvs f d'').map fun q => Sh.at g q.1) = kvs.map fun q => Sh.at g q.1 := by
          have := congrArg (List.map (Sh.at g)) (a3 d'').2
          simpa [List.map_map, Function.comp_def] using this
        have g3 : (kvs.map fun q => (Sum.inr q.1 : Key)) = (setL kvs f d'').map fun q => (Sum.inr q.1 : Key) := by
          have := congrArg (List.map (fun k => (Sum.inr k : Key))) (a3 d'').2
          simpa [List.map_map, Function.comp_def] using this.symm
        rw [← g2] at g1
        exact .dct (hnd.trans hp) (hk.trans g3) g1
      | _ => cases hc
    | idx n =>
      cases o with
      | @lst e p fps xs ds hp ol =>
        obtain ⟨p', xs', e1, e2, e3⟩ := fo
        cases e1
        rcases e2 with e2 | e2
        · rw [hp] at e2
          cases e2
          simp only [chO, Option.map_eq_some_iff] at hc
          obtain ⟨d0, hl, he⟩ := hc
          cases he
          obtain ⟨s0, v0, l, m, q, b1, b2, rfl, b4, b5⟩ := ol.focus hl
          rw [e3] at b2
          cases b2
          have es : s0 = s' := by
            have := List.mem_of_getElem? b1
            exact (List.mem_replicate.mp this).2
          subst es
          refine ⟨p :: l, m, q, by simp, b4, fun B' H' m' d'' x k o' => ?_⟩
          have hnd : H' p = H p := k p (by simp)
          have g1 := b5 B' H' s0 m' v d'' x (fun a ha => k a (by simp only [List.cons_append, List.mem_cons]; exact .inr ha)) o'
          rw [set_same b1, set_same e3] at g1
          have g2 : (ds.set n d'').length = ds.length := List.length_set
          rw [← g2] at g1
          exact .lst (hnd.trans hp) g1
        · rw [hp] at e2; cases e2
      | @tup es p fps xs ds hp ol =>
        obtain ⟨p', xs', e1, e2, e3⟩ := fo
        cases e1
        rcases e2 with e2 | e2
        · rw [hid_some hp] at e2; cases e2
        · rw [hid_some hp] at e2
          cases e2
          simp only [chO] at hc
          split at hc
          · next e0 d0 h1 h2 =>
            cases hc
            obtain ⟨s0, v0, l, m, q, b1, b2, rfl, b4, b5⟩ := ol.focus h2
            rw [e3] at b2
            cases b2
            rw [h1] at b1
            cases b1
            refine ⟨l, m, q, rfl, b4, fun B' H' m' d'' x k o' => ?_⟩
            have g1 := b5 B' H' s' m' v d'' x k o'
            rw [set_same h1, set_same e3] at g1
            exact .tup (x _ _ hp) g1
          · cases hc
      | _ => cases hc
end
/-! ### what a stretch of the run leaves -/
structure Kq (M B0 : List Addr) (H0 : Hp) (B : List Addr) (H : Hp) : Prop where
  keep : ∀ a o, H0 a = some o → a ∉ M → H a = some o
  gr : ∀ a, H0 a ≠ none → H a ≠ none
  sub : ∀ a ∈ B0, a ∈ B
  new : ∀ a ∈ B, a ∈ B0 ∨ H0 a = none
  inB0 : InB B0 H0
  inB : InB B H
  mB : ∀ a ∈ M, a ∈ B0
section
variable {M B0 F B B' : List Addr} {H0 H H' H1 : Hp}
theorem Kq.refl (h : InB B H) : Kq [] B H B H := ⟨fun _ _ z _ => z, fun _ z => z, fun _ z => z, fun _ z => .inl z, h, h, fun _ z => by cases z⟩
theorem Kq.ofKx (e : Kx B H H1) : Kq [] B H B H1 := ⟨fun a o z _ => e.ex a o z, (fun a z w => by
  cases q : H a with
  | none => exact z q
  | some o => rw [e.ex a o q] at w; cases w), fun _ z => z, fun _ z => .inl z, e.inB, e.inB', fun _ z => by cases z⟩
theorem Kq.then_ (a : Kq M B0 H0 B H) (b : Kq F B H B' H') (hF : ∀ x ∈ F, x ∈ M ∨ H0 x = none) : Kq M B0 H0 B' H' where
  keep := fun x o h n => b.keep x o (a.keep x o h n) fun z => by
    rcases hF x z with q | q
    · exact n q
    · rw [h] at q; cases q
  gr := fun x h => b.gr x (a.gr x h)
  sub := fun x h => b.sub x (a.sub x h)
  new := fun x h => by
    rcases b.new x h with q | q
    · exact a.new x q
    · exact .inr (by
        cases z : H0 x with
        | none => rfl
        | some o => exact absurd q (a.gr x (by rw [z]; exact fun w => by cases w)))
  inB0 := a.inB0
  inB := b.inB
  mB := a.mB
theorem Kq.fresh (a : Kq M B0 H0 B H) {x : Addr} (h : H x = none) : H0 x = none := by
  cases z : H0 x with
  | none => rfl
  | some o => exact absurd h (a.gr x (by rw [z]; exact fun w => by cases w))
theorem Kq.ex (a : Kq F B H B' H') : Ex (hid B H) (hid B' H') := fun x o h => by
  have hn : x ∉ B := fun z => by unfold hid at h; rw [if_pos z] at h; cases h
  have h2 := hid_some h
  refine hid_at (a.keep x o h2 fun z => hn (a.mB x z)) fun z => ?_
  rcases a.new x z with q | q
  · exact hn q
  · rw [h2] at q; cases q
theorem Kq.ky (a : Kq F B H B' H') : Ky B H B' H' := ⟨a.ex, a.inB⟩
theorem Kq.same (a : Kq F B H B' H') {x : Addr} (h : H x ≠ none) (hF : x ∉ F) : H' x = H x := by
  cases z : H x with
  | none => exact absurd z h
  | some o => exact a.keep x o z hF
/-- one object of one's own, newly laid -/
theorem Kq.lay {p : Addr} {o : HO} (hB : InB B H) (h : H p = none) : Kq [] B H (p :: B) (upd H p o) where
  keep := fun a u e _ => by rw [upd_ne (ne_of_none e h)]; exact e
  gr := fun a e => by
    by_cases z : a = p
    · rw [z]; rw [upd_same]; exact fun w => by cases w
    · rw [upd_ne z]; exact e
  sub := fun a z => List.mem_cons_of_mem _ z
  new := fun a z => by
    rcases List.mem_cons.mp z with e | e
    · exact .inr (by rw [e]; exact h)
    · exact .inl e
  inB0 := hB
  inB := fun a z => by
    rcases List.mem_cons.mp z with e | e
    · rw [e, upd_same]; exact fun w => by cases w
    · by_cases q : a = p
      · rw [q, upd_same]; exact fun w => by cases w
      · rw [upd_ne q]; exact hB a e
  mB := fun _ z => by cases z
/-- one object of one's own, changed -/
theorem Kq.put {p : Addr} {o : HO} (hB : InB B H) (hp : p ∈ B) : Kq [p] B H B (upd H p o) where
  keep := fun a u e n => by rw [upd_ne (fun z => n (by rw [z]; exact List.mem_singleton.mpr rfl))]; exact e
  gr := fun a e => by
    by_cases z : a = p
    · rw [z]; rw [upd_same]; exact fun w => by cases w
    · rw [upd_ne z]; exact e
  sub := fun a z => z
  new := fun a z => .inl z
  inB0 := hB
  inB := fun a z => by
    by_cases q : a = p
    · rw [q, upd_same]; exact fun w => by cases w
    · rw [upd_ne q]; exact hB a z
  mB := fun a z => by rw [List.mem_singleton.mp z]; exact hp
theorem Kq.more {F2 : List Addr} (a : Kq F B H B' H') (h : ∀ x ∈ F, x ∈ F2) (h2 : ∀ x ∈ F2, x ∈ B) : Kq F2 B H B' H' :=
  ⟨fun x o z n => a.keep x o z fun w => n (h x w), a.gr, a.sub, a.new, a.inB0, a.inB, h2⟩
end
/-! ### where a def stands -/
structure RQ (K : PySem.W.Frag) (M B0 : List Addr) (H0 : Hp) (ks : List (List Addr × Hp)) (B : List Addr) (H : Hp) (shs : List Sh) (σ : L2.St) (env : Sl) (P : List Sh) (pv : List V) (pd : List D) : Prop where
  kq : Kq M B0 H0 B H
  kys : ∀ p ∈ ks, Ky p.1 p.2 B H
  own : ∃ f1 f2, OwS K B H shs f1 σ env ∧ OwL K B H P f2 pv pd ∧ (f1 ++ f2).Nodup ∧ ∀ a ∈ f1 ++ f2, a ∈ B ∧ (a ∈ M ∨ H0 a = none)
section
variable {K : PySem.W.Frag} {M B0 B B' F : List Addr} {H0 H H' H1 : Hp} {ks : List (List Addr × Hp)} {shs shs' : List Sh} {σ σ' : L2.St} {env env' : Sl} {P P' : List Sh} {pv pv' : List V} {pd pd' : List D}
theorem RQ.chg (h : RQ K M B0 H0 ks B H shs σ env P pv pd) (k : Kq F B H B' H') (hF : ∀ a ∈ F, a ∈ M ∨ H0 a = none)
    (o : ∃ f1 f2, OwS K B' H' shs' f1 σ' env' ∧ OwL K B' H' P' f2 pv' pd' ∧ (f1 ++ f2).Nodup ∧ ∀ a ∈ f1 ++ f2, a ∈ B' ∧ (a ∈ M ∨ H0 a = none)) : RQ K M B0 H0 ks B' H' shs' σ' env' P' pv' pd' :=
  ⟨h.kq.then_ k hF, fun p hp => (h.kys p hp).trans k.ky, o⟩
theorem RQ.mono (h : RQ K M B0 H0 ks B H shs σ env P pv pd) (e : Kx B H H1) : RQ K M B0 H0 ks B H1 shs σ env P pv pd := by
  obtain ⟨f1, f2, a1, a2, a3, a4⟩ := h.own
  have s : ∀ a ∈ f1 ++ f2, H1 a = H a := fun a ha => (Kq.ofKx e).same (h.kq.inB a (a4 a ha).1) (fun z => by cases z)
  exact h.chg (Kq.ofKx e) (fun _ z => by cases z) ⟨f1, f2, a1.mono (Kq.ofKx e).ex fun a ha => s a (List.mem_append_left _ ha), a2.mono (Kq.ofKx e).ex fun a ha => s a (List.mem_append_right _ ha), a3, a4⟩
theorem RQ.len (h : RQ K M B0 H0 ks B H shs σ env P pv pd) : σ.length = env.length ∧ shs.length = env.length := by
  obtain ⟨f1, f2, a1, _⟩ := h.own
  exact a1.len
theorem RQ.addK (h : RQ K M B0 H0 ks B H shs σ env P pv pd) : RQ K M B0 H0 ((B, H) :: ks) B H shs σ env P pv pd :=
  ⟨h.kq, fun p hp => by
    rcases List.mem_cons.mp hp with e | e
    · rw [e]; exact ⟨Ex.refl _, h.kq.inB⟩
    · exact h.kys p e, h.own⟩
theorem RQ.lessK {k0 : List Addr × Hp} (h : RQ K M B0 H0 (k0 :: ks) B H shs σ env P pv pd) : RQ K M B0 H0 ks B H shs σ env P pv pd := ⟨h.kq, fun p hp => h.kys p (List.mem_cons_of_mem _ hp), h.own⟩
theorem nodup_mid {l m q f m' : List Addr} (h : ((l ++ m ++ q) ++ f).Nodup) (h' : m'.Nodup) (hd : ∀ a ∈ m', a ∈ m ∨ (a ∉ l ∧ a ∉ q ∧ a ∉ f)) : ((l ++ m' ++ q) ++ f).Nodup := by
  simp only [List.nodup_append, List.mem_append] at h ⊢
  obtain ⟨⟨⟨h1, h2, h3⟩, h4, h5⟩, h6, h7⟩ := h
  refine ⟨⟨⟨h1, h', fun a ha b hb e => ?_⟩, h4, fun a ha b hb e => ?_⟩, h6, fun a ha b hb e => ?_⟩
  · subst e
    rcases hd a hb with z | z
    · exact h3 a ha a z rfl
    · exact z.1 ha
  · subst e
    rcases ha with ha | ha
    · exact h5 a (.inl ha) a hb rfl
    · rcases hd a ha with z | z
      · exact h5 a (.inr z) a hb rfl
      · exact z.2.1 hb
  · subst e
    rcases ha with (ha | ha) | ha
    · exact h7 a (.inl (.inl ha)) a hb rfl
    · rcases hd a ha with z | z
      · exact h7 a (.inl (.inr z)) a hb rfl
      · exact z.2.2 hb
    · exact h7 a (.inr ha) a hb rfl
/-- a part of what a slot holds, changed; something new besides -/
theorem RQ.foc {i : Nat} {d d' : D} {sh s' : Sh} {s : Option Stp} {r v : V} (h : RQ K M B0 H0 ks B H shs σ env P pv pd) (hi : env[i]? = some (some d)) (hs : shs[i]? = some sh) (hc : chO sh d s = some (s', d')) (hσ : σ[i]? = some (some r)) (fo : Foc H r s v) :
    ∃ m, Ow K B H s' m v d' ∧ m.Nodup ∧ (∀ a ∈ m, a ∈ B ∧ (a ∈ M ∨ H0 a = none)) ∧
      (∀ (B' : List Addr) (H' : Hp) (m' fr : List Addr) (d'' : D) (Pr : List Sh) (vr : List V) (dr : List D), Kq m B H B' H' → Ow K B' H' s' m' v d'' → OwL K B' H' Pr fr vr dr → (m' ++ fr).Nodup → (∀ a ∈ m' ++ fr, a ∈ B' ∧ (a ∈ m ∨ H a = none)) →
        RQ K M B0 H0 ks B' H' shs σ (env.set i (some (chPut d s d''))) (P ++ Pr) (pv ++ vr) (pd ++ dr)) := by
  obtain ⟨f1, f2, a1, a2, a3, a4⟩ := h.own
  have hil : i < env.length := by
    by_cases hh : i < env.length
    · exact hh
    · rw [List.getElem?_eq_none (by omega)] at hi; cases hi
  obtain ⟨sh0, L, m0, R, b1, rfl, b3, b4, b5⟩ := a1.focus hil
  rw [hs] at b1
  cases b1
  obtain ⟨r0, c1, c2⟩ := b3 d hi
  rw [hσ] at c1
  cases c1
  obtain ⟨l, m, q, rfl, e1, e2⟩ := c2.child hc fo
  have mem : ∀ a ∈ m, a ∈ B ∧ (a ∈ M ∨ H0 a = none) := fun a ha => a4 a (by simp only [List.mem_append]; exact .inl (.inl (.inr (.inl (.inr ha)))))
  have ndm : m.Nodup := by
    simp only [List.nodup_append] at a3
    exact a3.1.1.2.1.1.2.1
  refine ⟨m, e1, ndm, mem, fun B' H' m' fr d'' Pr vr dr k o' ol nd' fr' => ?_⟩
  have a3' : (((L ++ l) ++ m ++ (q ++ R)) ++ f2).Nodup := by simpa only [List.append_assoc] using a3
  have off : ∀ a, a ∈ (L ++ l) ∨ a ∈ (q ++ R) ∨ a ∈ f2 → H' a = H a ∧ H a ≠ none := fun a ha => by
    have hB : a ∈ B := (a4 a (by simp only [List.mem_append] at ha ⊢; grind)).1
    refine ⟨k.same (h.kq.inB a hB) fun z => ?_, h.kq.inB a hB⟩
    simp only [List.nodup_append, List.mem_append] at a3'
    simp only [List.mem_append] at ha
    grind
  have g1 := b5 B' H' sh (l ++ m' ++ q) r (chPut d s d'') k.ex (fun a ha => (off a (by simp only [List.mem_append] at ha ⊢; grind)).1) (e2 B' H' m' d'' k.ex (fun a ha => (off a (by simp only [List.mem_append] at ha ⊢; grind)).1) o')
  rw [set_same hs, set_same hσ] at g1
  refine h.chg k (fun a ha => (mem a ha).2) ⟨_, f2 ++ fr, g1, (a2.mono k.ex fun a ha => (off a (.inr (.inr ha))).1).app ol, ?_, fun a ha => ?_⟩
  · have hd : ∀ a ∈ m' ++ fr, a ∈ m ∨ (a ∉ (L ++ l) ∧ a ∉ (q ++ R) ∧ a ∉ f2) := fun a ha => by
      rcases (fr' a ha).2 with z | z
      · exact .inl z
      · exact .inr ⟨fun w => (off a (.inl w)).2 z, fun w => (off a (.inr (.inl w))).2 z, fun w => (off a (.inr (.inr w))).2 z⟩
    have g2 := nodup_mid (m' := m' ++ fr) a3' nd' hd
    have pm : (L ++ (l ++ m' ++ q) ++ R ++ (f2 ++ fr)).Perm ((L ++ l) ++ (m' ++ fr) ++ (q ++ R) ++ f2) := by
      have e0 : L ++ (l ++ m' ++ q) ++ R ++ (f2 ++ fr) = ((L ++ l) ++ m') ++ (((q ++ R) ++ f2) ++ fr) := by simp only [List.append_assoc]
      have e1 : (L ++ l) ++ (m' ++ fr) ++ (q ++ R) ++ f2 = ((L ++ l) ++ m') ++ (fr ++ ((q ++ R) ++ f2)) := by simp only [List.append_assoc]
      rw [e0, e1]
      exact List.Perm.append_left _ List.perm_append_comm
    exact pm.nodup_iff.mpr g2
  · by_cases hin : a ∈ m' ++ fr
    · obtain ⟨z1, z2⟩ := fr' a hin
      refine ⟨z1, ?_⟩
      rcases z2 with z | z
      · exact (mem a z).2
      · exact .inr (h.kq.fresh z)
    · have hold : a ∈ (L ++ (l ++ m ++ q) ++ R) ++ f2 := by
        simp only [List.mem_append] at ha hin ⊢
        grind
      obtain ⟨z1, z2⟩ := a4 a hold
      exact ⟨k.sub a z1, z2⟩
/-- the last of what is at hand, changed into something else -/
theorem RQ.pend {P2 : List Sh} {v2 : List V} {d2 : List D} (h : RQ K M B0 H0 ks B H shs σ env (P ++ P2) (pv ++ v2) (pd ++ d2)) (l1 : P2.length = v2.length) (l2 : P2.length = d2.length) :
    ∃ m, OwL K B H P2 m v2 d2 ∧ m.Nodup ∧ (∀ a ∈ m, a ∈ B ∧ (a ∈ M ∨ H0 a = none)) ∧
      (∀ (B' : List Addr) (H' : Hp) (fr : List Addr) (Pr : List Sh) (vr : List V) (dr : List D), Kq m B H B' H' → OwL K B' H' Pr fr vr dr → fr.Nodup → (∀ a ∈ fr, a ∈ B' ∧ (a ∈ m ∨ H a = none)) →
        RQ K M B0 H0 ks B' H' shs σ env (P ++ Pr) (pv ++ vr) (pd ++ dr)) ∧
      (∀ (B' : List Addr) (H' : Hp) (i : Nat) (sh : Sh) (fr : List Addr) (vr : V) (dr : D), shs[i]? = some sh → i < env.length → Kq m B H B' H' → Ow K B' H' sh fr vr dr → fr.Nodup → (∀ a ∈ fr, a ∈ B' ∧ (a ∈ m ∨ H a = none)) →
        RQ K M B0 H0 ks B' H' shs (σ.set i (some vr)) (env.set i (some dr)) P pv pd) := by
  obtain ⟨f1, f2, a1, a2, a3, a4⟩ := h.own
  have lens := a2.len
  have le1 : P.length = pv.length := by
    have := lens.1
    simp only [List.length_append] at this
    omega
  have le2 : P.length = pd.length := by
    have := lens.2
    simp only [List.length_append] at this
    omega
  obtain ⟨fa, m, rfl, b1, b2⟩ := OwL.unapp le1 le2 a2
  have mem : ∀ a ∈ m, a ∈ B ∧ (a ∈ M ∨ H0 a = none) := fun a ha => a4 a (by simp only [List.mem_append]; exact .inr (.inr ha))
  have ndm : m.Nodup := by
    simp only [List.nodup_append] at a3
    exact a3.2.1.2.1
  refine ⟨m, b2, ndm, mem, fun B' H' fr Pr vr dr k ol nd' fr' => ?_, fun B' H' i sh fr vr dr hs hil k o nd' fr' => ?_⟩
  · have off : ∀ a, a ∈ f1 ∨ a ∈ fa → H' a = H a ∧ H a ≠ none := fun a ha => by
      have hB : a ∈ B := (a4 a (by simp only [List.mem_append]; grind)).1
      refine ⟨k.same (h.kq.inB a hB) fun z => ?_, h.kq.inB a hB⟩
      simp only [List.nodup_append, List.mem_append] at a3
      grind
    refine h.chg k (fun a ha => (mem a ha).2) ⟨f1, fa ++ fr, a1.mono k.ex fun a ha => (off a (.inl ha)).1, (b1.mono k.ex fun a ha => (off a (.inr ha)).1).app ol, ?_, fun a ha => ?_⟩
    · have hd : ∀ a ∈ fr, a ∈ m ∨ (a ∉ f1 ∧ a ∉ fa) := fun a ha => by
        rcases (fr' a ha).2 with z | z
        · exact .inl z
        · exact .inr ⟨fun w => (off a (.inl w)).2 z, fun w => (off a (.inr w)).2 z⟩
      simp only [List.nodup_append, List.mem_append] at a3 ⊢
      grind
    · by_cases hin : a ∈ fr
      · obtain ⟨z1, z2⟩ := fr' a hin
        refine ⟨z1, ?_⟩
        rcases z2 with z | z
        · exact (mem a z).2
        · exact .inr (h.kq.fresh z)
      · obtain ⟨z1, z2⟩ := a4 a (by simp only [List.mem_append] at ha hin ⊢; grind)
        exact ⟨k.sub a z1, z2⟩
  · obtain ⟨sh0, L, m0, R, c1, rfl, c3, c4, c5⟩ := a1.focus hil
    rw [hs] at c1
    cases c1
    have off : ∀ a, a ∈ L ∨ a ∈ R ∨ a ∈ fa → H' a = H a ∧ H a ≠ none := fun a ha => by
      have hB : a ∈ B := (a4 a (by simp only [List.mem_append]; grind)).1
      refine ⟨k.same (h.kq.inB a hB) fun z => ?_, h.kq.inB a hB⟩
      simp only [List.nodup_append, List.mem_append] at a3
      grind
    have g1 := c5 B' H' sh fr vr dr k.ex (fun a ha => (off a (by simp only [List.mem_append] at ha; grind)).1) o
    rw [set_same hs] at g1
    refine h.chg k (fun a ha => (mem a ha).2) ⟨_, fa, g1, b1.mono k.ex fun a ha => (off a (.inr (.inr ha))).1, ?_, fun a ha => ?_⟩
    · have hd : ∀ a ∈ fr, a ∈ m ∨ (a ∉ L ∧ a ∉ R ∧ a ∉ fa) := fun a ha => by
        rcases (fr' a ha).2 with z | z
        · exact .inl z
        · exact .inr ⟨fun w => (off a (.inl w)).2 z, fun w => (off a (.inr (.inl w))).2 z, fun w => (off a (.inr (.inr w))).2 z⟩
      simp only [List.nodup_append, List.mem_append] at a3 ⊢
      grind
    · by_cases hin : a ∈ fr
      · obtain ⟨z1, z2⟩ := fr' a hin
        refine ⟨z1, ?_⟩
        rcases z2 with z | z
        · exact (mem a z).2
        · exact .inr (h.kq.fresh z)
      · obtain ⟨z1, z2⟩ := a4 a (by simp only [List.mem_append] at ha hin ⊢; grind)
        exact ⟨k.sub a z1, z2⟩
end
end Ask
namespace Ask
open PySem L2 Evl
/-! ### to be read: without what is one's own, or with it -/
def wipeQ : List Sh → Sl → Sl
  | .pl :: s, d :: e => d :: wipeQ s e
  | _ :: s, _ :: e => none :: wipeQ s e
  | _, [] => []
  | [], e => e
section
variable {K : PySem.W.Frag} {mg : Str → Option Value} {W : WX} {M B0 B B' F : List Addr} {H0 H H' H1 : Hp} {ks : List (List Addr × Hp)} {shs shs' : List Sh} {σ σ' : L2.St} {env env' : Sl} {P P' : List Sh} {pv pv' : List V} {pd pd' : List D}
theorem wipeQ_len : ∀ (shs : List Sh) (env : Sl), (wipeQ shs env).length = env.length
  | [], [] => rfl
  | [], _ :: _ => rfl
  | .pl :: s, [] => rfl
  | .pl :: s, d :: e => congrArg (· + 1) (wipeQ_len s e)
  | .lst _ :: s, [] => rfl
  | .lst _ :: s, d :: e => congrArg (· + 1) (wipeQ_len s e)
  | .tup _ :: s, [] => rfl
  | .tup _ :: s, d :: e => congrArg (· + 1) (wipeQ_len s e)
  | .dct _ :: s, [] => rfl
  | .dct _ :: s, d :: e => congrArg (· + 1) (wipeQ_len s e)
  | .ins _ :: s, [] => rfl
  | .ins _ :: s, d :: e => congrArg (· + 1) (wipeQ_len s e)
theorem OwS.wipe : ∀ {shs : List Sh} {fp : List Addr} {σ : List (Option V)} {env : List (Option D)} (i : Nat) (d : D), OwS K B H shs fp σ env → (wipeQ shs env)[i]? = some (some d) → ∃ v, σ[i]? = some (some v) ∧ Rp K B H v d
  | _, _, _, _, i, d, .nil, e => by cases i <;> cases e
  | _, _, _, _, 0, d, .non (sh := sh) r, e => by cases sh <;> cases e
  | _, _, _, _, i + 1, d, .non (sh := sh) r, e => by
    cases sh <;> (simp only [wipeQ, List.getElem?_cons_succ] at e; obtain ⟨v, a, b⟩ := OwS.wipe i d r e; exact ⟨v, by simpa using a, b⟩)
  | _, _, _, _, 0, d, .som (sh := sh) h r, e => by
    cases sh with
    | pl =>
      cases e
      cases h with
      | pl h => exact ⟨_, rfl, h⟩
    | _ => cases e
  | _, _, _, _, i + 1, d, .som (sh := sh) h r, e => by
    cases sh <;> (simp only [wipeQ, List.getElem?_cons_succ] at e; obtain ⟨v, a, b⟩ := OwS.wipe i d r e; exact ⟨v, by simpa using a, b⟩)
theorem RQ.rsH (h : RQ K M B0 H0 ks B H shs σ env P pv pd) : RS K B H σ (wipeQ shs env) := by
  obtain ⟨f1, f2, a1, a2, a3, a4⟩ := h.own
  exact ⟨h.kq.inB, by rw [wipeQ_len]; exact a1.len.1, fun i d e => a1.wipe i d e⟩
theorem OwS.view (s : ∀ a ∈ B', a ∈ B) : ∀ {shs : List Sh} {fp : List Addr} {σ : List (Option V)} {env : List (Option D)} (i : Nat) (d : D), (∀ a ∈ fp, a ∉ B') → OwS K B H shs fp σ env → env[i]? = some (some d) → ∃ v, σ[i]? = some (some v) ∧ Rp K B' H v d
  | _, _, _, _, i, d, n, .nil, e => by cases i <;> cases e
  | _, _, _, _, 0, d, n, .non r, e => by simp at e
  | _, _, _, _, i + 1, d, n, .non r, e => by
    obtain ⟨v, a, b⟩ := OwS.view s i d n r (by simpa using e)
    exact ⟨v, by simpa using a, b⟩
  | _, _, _, _, 0, d, n, .som h r, e => by
    simp at e
    subst e
    exact ⟨_, rfl, h.open_ s fun a ha => n a (List.mem_append_left _ ha)⟩
  | _, _, _, _, i + 1, d, n, .som h r, e => by
    obtain ⟨v, a, b⟩ := OwS.view s i d (fun a ha => n a (List.mem_append_right _ ha)) r (by simpa using e)
    exact ⟨v, by simpa using a, b⟩
mutual
theorem rp_unviewM {os : List Addr} (ho : ∀ p ∈ os, p ∈ B → Mo H p) : ∀ {d : D} {v : V}, noK d = true → Rp0 K (hid (viewB B os) H) v d → Rp0 K (hid B H) v d
  | .non, v, _, r => by cases r; exact .non
  | .bl b, v, _, r => by cases r; exact .bl b
  | .int b, v, _, r => by cases r; exact .int b
  | .str b, v, _, r => by cases r; exact .str b
  | .ty b, v, _, r => by cases r; exact .ty b
  | .own b, v, _, r => by cases r; exact .own b
  | .tup ds, v, h, r => by
    cases r with
    | @tup a xs _ hp ra =>
      have hp2 := hid_some hp
      have hn : a ∉ B := fun z => by
        by_cases hos : a ∈ os
        · rcases ho a hos z with ⟨xs, e⟩ | ⟨xs, e⟩ | ⟨_, _, xs, e⟩ | ⟨xs, e⟩ <;> (rw [hp2] at e; cases e)
        · have := viewB_mem.mpr ⟨z, hos⟩
          unfold Ask.hid at hp
          rw [if_pos this] at hp
          cases hp
      exact .tup (hid_at hp2 hn) (rpa_unviewM ho (by unfold noK at h; exact h) ra)
  | .lst _, v, h, r => by unfold noK at h; cases h
  | .ktup _, v, h, r => by unfold noK at h; cases h
  | .klst _, v, h, r => by unfold noK at h; cases h
  | .dct _, v, h, r => by unfold noK at h; cases h
  | .ins _ _, v, h, r => by unfold noK at h; cases h
theorem rpa_unviewM {os : List Addr} (ho : ∀ p ∈ os, p ∈ B → Mo H p) : ∀ {ds : List D} {vs : List V}, noKs ds = true → RpA0 K (hid (viewB B os) H) vs ds → RpA0 K (hid B H) vs ds
  | [], vs, _, r => by cases r; exact .nil
  | d :: ds, vs, h, r => by
    cases r with
    | cons r1 r2 =>
      unfold noKs at h
      rw [Bool.and_eq_true] at h
      exact .cons (rp_unviewM ho h.1 r1) (rpa_unviewM ho h.2 r2)
end
/-- the reading with all that the slots hold -/
theorem RQ.rsV (h : RQ K M B0 H0 ks B H shs σ env P pv pd) : ∃ os, RS K (viewB B os) H σ env ∧ ∀ a ∈ os, a ∈ B → Mo H a := by
  obtain ⟨f1, f2, a1, a2, a3, a4⟩ := h.own
  refine ⟨f1, ⟨fun a ha => h.kq.inB a (viewB_mem.mp ha).1, a1.len.1, fun i d e => a1.view (fun a ha => (viewB_mem.mp ha).1) i d (fun a ha z => (viewB_mem.mp z).2 ha) e⟩, fun a ha _ => a1.mo a ha⟩
theorem Mo.mono {a : Addr} (x : Ex H H') (h : Mo H a) : Mo H' a := by
  rcases h with ⟨_, e⟩ | ⟨_, e⟩ | ⟨_, _, _, e⟩ | ⟨_, e⟩
  · exact .inl ⟨_, x _ _ e⟩
  · exact .inr (.inl ⟨_, x _ _ e⟩)
  · exact .inr (.inr (.inl ⟨_, _, _, x _ _ e⟩))
  · exact .inr (.inr (.inr ⟨_, x _ _ e⟩))
/-! ### quiet ones -/
def PoN {α β : Type} (rel : List Addr → Hp → β → α → Prop) (B : List Addr) (H : Hp) (Q : β → Hp → Prop) : R α → Prop
  | .ok a => ∀ v H', Kx B H H' → rel B H' v a → Q v H'
  | _ => False
theorem PoN.mono {α β : Type} {rel : List Addr → Hp → β → α → Prop} {Q : β → Hp → Prop} (e : Kx B H H1) : ∀ {x : R α}, PoN rel B H Q x → PoN rel B H1 Q x
  | .ok _, h => fun v H' a r => h v H' (e.trans a) r
  | .err _, h => h
  | .bad, h => h
end
section
variable (K : PySem.W.Frag) (mg : Str → Option Value) (W : WX) (shs : List Sh)
def EvN (te : TE) (m : Sl → R D) : Prop := ∀ (M B0 : List Addr) (H0 : Hp) (ks : List (List Addr × Hp)) (B : List Addr) (H : Hp) (σ : L2.St) (env : Sl) (P : List Sh) (pv : List V) (pd : List D) (Q : VK), RQ K M B0 H0 ks B H shs σ env P pv pd → PoN (Rp K) B H Q (m env) → te σ H Q
def EvNB (tt : TT) (m : Sl → R Bool) : Prop := ∀ (M B0 : List Addr) (H0 : Hp) (ks : List (List Addr × Hp)) (B : List Addr) (H : Hp) (σ : L2.St) (env : Sl) (P : List Sh) (pv : List V) (pd : List D) (Q : Bool → Hp → Prop), RQ K M B0 H0 ks B H shs σ env P pv pd → PoN (fun _ _ a b => a = b) B H Q (m env) → tt σ H Q
def EvNA (ta : TA) (m : Sl → R (List D)) : Prop := ∀ (M B0 : List Addr) (H0 : Hp) (ks : List (List Addr × Hp)) (B : List Addr) (H : Hp) (σ : L2.St) (env : Sl) (P : List Sh) (pv : List V) (pd : List D) (Q : List V → Hp → Prop), RQ K M B0 H0 ks B H shs σ env P pv pd → PoN (RpA K) B H Q (m env) → ta σ H Q
def EvNI (wi : TI) (m : Sl → R (List D)) : Prop := ∀ (M B0 : List Addr) (H0 : Hp) (ks : List (List Addr × Hp)) (B : List Addr) (H : Hp) (σ : L2.St) (env : Sl) (P : List Sh) (pv : List V) (pd : List D) (Q : It → Hp → Prop), RQ K M B0 H0 ks B H shs σ env P pv pd → PoN (Walks K) B H Q (m env) → wi σ H Q
end
def MN (X : Cx) (W : WX) (shs : List Sh) (e : Expr) (m : Sl → R D) : Prop := ∃ te, PE X e te ∧ EvN X.K shs te m
def MNB (X : Cx) (W : WX) (shs : List Sh) (e : Expr) (m : Sl → R Bool) : Prop := ∃ te, PT X e te ∧ EvNB X.K shs te m
def MNA (X : Cx) (W : WX) (shs : List Sh) (es : List Expr) (m : Sl → R (List D)) : Prop := ∃ te, PA X es te ∧ EvNA X.K shs te m
def MNI (X : Cx) (W : WX) (shs : List Sh) (tg iter : Expr) (m : Sl → R (List D)) : Prop := ∃ te, PI X tg iter te ∧ EvNI X.K shs te m
def nH {α : Type} (shs : List Sh) (m : Sl → R α) : Sl → R α := fun env => m (wipeQ shs env)
def nV (m : Sl → R D) : Sl → R D := fun env => (m env).bind fun d => if noK d = true then .ok d else .bad
def nVA (m : Sl → R (List D)) : Sl → R (List D) := fun env => (m env).bind fun d => if noKs d = true then .ok d else .bad
section
variable {X : Cx} {W : WX} {shs : List Sh} {a b c e tg iter : Expr} {es : List Expr} {m : Sl → R D} {mb : Sl → R Bool} {ma : Sl → R (List D)} {pos p2 : Pos}
theorem PoN.po {α β : Type} {rel : List Addr → Hp → β → α → Prop} {mg : Str → Option Value} {W : WX} {σ : L2.St} {B : List Addr} {H : Hp} {Q : β → Hp → Prop} : ∀ {x : R α}, PoN rel B H Q x → Po rel mg W σ B H Q x
  | .ok _, h => h
  | .err _, h => h.elim
  | .bad, h => h
theorem mn_h (h : ME X W e m) : MN X W shs e (nH shs m) := by
  obtain ⟨t, a, b⟩ := h
  exact ⟨t, a, fun M B0 H0 ks B H σ env P pv pd Q r q => b _ σ B H Q r.rsH q.po⟩
theorem mnb_h (h : MT X W e mb) : MNB X W shs e (nH shs mb) := by
  obtain ⟨t, a, b⟩ := h
  exact ⟨t, a, fun M B0 H0 ks B H σ env P pv pd Q r q => b _ σ B H Q r.rsH q.po⟩
theorem mna_h (h : MA X W es ma) : MNA X W shs es (nH shs ma) := by
  obtain ⟨t, a, b⟩ := h
  exact ⟨t, a, fun M B0 H0 ks B H σ env P pv pd Q r q => b _ σ B H Q r.rsH q.po⟩
theorem mni_h (h : MI X W tg iter ma) : MNI X W shs tg iter (nH shs ma) := by
  obtain ⟨t, a, b⟩ := h
  exact ⟨t, a, fun M B0 H0 ks B H σ env P pv pd Q r q => b _ σ B H Q r.rsH q.po⟩
theorem mn_v (h : ME X W e m) : MN X W shs e (nV m) := by
  obtain ⟨t, a, b⟩ := h
  refine ⟨t, a, fun M B0 H0 ks B H σ env P pv pd Q r q => ?_⟩
  obtain ⟨os, r1, r2⟩ := r.rsV
  refine b _ σ (viewB B os) H Q r1 ?_
  unfold nV at q
  cases hm : m env with
  | ok d =>
    rw [hm] at q
    by_cases hd : noK d = true
    · simp only [R.bind, hd, if_true] at q
      intro v H' e' rp
      have e2 := e'.unview r.kq.inB
      exact q v H' e2 (rp_unviewM (fun p hp hB => (r2 p hp hB).mono e2.ex) hd rp)
    · simp only [R.bind, if_neg hd] at q; exact q.elim
  | err c => rw [hm] at q; exact q.elim
  | bad => rw [hm] at q; exact q.elim
theorem mnb_v (h : MT X W e mb) : MNB X W shs e mb := by
  obtain ⟨t, a, b⟩ := h
  refine ⟨t, a, fun M B0 H0 ks B H σ env P pv pd Q r q => ?_⟩
  obtain ⟨os, r1, r2⟩ := r.rsV
  refine b _ σ (viewB B os) H Q r1 ?_
  cases hm : mb env with
  | ok d =>
    rw [hm] at q
    intro v H' e' rp
    exact q v H' (e'.unview r.kq.inB) rp
  | err c => rw [hm] at q; exact q.elim
  | bad => rw [hm] at q; exact q.elim
theorem mna_v (h : MA X W es ma) : MNA X W shs es (nVA ma) := by
  obtain ⟨t, a, b⟩ := h
  refine ⟨t, a, fun M B0 H0 ks B H σ env P pv pd Q r q => ?_⟩
  obtain ⟨os, r1, r2⟩ := r.rsV
  refine b _ σ (viewB B os) H Q r1 ?_
  unfold nVA at q
  cases hm : ma env with
  | ok d =>
    rw [hm] at q
    by_cases hd : noKs d = true
    · simp only [R.bind, hd, if_true] at q
      intro v H' e' rp
      have e2 := e'.unview r.kq.inB
      exact q v H' e2 (rpa_unviewM (fun p hp hB => (r2 p hp hB).mono e2.ex) hd rp)
    · simp only [R.bind, if_neg hd] at q; exact q.elim
  | err c => rw [hm] at q; exact q.elim
  | bad => rw [hm] at q; exact q.elim
end
/-! ### those that change what is one's own -/
def PoQ (K : PySem.W.Frag) (M B0 : List Addr) (H0 : Hp) (ks : List (List Addr × Hp)) (shs : List Sh) (σ : L2.St) (P : List Sh) (pv : List V) (pd : List D) (rsh : Sh) (Q : VK) : R (D × Sl) → Prop
  | .ok (d, env') => ∀ v B' H', RQ K M B0 H0 ks B' H' shs σ env' (P ++ [rsh]) (pv ++ [v]) (pd ++ [d]) → Q v H'
  | _ => False
def PoQA (K : PySem.W.Frag) (M B0 : List Addr) (H0 : Hp) (ks : List (List Addr × Hp)) (shs : List Sh) (σ : L2.St) (P : List Sh) (pv : List V) (pd : List D) (rshs : List Sh) (Q : List V → Hp → Prop) : R (List D × Sl) → Prop
  | .ok (d, env') => ∀ v B' H', d.length = rshs.length → v.length = rshs.length → RQ K M B0 H0 ks B' H' shs σ env' (P ++ rshs) (pv ++ v) (pd ++ d) → Q v H'
  | _ => False
def EvQ (K : PySem.W.Frag) (shs : List Sh) (rsh : Sh) (te : TE) (m : Sl → R (D × Sl)) : Prop := ∀ (M B0 : List Addr) (H0 : Hp) (ks : List (List Addr × Hp)) (B : List Addr) (H : Hp) (σ : L2.St) (env : Sl) (P : List Sh) (pv : List V) (pd : List D) (Q : VK), RQ K M B0 H0 ks B H shs σ env P pv pd → PoQ K M B0 H0 ks shs σ P pv pd rsh Q (m env) → te σ H Q
def EvQA (K : PySem.W.Frag) (shs : List Sh) (rshs : List Sh) (te : TA) (m : Sl → R (List D × Sl)) : Prop := ∀ (M B0 : List Addr) (H0 : Hp) (ks : List (List Addr × Hp)) (B : List Addr) (H : Hp) (σ : L2.St) (env : Sl) (P : List Sh) (pv : List V) (pd : List D) (Q : List V → Hp → Prop), RQ K M B0 H0 ks B H shs σ env P pv pd → PoQA K M B0 H0 ks shs σ P pv pd rshs Q (m env) → te σ H Q
def MQ (X : Cx) (W : WX) (shs : List Sh) (rsh : Sh) (e : Expr) (m : Sl → R (D × Sl)) : Prop := ∃ te, PE X e te ∧ EvQ X.K shs rsh te m
def MQA (X : Cx) (W : WX) (shs : List Sh) (rshs : List Sh) (es : List Expr) (m : Sl → R (List D × Sl)) : Prop := ∃ te, PA X es te ∧ EvQA X.K shs rshs te m
def qN (m : Sl → R D) : Sl → R (D × Sl) := fun env => (m env).bind fun d => .ok (d, env)
def qNil : Sl → R (List D × Sl) := fun env => .ok ([], env)
def qCons (m : Sl → R (D × Sl)) (r : Sl → R (List D × Sl)) : Sl → R (List D × Sl) := fun env => (m env).bind fun p => (r p.2).bind fun q => .ok (p.1 :: q.1, q.2)
section
variable {X : Cx} {W : WX} {shs rshs : List Sh} {rsh : Sh} {a b c e : Expr} {es : List Expr} {m : Sl → R D} {mq : Sl → R (D × Sl)} {mr : Sl → R (List D × Sl)} {pos p2 : Pos}
variable {K : PySem.W.Frag} {M B0 B B' : List Addr} {H0 H H' : Hp} {ks : List (List Addr × Hp)} {σ : L2.St} {env : Sl} {P : List Sh} {pv : List V} {pd : List D}
/-- something plain, pushed -/
theorem RQ.push (h : RQ K M B0 H0 ks B H shs σ env P pv pd) {v : V} {d : D} (r : Rp K B H v d) : RQ K M B0 H0 ks B H shs σ env (P ++ [.pl]) (pv ++ [v]) (pd ++ [d]) := by
  obtain ⟨f1, f2, a1, a2, a3, a4⟩ := h.own
  refine ⟨h.kq, h.kys, f1, f2, a1, ?_, a3, a4⟩
  have := a2.app (OwL.one (.pl r))
  rwa [List.append_nil] at this
/-- plain ones at hand -/
theorem RQ.plain {n : Nat} {vs : List V} {ds : List D} (h : RQ K M B0 H0 ks B H shs σ env (P ++ List.replicate n .pl) (pv ++ vs) (pd ++ ds)) (l1 : vs.length = n) (l2 : ds.length = n) : RpA K B H vs ds ∧ RQ K M B0 H0 ks B H shs σ env P pv pd := by
  obtain ⟨m, a, b, c, d, _⟩ := h.pend (by rw [List.length_replicate, l1]) (by rw [List.length_replicate, l2])
  obtain ⟨rfl, r⟩ := OwL.rpa rep_pl a
  have := d B H [] [] [] [] (Kq.refl h.kq.inB) .nil List.nodup_nil (fun _ z => by cases z)
  simp only [List.append_nil] at this
  exact ⟨r, this⟩
theorem RQ.plain1 {v : V} {d : D} (h : RQ K M B0 H0 ks B H shs σ env (P ++ [.pl]) (pv ++ [v]) (pd ++ [d])) : Rp K B H v d ∧ RQ K M B0 H0 ks B H shs σ env P pv pd := by
  obtain ⟨a, b⟩ := RQ.plain (n := 1) (vs := [v]) (ds := [d]) h rfl rfl
  cases a with
  | cons a1 a2 => exact ⟨a1, b⟩
theorem mq_n (h : MN X W shs e m) : MQ X W shs .pl e (qN m) := by
  obtain ⟨t, a, b⟩ := h
  refine ⟨t, a, fun M B0 H0 ks B H σ env P pv pd Q r q => b M B0 H0 ks B H σ env P pv pd Q r ?_⟩
  unfold qN at q
  cases hm : m env with
  | ok d =>
    rw [hm] at q
    exact fun v H' e' rp => q v B H' ((r.mono e').push rp)
  | err c => rw [hm] at q; exact q.elim
  | bad => rw [hm] at q; exact q.elim
theorem mqa_nil : MQA X W shs [] [] qNil := ⟨_, pa_nil, fun M B0 H0 ks B H σ env P pv pd Q r q => q [] B H rfl rfl (by simpa only [List.append_nil] using r)⟩
theorem mqa_cons (h : MQ X W shs rsh e mq) (k : MQA X W shs rshs es mr) (hs : starEach (e :: es) X.env = (false, eval e X.env) :: starEach es X.env := by rfl) : MQA X W shs (rsh :: rshs) (e :: es) (qCons mq mr) := by
  obtain ⟨t, a1, a2⟩ := h
  obtain ⟨u, b1, b2⟩ := k
  refine ⟨_, pa_cons a1 b1 hs, fun M B0 H0 ks B H σ env P pv pd Q r q => a2 M B0 H0 ks B H σ env P pv pd _ r ?_⟩
  unfold qCons at q
  cases hm : mq env with
  | ok p =>
    obtain ⟨d, env1⟩ := p
    rw [hm] at q
    intro v B1 H1 r1
    refine b2 M B0 H0 ks B1 H1 σ env1 _ _ _ _ r1 ?_
    simp only [R.bind] at q
    cases hr : mr env1 with
    | ok p2 =>
      obtain ⟨ds, env2⟩ := p2
      rw [hr] at q
      intro vs B2 H2 l1 l2 r2
      refine q (v :: vs) B2 H2 (by simp [l1]) (by simp [l2]) ?_
      simpa only [List.append_assoc, List.singleton_append] using r2
    | err c => rw [hr] at q; exact q.elim
    | bad => rw [hr] at q; exact q.elim
  | err c => rw [hm] at q; exact q.elim
  | bad => rw [hm] at q; exact q.elim
end
end Ask
namespace Ask
open PySem L2 Evl
/-! ### places: a slot, or a part of what it holds -/
def EvP (K : PySem.W.Frag) (shs : List Sh) (i : Nat) (te : TE) (sm : Sl → R (Option Stp)) : Prop := ∀ (M B0 : List Addr) (H0 : Hp) (ks : List (List Addr × Hp)) (B : List Addr) (H : Hp) (σ : L2.St) (env : Sl) (P : List Sh) (pv : List V) (pd : List D) (Q : VK), RQ K M B0 H0 ks B H shs σ env P pv pd →
  PoN (fun _ H' v s => ∃ r, σ[i]? = some (some r) ∧ Foc H' r s v) B H Q (sm env) → te σ H Q
def MPl (X : Cx) (W : WX) (shs : List Sh) (i : Nat) (e : Expr) (sm : Sl → R (Option Stp)) : Prop := ∃ te, PE X e te ∧ EvP X.K shs i te sm
def pl0 (i : Nat) : Sl → R (Option Stp) := fun env => match env[i]? with
  | some (some _) => .ok none
  | _ => .bad
def plF (C : Str) (f : Str) (i : Nat) : Sl → R (Option Stp) := fun env => match env[i]? with
  | some (some (.ins C' kvs)) => if C' = C then match kvs.lookup f with
    | some _ => .ok (some (.fld f))
    | none => .bad else .bad
  | _ => .bad
def plK (m : Sl → R D) (i : Nat) : Sl → R (Option Stp) := fun env => (m env).bind fun k => match env[i]?, k with
  | some (some (.dct kvs)), .str x => match kvs.lookup x with
    | some _ => .ok (some (.key x))
    | none => .bad
  | some (some (.lst ds)), .int n => if 0 ≤ n ∧ n.toNat < ds.length then .ok (some (.idx n.toNat)) else .bad
  | some (some (.tup ds)), .int n => if 0 ≤ n ∧ n.toNat < ds.length then .ok (some (.idx n.toNat)) else .bad
  | _, _ => .bad
theorem lk_F : ∀ {kvs : List (Str × D)} {x : Str} {d : D} {xs : List (Str × V)}, kvs.lookup x = some d → (xs.map fun q => q.1) = (kvs.map fun q => q.1) → ∃ v, xs.lookup x = some v
  | [], x, d, xs, h, e => by cases h
  | (k, c) :: r, x, d, xs, h, e => by
    cases xs with
    | nil => cases e
    | cons y ys =>
      obtain ⟨a, b⟩ := y
      simp only [List.map_cons, List.cons.injEq] at e
      obtain ⟨e1, e2⟩ := e
      have e1' : a = k := e1
      subst e1'
      by_cases hk : x = a
      · subst hk
        have hb : (x == x) = true := beq_iff_eq.mpr rfl
        exact ⟨b, by simp only [List.lookup, hb]⟩
      · have hb : (x == a) = false := beq_eq_false_iff_ne.mpr hk
        simp only [List.lookup, hb] at h ⊢
        exact lk_F h e2
theorem lk_N : ∀ {kvs : List (Str × D)} {x : Str} {xs : List (Str × V)}, kvs.lookup x = none → (xs.map fun q => q.1) = (kvs.map fun q => q.1) → xs.lookup x = none
  | [], x, xs, h, e => by
    cases xs with
    | nil => rfl
    | cons y ys => cases e
  | (k, c) :: r, x, xs, h, e => by
    cases xs with
    | nil => rfl
    | cons y ys =>
      obtain ⟨a, b⟩ := y
      simp only [List.map_cons, List.cons.injEq] at e
      obtain ⟨e1, e2⟩ := e
      have e1' : a = k := e1
      subst e1'
      by_cases hk : x = a
      · subst hk
        have hb : (x == x) = true := beq_iff_eq.mpr rfl
        simp only [List.lookup, hb] at h
        cases h
      · have hb : (x == a) = false := beq_eq_false_iff_ne.mpr hk
        simp only [List.lookup, hb] at h ⊢
        exact lk_N h e2
theorem lk_D : ∀ {kvs : List (Str × D)} {x : Str} {d : D} {xs : List (Key × V)}, kvs.lookup x = some d → (xs.map fun q => q.1) = (kvs.map fun q => (Sum.inr q.1 : Key)) → ∃ v, valV xs (.inr x) = some v
  | [], x, d, xs, h, e => by cases h
  | (k, c) :: r, x, d, xs, h, e => by
    cases xs with
    | nil => cases e
    | cons y ys =>
      simp only [List.map_cons, List.cons.injEq] at e
      by_cases hk : x = k
      · subst hk
        exact ⟨y.2, valV_pos e.1⟩
      · have hb : (x == k) = false := beq_eq_false_iff_ne.mpr hk
        simp only [List.lookup, hb] at h
        have hn : ¬ y.1 = (Sum.inr x : Key) := fun z => hk (by rw [e.1] at z; exact (Sum.inr.inj z).symm)
        rw [valV_neg hn]
        exact lk_D h e.2
section
variable {K : PySem.W.Frag} {M B0 B B' : List Addr} {H0 H H' : Hp} {ks : List (List Addr × Hp)} {σ : L2.St} {env : Sl} {P : List Sh} {pv : List V} {pd : List D}
variable {X : Cx} {W : WX} {shs rshs : List Sh} {rsh : Sh} {a b c e o : Expr} {es : List Expr} {m ma mb : Sl → R D} {mq mq2 : Sl → R (D × Sl)} {mr : Sl → R (List D × Sl)} {pos p2 : Pos}
/-- what a slot holds -/
theorem RQ.at (h : RQ K M B0 H0 ks B H shs σ env P pv pd) {i : Nat} {d : D} (hi : env[i]? = some (some d)) : ∃ sh v fp, shs[i]? = some sh ∧ σ[i]? = some (some v) ∧ Ow K B H sh fp v d := by
  obtain ⟨f1, f2, a1, a2, a3, a4⟩ := h.own
  have hil : i < env.length := by
    by_cases hh : i < env.length
    · exact hh
    · rw [List.getElem?_eq_none (by omega)] at hi; cases hi
  obtain ⟨s, l, m, r, b1, b2, b3, b4, b5⟩ := a1.focus hil
  obtain ⟨v, c1, c2⟩ := b3 d hi
  exact ⟨s, v, m, b1, c1, c2⟩
theorem mp_var (i : Nat) {x : Str} (hN : X.N[i]? = some x := by rfl) (hv : Vis X.env.scope x := by first | exact Or.inl rfl | exact Or.inr (Or.inl rfl) | exact Or.inr (Or.inr rfl)) (hd : (x == ("__debug__" : Str)) = false := by decide)
    (hcd : (x == ("__classdict__" : Str)) = false := by decide) : MPl X W shs i (.Name x pos) (pl0 i) := by
  refine ⟨_, pe_var (i := i) hN hv hd hcd, fun M B0 H0 ks B H σ env P pv pd Q h q => ?_⟩
  unfold pl0 at q
  split at q
  · next d he =>
    obtain ⟨sh, v, fp, h1, h2, h3⟩ := h.at he
    exact ⟨v, h2, q v H (Kx.refl h.kq.inB) ⟨v, h2, rfl⟩⟩
  · exact q.elim
theorem mp_fld {i : Nat} {C : Addr} {cc f : Str} {g : List (Str × Sh)} (cn : CN X.K C cc) (c : Cls X.K C) (n : NoAttr X.K C f) (hs : shs[i]? = some (.ins g)) (ho : MPl X W shs i e (pl0 i)) (hb : attributeBase e f X.env (eval e X.env) = eval e X.env := by rfl) : MPl X W shs i (.Attribute e f pos) (plF cc f i) := by
  obtain ⟨t, a1, a2⟩ := ho
  refine ⟨_, pe_fld a1 hb, fun M B0 H0 ks B H σ env P pv pd Q h q => a2 M B0 H0 ks B H σ env P pv pd _ h ?_⟩
  unfold plF at q
  split at q
  · next C' kvs he =>
    have e0 : pl0 i env = .ok none := by unfold pl0; rw [he]
    rw [e0]
    split at q
    · next hC =>
      subst hC
      split at q
      · next d0 hl =>
        intro v H1 kx fo
        obtain ⟨r, h2, rfl⟩ := fo
        have h1 := h.mono kx
        obtain ⟨sh, v', fp, b1, b2, b3⟩ := h1.at he
        rw [hs] at b1
        cases b1
        rw [h2] at b2
        cases b2
        cases b3 with
        | @ins _ p C2 dx _ fps xs _ hcn hp hx hk ol =>
          obtain ⟨u, hu⟩ := lk_F hl hk
          have eC := hcn.inj cn
          subst eC
          exact ⟨p, _, dx, xs, u, rfl, hp, c, n, hu, q u H1 kx ⟨.ref p, h2, p, _, dx, xs, rfl, hp, hu⟩⟩
      · exact q.elim
    · exact q.elim
  · exact q.elim
/-- a quiet reading of a part that is plain -/
def rdP (shs : List Sh) (i : Nat) (sm : Sl → R (Option Stp)) : Sl → R D := fun env => (sm env).bind fun s => match env[i]?, shs[i]? with
  | some (some d), some sh => match chO sh d s with
    | some (.pl, d') => .ok d'
    | _ => .bad
  | _, _ => .bad
theorem mn_rd {i : Nat} {sm : Sl → R (Option Stp)} (h : MPl X W shs i e sm) : MN X W shs e (rdP shs i sm) := by
  obtain ⟨t, a, b⟩ := h
  refine ⟨t, a, fun M B0 H0 ks B H σ env P pv pd Q r q => b M B0 H0 ks B H σ env P pv pd Q r ?_⟩
  unfold rdP at q
  cases hm : sm env with
  | ok s =>
    rw [hm] at q
    simp only [R.bind] at q
    intro v H1 kx fo
    obtain ⟨rv, h2, h3⟩ := fo
    split at q
    · next d sh he hsh =>
      split at q
      · next d' hc =>
        obtain ⟨m, o1, _⟩ := (r.mono kx).foc he hsh hc h2 h3
        cases o1 with
        | pl o1 => exact q v H1 kx o1
      · exact q.elim
    · exact q.elim
  | err c => rw [hm] at q; exact q.elim
  | bad => rw [hm] at q; exact q.elim
/-- o[k], o a slot -/
theorem mp_key {i : Nat} (hu : X.A.units + 1 < cLine) (ho : MPl X W shs i o (pl0 i)) (hk : MN X W shs e m) (hns : NoSl e) (hs : PlainIx e) (hsh : (∃ g, shs[i]? = some (.dct g)) ∨ (∃ g, shs[i]? = some (.lst g)) ∨ ∃ g, shs[i]? = some (.tup g)) : MPl X W shs i (.Subscript o e pos) (plK m i) := by
  obtain ⟨t, a1, a2⟩ := ho
  obtain ⟨u, b1, b2⟩ := hk
  rcases hsh with ⟨g, hg⟩ | hsh
  · refine ⟨_, pe_dget hu a1 b1 hns, fun M B0 H0 ks B H σ env P pv pd Q h q => a2 M B0 H0 ks B H σ env P pv pd _ h ?_⟩
    unfold plK at q
    cases hm : m env with
    | ok k =>
      rw [hm] at q
      simp only [R.bind] at q
      split at q
      · next kvs x he =>
        have e0 : pl0 i env = .ok none := by unfold pl0; rw [he]
        rw [e0]
        split at q
        · next d0 hl =>
          intro v H1 kx fo
          obtain ⟨r, h2, rfl⟩ := fo
          have h1 := h.mono kx
          refine b2 M B0 H0 ks B H1 σ env P pv pd _ h1 ?_
          rw [hm]
          intro kv H2 kx2 rk
          cases rk
          have h3 := h1.mono kx2
          obtain ⟨sh, v', fp, c1, c2, c3⟩ := h3.at he
          rw [hg] at c1
          cases c1
          rw [h2] at c2
          cases c2
          cases c3 with
          | @dct _ p fps xs _ hp hk ol =>
            obtain ⟨w, hw⟩ := lk_D hl hk
            refine ⟨p, w, rfl, ?_, q w H2 (kx.trans kx2) ⟨.ref p, h2, p, xs, rfl, hp, hw⟩⟩
            rw [← hw]
            exact DGet.k (k := Sum.inr x) hp
        · exact q.elim
      · next ds n he =>
        obtain ⟨sh, v', fp, c1, c2, c3⟩ := h.at he
        rw [hg] at c1
        cases c1
        cases c3
      · next ds n he =>
        obtain ⟨sh, v', fp, c1, c2, c3⟩ := h.at he
        rw [hg] at c1
        cases c1
        cases c3
      · exact q.elim
    | err c => rw [hm] at q; exact q.elim
    | bad => rw [hm] at q; exact q.elim
  · refine ⟨_, pe_ix ix_seq a1 b1 hs, fun M B0 H0 ks B H σ env P pv pd Q h q => a2 M B0 H0 ks B H σ env P pv pd _ h ?_⟩
    have run : ∀ {ds : List D} {n : Int} (he : env[i]? = some (some (.lst ds)) ∨ env[i]? = some (some (.tup ds))) (hm : m env = .ok (.int n)) (hn : 0 ≤ n ∧ n.toNat < ds.length) (q : ∀ v H', Kx B H H' → (∃ r, σ[i]? = some (some r) ∧ Foc H' r (some (.idx n.toNat)) v) → Q v H'),
        PoN (fun _ H' v s => ∃ r, σ[i]? = some (some r) ∧ Foc H' r s v) B H (fun x H1 => u σ H1 fun y H2 => rIx X.K x y H2 Q) (pl0 i env) := fun {ds n} he hm hn q => by
      have e0 : pl0 i env = .ok none := by unfold pl0; rcases he with he | he <;> rw [he]
      rw [e0]
      intro v H1 kx fo
      obtain ⟨r, h2, rfl⟩ := fo
      have h1 := h.mono kx
      refine b2 M B0 H0 ks B H1 σ env P pv pd _ h1 ?_
      rw [hm]
      intro kv H2 kx2 rk
      cases rk
      have h3 := h1.mono kx2
      have en : n = (n.toNat : Int) := by omega
      rcases he with he | he
      · obtain ⟨sh, v', fp, c1, c2, c3⟩ := h3.at he
        rw [h2] at c2
        cases c2
        cases c3 with
        | pl c3 =>
          rcases hsh with ⟨g, hg⟩ | ⟨g, hg⟩ <;> (rw [hg] at c1; cases c1)
        | @lst _ p fps xs _ hp ol =>
          obtain ⟨s, w, l, mm, rr, z1, z2, _⟩ := ol.focus (n := n.toNat) (List.getElem?_eq_getElem hn.2)
          refine .inl ⟨p, xs, n, w, rfl, rfl, sq_of hp, ?_, q w H2 (kx.trans kx2) ⟨.ref p, h2, p, xs, rfl, .inl hp, z2⟩⟩
          rw [en]; exact atI_nat z2
      · obtain ⟨sh, v', fp, c1, c2, c3⟩ := h3.at he
        rw [h2] at c2
        cases c2
        cases c3 with
        | pl c3 =>
          rcases hsh with ⟨g, hg⟩ | ⟨g, hg⟩ <;> (rw [hg] at c1; cases c1)
        | @tup _ p fps xs _ hp ol =>
          obtain ⟨s, w, l, mm, rr, z1, z2, _⟩ := ol.focus (n := n.toNat) (List.getElem?_eq_getElem hn.2)
          refine .inr (.inl ⟨p, xs, n, w, rfl, rfl, st_of (hid_some hp), ?_, q w H2 (kx.trans kx2) ⟨.ref p, h2, p, xs, rfl, .inr (hid_some hp), z2⟩⟩)
          rw [en]; exact atI_nat z2
    unfold plK at q
    cases hm : m env with
    | ok k =>
      rw [hm] at q
      simp only [R.bind] at q
      split at q
      · next kvs x he =>
        obtain ⟨sh, v', fp, c1, c2, c3⟩ := h.at he
        rcases hsh with ⟨g, hg⟩ | ⟨g, hg⟩ <;> (rw [hg] at c1; cases c1; cases c3)
      · next ds n he =>
        split at q
        · next hn => exact run (.inl he) hm hn q
        · exact q.elim
      · next ds n he =>
        split at q
        · next hn => exact run (.inr he) hm hn q
        · exact q.elim
      · exact q.elim
    | err c => rw [hm] at q; exact q.elim
    | bad => rw [hm] at q; exact q.elim
end
end Ask
namespace Ask
open PySem L2 Evl
section
variable {K : PySem.W.Frag} {M B0 B B' : List Addr} {H0 H H' : Hp} {ks : List (List Addr × Hp)} {σ : L2.St} {env : Sl} {P P2 : List Sh} {pv v2 : List V} {pd d2 : List D} {shs rshs : List Sh} {rsh : Sh}
/-- what is at hand, bundled into something new of one's own -/
theorem RQ.bundle (h : RQ K M B0 H0 ks B H shs σ env (P ++ P2) (pv ++ v2) (pd ++ d2)) (l1 : P2.length = v2.length) (l2 : P2.length = d2.length) {p : Addr} {o : HO} {sh : Sh} {d : D} (hp : H p = none)
    (mk : ∀ m, OwL K (p :: B) (upd H p o) P2 m v2 d2 → Ow K (p :: B) (upd H p o) sh (p :: m) (.ref p) d) : RQ K M B0 H0 ks (p :: B) (upd H p o) shs σ env (P ++ [sh]) (pv ++ [.ref p]) (pd ++ [d]) := by
  obtain ⟨m, a1, a2, a3, a4, _⟩ := h.pend l1 l2
  have hB := h.kq.inB
  have k : Kq [] B H (p :: B) (upd H p o) := Kq.lay hB hp
  have hpm : p ∉ m := fun z => hB p (a3 p z).1 hp
  refine a4 (p :: B) (upd H p o) (p :: m) [sh] [.ref p] [d] (k.more (fun _ z => by cases z) fun x hx => (a3 x hx).1) (OwL.one (mk m (a1.mono k.ex fun a ha => upd_ne (fun z => hpm (z ▸ ha))))) (List.nodup_cons.mpr ⟨hpm, a2⟩) fun a ha => ?_
  rcases List.mem_cons.mp ha with e | e
  · rw [e]; exact ⟨List.mem_cons_self, .inr hp⟩
  · exact ⟨List.mem_cons_of_mem _ (a3 a e).1, .inl e⟩
/-- .. into a tuple -/
theorem RQ.tuple (h : RQ K M B0 H0 ks B H shs σ env (P ++ P2) (pv ++ v2) (pd ++ d2)) (l1 : P2.length = v2.length) (l2 : P2.length = d2.length) {p : Addr} (hp : H p = none) : RQ K M B0 H0 ks B (upd H p (.tup v2)) shs σ env (P ++ [.tup P2]) (pv ++ [.ref p]) (pd ++ [.tup d2]) := by
  obtain ⟨m, a1, a2, a3, a4, _⟩ := h.pend l1 l2
  have hB := h.kq.inB
  have kx : Kx B H (upd H p (.tup v2)) := Kx.new hB hp
  have k := Kq.ofKx kx
  have hpm : p ∉ m := fun z => hB p (a3 p z).1 hp
  have hpB : p ∉ B := fun z => hB p z hp
  exact a4 B (upd H p (.tup v2)) m [.tup P2] [.ref p] [.tup d2] (k.more (fun _ z => by cases z) fun x hx => (a3 x hx).1) (OwL.one (.tup (hid_at upd_same hpB) (a1.mono k.ex fun a ha => upd_ne (fun z => hpm (z ▸ ha))))) a2 fun a ha => ⟨(a3 a ha).1, .inl ha⟩
/-- something of one's own, new, besides -/
theorem RQ.fresh (h : RQ K M B0 H0 ks B H shs σ env P pv pd) {sh : Sh} {v : V} {d : D} {fr : List Addr} (k : Kq [] B H B' H') (o : Ow K B' H' sh fr v d) (nd : fr.Nodup) (hf : ∀ a ∈ fr, a ∈ B' ∧ H a = none) : RQ K M B0 H0 ks B' H' shs σ env (P ++ [sh]) (pv ++ [v]) (pd ++ [d]) := by
  obtain ⟨m, a1, a2, a3, a4, _⟩ := RQ.pend (P2 := []) (v2 := []) (d2 := []) (by simpa only [List.append_nil] using h) rfl rfl
  cases a1
  exact a4 B' H' fr [sh] [v] [d] k (OwL.one o) nd fun a ha => ⟨(hf a ha).1, .inr (hf a ha).2⟩
/-- what a slot holds, taken out of it -/
theorem RQ.move {i : Nat} {d : D} {sh : Sh} (h : RQ K M B0 H0 ks B H shs σ env P pv pd) (hi : env[i]? = some (some d)) (hs : shs[i]? = some sh) : ∃ v, σ[i]? = some (some v) ∧ RQ K M B0 H0 ks B H shs σ (env.set i none) (P ++ [sh]) (pv ++ [v]) (pd ++ [d]) := by
  obtain ⟨f1, f2, a1, a2, a3, a4⟩ := h.own
  have key : ∀ {shs : List Sh} {fp : List Addr} {σ : List (Option V)} {env : List (Option D)} {i : Nat}, OwS K B H shs fp σ env → env[i]? = some (some d) → shs[i]? = some sh → ∃ v l m r, fp = l ++ m ++ r ∧ σ[i]? = some (some v) ∧ Ow K B H sh m v d ∧ OwS K B H shs (l ++ r) σ (env.set i none) := by
    intro shs fp σ env i o
    induction o generalizing i with
    | nil => intro h _; cases i <;> cases h
    | non r ih =>
      cases i with
      | zero => intro h _; simp at h
      | succ i =>
        intro h1 h2
        obtain ⟨v, l, m, q, e1, e2, e3, e4⟩ := ih (by simpa using h1) (by simpa using h2)
        exact ⟨v, l, m, q, e1, by simpa using e2, e3, .non e4⟩
    | @som sh' fp' fps v' d' shs σ env o r ih =>
      cases i with
      | zero =>
        intro h1 h2
        simp at h1 h2
        subst h1 h2
        exact ⟨v', [], fp', fps, rfl, rfl, o, .non r⟩
      | succ i =>
        intro h1 h2
        obtain ⟨v, l, m, q, e1, e2, e3, e4⟩ := ih (by simpa using h1) (by simpa using h2)
        refine ⟨v, fp' ++ l, m, q, by rw [e1]; simp, by simpa using e2, e3, ?_⟩
        have := OwS.som o e4
        simpa only [List.append_assoc, List.set_cons_succ] using this
  obtain ⟨v, l, m, r, rfl, e2, e3, e4⟩ := key a1 hi hs
  refine ⟨v, e2, h.kq, h.kys, l ++ r, f2 ++ m, e4, a2.app (OwL.one e3), ?_, fun a ha => a4 a (by simp only [List.mem_append] at ha ⊢; grind)⟩
  have pm : (l ++ r ++ (f2 ++ m)).Perm (l ++ m ++ r ++ f2) := by
    have e1 : l ++ r ++ (f2 ++ m) = l ++ ((r ++ f2) ++ m) := by simp only [List.append_assoc]
    have e2 : l ++ m ++ r ++ f2 = l ++ (m ++ (r ++ f2)) := by simp only [List.append_assoc]
    rw [e1, e2]
    exact List.Perm.append_left _ List.perm_append_comm
  exact pm.nodup_iff.mpr a3
end
def q2 (g : D → D → Option D) (a b : Sl → R (D × Sl)) : Sl → R (D × Sl) := fun env => (a env).bind fun p => (b p.2).bind fun q => (R.of (g p.1 q.1)).bind fun z => .ok (z, q.2)
def qLst (m : Sl → R (List D × Sl)) : Sl → R (D × Sl) := fun env => (m env).bind fun p => if p.1.length ≤ 100000 then .ok (.lst p.1, p.2) else .bad
def qTup (m : Sl → R (List D × Sl)) : Sl → R (D × Sl) := fun env => (m env).bind fun p => if p.1.length ≤ 100000 then .ok (.tup p.1, p.2) else .bad
def qDct (ks : List Str) (m : Sl → R (List D × Sl)) : Sl → R (D × Sl) := fun env => (m env).bind fun p => .ok (.dct (ks.zip p.1), p.2)
def qMove (shs : List Sh) (rsh : Sh) (i : Nat) : Sl → R (D × Sl) := fun env => match env[i]? with
  | some (some d) => .ok (d, env.set i none)
  | _ => .bad
def qList (m : Sl → R D) : Sl → R (D × Sl) := fun env => (m env).bind fun d => match d.items with
  | some ds => .ok (.lst ds, env)
  | none => .bad
def qDict (m : Sl → R D) : Sl → R (D × Sl) := fun env => (m env).bind fun d => match d with
  | .dct kvs => .ok (.dct kvs, env)
  | _ => .bad
section
variable {X : Cx} {W : WX} {shs rshs : List Sh} {rsh s1 : Sh} {a b c e o : Expr} {es : List Expr} {m ma mb : Sl → R D} {mq mq2 : Sl → R (D × Sl)} {mr : Sl → R (List D × Sl)} {pos p2 : Pos}
theorem evq_op2 {K : PySem.W.Frag} {g : D → D → Option D} {r : R2} {ta tb : TE} (hr : ∀ (x y : V) (d e z : D) (B : List Addr) (H : Hp) (Q : VK), InB B H → Rp K B H x d → Rp K B H y e → g d e = some z → (∀ v H', Kx B H H' → Rp K B H' v z → Q v H') → r x y H Q)
    (ha : EvQ K shs .pl ta mq) (hb : EvQ K shs .pl tb mq2) : EvQ K shs .pl (tOp r ta tb) (q2 g mq mq2) := fun M B0 H0 ks B H σ env P pv pd Q h q => by
  refine ha M B0 H0 ks B H σ env P pv pd _ h ?_
  unfold q2 at q
  cases hm : mq env with
  | ok p =>
    obtain ⟨x, env1⟩ := p
    rw [hm] at q
    intro v B1 H1 r1
    refine hb M B0 H0 ks B1 H1 σ env1 _ _ _ _ r1 ?_
    simp only [R.bind] at q
    cases hm2 : mq2 env1 with
    | ok p2 =>
      obtain ⟨y, env2⟩ := p2
      rw [hm2] at q
      intro u B2 H2 r2
      simp only at q
      cases hg : g x y with
      | none => rw [hg] at q; exact q.elim
      | some z =>
        rw [hg] at q
        simp only [R.of] at q
        have r3 : RQ K M B0 H0 ks B2 H2 shs σ env2 (P ++ List.replicate 2 .pl) (pv ++ [v, u]) (pd ++ [x, y]) := by simpa only [List.append_assoc, List.singleton_append, List.replicate] using (show RQ K M B0 H0 ks B2 H2 shs σ env2 ((P ++ [.pl]) ++ [.pl]) ((pv ++ [v]) ++ [u]) ((pd ++ [x]) ++ [y]) from r2)
        obtain ⟨ra, r4⟩ := RQ.plain r3 rfl rfl
        cases ra with
        | cons ra1 ra2 =>
          cases ra2 with
          | cons ra2 ra3 => exact hr v u x y z B2 H2 Q r2.kq.inB ra1 ra2 hg fun w H' kx rw_ => q w B2 H' ((r4.mono kx).push rw_)
    | err c => rw [hm2] at q; exact q.elim
    | bad => rw [hm2] at q; exact q.elim
  | err c => rw [hm] at q; exact q.elim
  | bad => rw [hm] at q; exact q.elim
theorem mq_op {op : Operator} {g : D → D → Option D} (ho : OpM X (binaryOp op) g) (ha : MQ X W shs .pl a mq) (hb : MQ X W shs .pl b mq2) : MQ X W shs .pl (.BinOp a op b pos) (q2 g mq mq2) := by
  obtain ⟨r, h1, h2⟩ := ho
  obtain ⟨ta, a1, a2⟩ := ha
  obtain ⟨tb, b1, b2⟩ := hb
  exact ⟨_, pe_op h1 a1 b1, evq_op2 h2 a2 b2⟩
theorem mq_cmp {op : CmpOp} {g : D → D → Option D} (ho : OpM X (compareOp op) g) (ha : MQ X W shs .pl a mq) (hb : MQ X W shs .pl b mq2) (hm : behindInMarks op b = false := by rfl) : MQ X W shs .pl (.Compare a [op] [b] pos) (q2 g mq mq2) := by
  obtain ⟨r, h1, h2⟩ := ho
  obtain ⟨ta, a1, a2⟩ := ha
  obtain ⟨tb, b1, b2⟩ := hb
  exact ⟨_, pe_cmpR h1 a1 b1 hm, evq_op2 h2 a2 b2⟩
theorem mq_lst {n : Nat} (h : MQA X W shs (List.replicate n s1) es mr) : MQ X W shs (.lst s1) (.List es pos) (qLst mr) := by
  obtain ⟨t, a, b⟩ := h
  refine ⟨_, pe_lst a, fun M B0 H0 ks B H σ env P pv pd Q r q => b M B0 H0 ks B H σ env P pv pd _ r ?_⟩
  unfold qLst at q
  cases hm : mr env with
  | ok p =>
    obtain ⟨ds, env1⟩ := p
    rw [hm] at q
    intro vs B1 H1 l1 l2 r1
    simp only [R.bind] at q
    rw [List.length_replicate] at l1 l2
    by_cases hl : ds.length ≤ 100000
    · rw [if_pos hl] at q
      refine ⟨by rw [l2, ← l1]; exact line1 hl, fun p hp => q _ _ _ (RQ.bundle r1 (by rw [List.length_replicate, l2]) (by rw [List.length_replicate, l1]) hp fun m ol => .lst upd_same (by rw [l1]; exact ol))⟩
    · rw [if_neg hl] at q; exact q.elim
  | err c => rw [hm] at q; exact q.elim
  | bad => rw [hm] at q; exact q.elim
theorem mq_tup {x1 : Nat} (h : MQA X W shs rshs es mr) : MQ X W shs (.tup rshs) (.Tuple es x1 pos) (qTup mr) := by
  obtain ⟨t, a, b⟩ := h
  refine ⟨_, pe_tup a, fun M B0 H0 ks B H σ env P pv pd Q r q => b M B0 H0 ks B H σ env P pv pd _ r ?_⟩
  unfold qTup at q
  cases hm : mr env with
  | ok p =>
    obtain ⟨ds, env1⟩ := p
    rw [hm] at q
    intro vs B1 H1 l1 l2 r1
    simp only [R.bind] at q
    by_cases hl : ds.length ≤ 100000
    · rw [if_pos hl] at q
      exact ⟨by rw [l2, ← l1]; exact line1 hl, fun p hp => q _ _ _ (RQ.tuple r1 l2.symm l1.symm hp)⟩
    · rw [if_neg hl] at q; exact q.elim
  | err c => rw [hm] at q; exact q.elim
  | bad => rw [hm] at q; exact q.elim
theorem mq_move (i : Nat) {x : Str} (hs : shs[i]? = some rsh) (hN : X.N[i]? = some x := by rfl) (hv : Vis X.env.scope x := by first | exact Or.inl rfl | exact Or.inr (Or.inl rfl) | exact Or.inr (Or.inr rfl)) (hd : (x == ("__debug__" : Str)) = false := by decide)
    (hcd : (x == ("__classdict__" : Str)) = false := by decide) : MQ X W shs rsh (.Name x pos) (qMove shs rsh i) := by
  refine ⟨_, pe_var (i := i) hN hv hd hcd, fun M B0 H0 ks B H σ env P pv pd Q r q => ?_⟩
  unfold qMove at q
  split at q
  · next d he =>
    obtain ⟨v, h1, h2⟩ := r.move he hs
    exact ⟨v, h1, q v B H h2⟩
  · exact q.elim
theorem mq_dnew {f : List (Str × Sh)} : MQ X W shs (.dct f) (.Dict [] [] pos) (fun env => .ok (.dct [], env)) := by
  refine ⟨_, pe_dnewK, fun M B0 H0 ks B H σ env P pv pd Q r q p hp => ?_⟩
  refine q _ _ _ (r.fresh (Kq.lay r.kq.inB hp) (.dct (xs := []) upd_same rfl .nil) (by simp) fun a ha => ?_)
  rw [List.mem_singleton.mp ha]
  exact ⟨List.mem_cons_self, hp⟩
theorem mq_list {x : Pos} (hg : Gl X "list") (hm : X.mg "list" = none) (he : MN X W shs e m) (hs : starEach [e] X.env = (false, eval e X.env) :: starEach [] X.env := by rfl) : MQ X W shs (.lst .pl) (.Call (.Name "list" x) [e] [] pos) (qList m) := by
  obtain ⟨t, a, b⟩ := he
  refine ⟨_, pe_callTy call_list_of hg hm (by decide +kernel) (pa_cons a pa_nil hs) (he := hs), fun M B0 H0 ks B H σ env P pv pd Q r q => b M B0 H0 ks B H σ env P pv pd _ r ?_⟩
  unfold qList at q
  cases hm2 : m env with
  | ok d =>
    rw [hm2] at q
    intro v H1 kx rp
    simp only [R.bind] at q
    have r1 := r.mono kx
    split at q
    · next ds hd =>
      obtain ⟨p, xs, rfl, hq, ra⟩ := Rp0.seq rp hd
      have hq' : SqL X.K H1 p xs ∨ SqT X.K H1 p xs := hq
      refine ⟨p, xs, rfl, hq', fun l hl => q _ _ _ (r1.fresh (Kq.lay r1.kq.inB hl) (.lst upd_same (OwL.plain (ra.mono (Kq.lay r1.kq.inB hl).ex))) (by simp) fun a ha => ?_)⟩
      rw [List.mem_singleton.mp ha]
      exact ⟨List.mem_cons_self, hl⟩
    · exact q.elim
  | err c => rw [hm2] at q; exact q.elim
  | bad => rw [hm2] at q; exact q.elim
theorem rpd_keys {K : PySem.W.Frag} {H : Hp} : ∀ {xs : List (Key × V)} {kvs : List (Str × D)}, RpD0 K H xs kvs → (xs.map fun q => q.1) = (kvs.map fun q => (Sum.inr q.1 : Key)) ∧ RpA0 K H (xs.map fun q => q.2) (kvs.map fun q => q.2)
  | _, _, .nil => ⟨rfl, .nil⟩
  | _, _, .cons h r => ⟨by simp only [List.map_cons, (rpd_keys r).1], .cons h (rpd_keys r).2⟩
theorem at_nil (k : Str) : Sh.at [] k = .pl := rfl
theorem owl_nil {K : PySem.W.Frag} {B : List Addr} {H : Hp} {kvs : List (Str × D)} {vs : List V} (r : RpA K B H vs (kvs.map fun q => q.2)) : OwL K B H (kvs.map fun q => Sh.at [] q.1) [] vs (kvs.map fun q => q.2) := by
  have e : (kvs.map fun q => Sh.at [] q.1) = List.replicate (kvs.map fun q => q.2).length .pl := by
    rw [List.length_map]
    clear r
    induction kvs with
    | nil => rfl
    | cons a t ih => rw [List.map_cons, List.length_cons, List.replicate_succ, at_nil, ih]
  rw [e]
  exact OwL.plain r
theorem mq_dict {x : Pos} (hg : Gl X "dict") (hm : X.mg "dict" = none) (he : MN X W shs e m) (hs : starEach [e] X.env = (false, eval e X.env) :: starEach [] X.env := by rfl) : MQ X W shs (.dct []) (.Call (.Name "dict" x) [e] [] pos) (qDict m) := by
  obtain ⟨t, a, b⟩ := he
  refine ⟨_, pe_callTy call_dictD hg hm (by decide +kernel) (pa_cons a pa_nil hs) (he := hs), fun M B0 H0 ks B H σ env P pv pd Q r q => b M B0 H0 ks B H σ env P pv pd _ r ?_⟩
  unfold qDict at q
  cases hm2 : m env with
  | ok d =>
    rw [hm2] at q
    intro v H1 kx rp
    simp only [R.bind] at q
    have r1 := r.mono kx
    split at q
    · next kvs =>
      cases rp with
      | dct hp rd =>
        refine ⟨_, _, rfl, .inl (hid_some hp), fun l hl => q _ _ _ (r1.fresh (Kq.lay r1.kq.inB hl) (.dct upd_same (rpd_keys rd).1 (owl_nil ((rpd_keys rd).2.mono (Kq.lay r1.kq.inB hl).ex))) (by simp) fun a ha => ?_)⟩
        rw [List.mem_singleton.mp ha]
        exact ⟨List.mem_cons_self, hl⟩
    · exact q.elim
  | err c => rw [hm2] at q; exact q.elim
  | bad => rw [hm2] at q; exact q.elim
/-! displays of dicts -/
def EvQP (K : PySem.W.Frag) (shs rshs : List Sh) (kl : List Str) (trs : List (TE × TE)) (m : Sl → R (List D × Sl)) : Prop := ∀ (M B0 : List Addr) (H0 : Hp) (ks : List (List Addr × Hp)) (B : List Addr) (H : Hp) (σ : L2.St) (env : Sl) (P : List Sh) (pv : List V) (pd : List D) (Q : List (V × V) → Hp → Prop), RQ K M B0 H0 ks B H shs σ env P pv pd →
  PoQA K M B0 H0 ks shs σ P pv pd rshs (fun vs H' => vs.length = kl.length → Q ((kl.map V.str).zip vs) H') (m env) → tPairs trs σ H Q
def MQP (X : Cx) (W : WX) (shs rshs : List Sh) (pos : Pos) (keys : List (Option Expr)) (values : List Expr) (kl : List Str) (m : Sl → R (List D × Sl)) : Prop := rshs.length = kl.length ∧ ∃ trs, PPs X pos keys values trs ∧ EvQP X.K shs rshs kl trs m
theorem mqp_nil : MQP X W shs [] pos [] [] [] qNil := ⟨rfl, [], pps_nil, fun M B0 H0 ks B H σ env P pv pd Q r q => q [] B H rfl rfl (by simpa only [List.append_nil] using r) rfl⟩
theorem mqp_cons {keys : List (Option Expr)} {values : List Expr} {kl : List Str} {k : Str} {j : Nat} {kp : Pos} (he : MQ X W shs rsh e mq) (hr : MQP X W shs rshs pos keys values kl mr) : MQP X W shs (rsh :: rshs) pos (some (.Constant (.str k) j kp) :: keys) (e :: values) (k :: kl) (qCons mq mr) := by
  obtain ⟨t, h1, h2⟩ := he
  obtain ⟨hl, trs, k1, k2⟩ := hr
  refine ⟨by simp [hl], _, pps_cons pe_str h1 k1, fun M B0 H0 ks B H σ env P pv pd Q r q => ?_⟩
  show t σ H fun y H2 => tPairs trs σ H2 fun ps H3 => Q ((V.str k, y) :: ps) H3
  refine h2 M B0 H0 ks B H σ env P pv pd _ r ?_
  unfold qCons at q
  cases hm : mq env with
  | ok p =>
    obtain ⟨d, env1⟩ := p
    rw [hm] at q
    intro v B1 H1 r1
    refine k2 M B0 H0 ks B1 H1 σ env1 _ _ _ _ r1 ?_
    simp only [R.bind] at q
    cases hr : mr env1 with
    | ok p2 =>
      obtain ⟨ds, env2⟩ := p2
      rw [hr] at q
      intro vs B2 H2 l1 l2 r2 l3
      refine q (v :: vs) B2 H2 (by simp [l1]) (by simp [l2]) (by simpa only [List.append_assoc, List.singleton_append] using r2) (by simp [l3])
    | err c => rw [hr] at q; exact q.elim
    | bad => rw [hr] at q; exact q.elim
  | err c => rw [hm] at q; exact q.elim
  | bad => rw [hm] at q; exact q.elim
theorem zip_keys : ∀ {ks : List Str} {vs : List V} {ds : List D}, vs.length = ks.length → ds.length = ks.length →
    (((ks.map fun k => (Sum.inr k : Key)).zip vs).map fun q => q.1) = ((ks.zip ds).map fun q => (Sum.inr q.1 : Key)) ∧ (((ks.map fun k => (Sum.inr k : Key)).zip vs).map fun q => q.2) = vs ∧ ((ks.zip ds).map fun q => q.2) = ds ∧ ((ks.zip ds).map fun q => q.1) = ks
  | [], [], [], _, _ => ⟨rfl, rfl, rfl, rfl⟩
  | k :: ks, v :: vs, d :: ds, h1, h2 => by
    obtain ⟨a, b, c, e⟩ := zip_keys (ks := ks) (vs := vs) (ds := ds) (by simpa using h1) (by simpa using h2)
    simp only [List.map_cons, List.zip_cons_cons, a, b, c, e, and_self]
theorem merge_new {ks : List Str} {vs : List V} (nd : ks.Nodup) (hl : vs.length = ks.length) : mergeK [] ((ks.map fun k => (Sum.inr k : Key)).zip vs) = (ks.map fun k => (Sum.inr k : Key)).zip vs := by
  have := mergeK_new ((ks.map fun k => (Sum.inr k : Key)).zip vs) [] (fun p hp => by
    have := (List.of_mem_zip hp).1
    obtain ⟨k, _, e⟩ := List.mem_map.mp this
    exact ⟨k, e.symm⟩) (by
    have e := (zip_keys (ks := ks) (vs := vs) (ds := List.replicate ks.length .non) hl (by simp)).1
    rw [List.nil_append]
    show ((((ks.map fun k => (Sum.inr k : Key)).zip vs).map fun q => q.1)).Nodup
    rw [e]
    have e2 := (zip_keys (ks := ks) (vs := vs) (ds := List.replicate ks.length .non) hl (by simp)).2.2.2
    have : ((ks.zip (List.replicate ks.length D.non)).map fun q => (Sum.inr q.1 : Key)) = ks.map fun k => (Sum.inr k : Key) := by
      have := congrArg (List.map (fun k => (Sum.inr k : Key))) e2
      simpa [List.map_map, Function.comp_def] using this
    rw [this]
    exact List.Pairwise.map _ (fun a b h z => h (Sum.inr.inj z)) nd)
  rw [List.nil_append] at this
  exact this
theorem mq_disp {f : List (Str × Sh)} {keys : List (Option Expr)} {values : List Expr} {kl : List Str} (hr : MQP X W shs rshs pos keys values kl mr) (hf : rshs = kl.map (Sh.at f)) (nd : kl.Nodup) (h15 : kl.length ≤ 15) (hall : keys.all (·.isSome) = true) (hl : keys.length = values.length) (h0 : keys ≠ []) (h16 : keys.length ≤ 15) : MQ X W shs (.dct f) (.Dict keys values pos) (qDct kl mr) := by
  obtain ⟨hlen, trs, k1, k2⟩ := hr
  refine ⟨_, pe_disp k1 hall hl h0 h16, fun M B0 H0 ks B H σ env P pv pd Q r q p hp => ?_⟩
  have r0 : RQ X.K M B0 H0 ks (p :: B) (upd H p (.dK [])) shs σ env (P ++ [.dct f]) (pv ++ [.ref p]) (pd ++ [.dct []]) := r.fresh (Kq.lay r.kq.inB hp) (.dct (xs := []) upd_same rfl .nil) (by simp) fun a ha => by
    rw [List.mem_singleton.mp ha]
    exact ⟨List.mem_cons_self, hp⟩
  refine k2 M B0 H0 ks _ _ σ env _ _ _ _ r0 ?_
  unfold qDct at q
  cases hm : mr env with
  | ok pp =>
    obtain ⟨ds, env1⟩ := pp
    rw [hm] at q
    intro vs B1 H1 l1 l2 r1 l3
    simp only [R.bind] at q
    have r2 : RQ X.K M B0 H0 ks B1 H1 shs σ env1 (P ++ (.dct f :: rshs)) (pv ++ (.ref p :: vs)) (pd ++ (.dct [] :: ds)) := by simpa only [List.append_assoc, List.singleton_append] using r1
    obtain ⟨m, a1, a2, a3, a4, _⟩ := r2.pend (by simp [l2]) (by simp [l1])
    cases a1 with
    | @cons _ fp fps _ _ _ _ _ b1 b2 =>
      cases b1 with
      | @dct _ _ fps0 xs _ hp1 hk ol =>
        have hx : xs = [] := by
          cases xs with
          | nil => rfl
          | cons y ys => cases hk
        subst hx
        have e0 : fps0 = [] := by
          have ol' : OwL X.K B1 H1 [] fps0 [] [] := ol
          cases ol'
          rfl
        subst e0
        have ld : ds.length = kl.length := by rw [l1, hlen]
        have zk := zip_keys (ks := kl) (vs := vs) (ds := ds) l3 ld
        refine ⟨hp1, (kl.map fun k => (Sum.inr k : Key)).zip vs, ?_, ?_, ?_⟩
        · have : ∀ (ks : List Str) (vs : List V), (ks.map V.str).zip vs = ((ks.map fun k => (Sum.inr k : Key)).zip vs).map fun kv => (kV kv.1, kv.2) := by
            intro ks
            induction ks with
            | nil => intro vs; rfl
            | cons k ks ih => intro vs; cases vs with
              | nil => rfl
              | cons v vs => simp only [List.map_cons, List.zip_cons_cons, ih]; rfl
          exact this kl vs
        · rw [List.length_zip, List.length_map]
          omega
        · have hpB : p ∈ B1 := (a3 p (by simp)).1
          have nd2 : p ∉ fps := by
            have := a2
            simp only [List.singleton_append, List.nodup_cons] at this
            exact this.1
          have k : Kq [p] B1 H1 B1 (upd H1 p (.dK (mergeK [] ((kl.map fun k => (Sum.inr k : Key)).zip vs)))) := Kq.put r1.kq.inB hpB
          refine q _ B1 _ (a4 B1 _ (p :: fps) [.dct f] [.ref p] [.dct (kl.zip ds)] (k.more (fun x hx => by rw [List.mem_singleton.mp hx]; simp) fun x hx => (a3 x hx).1) (OwL.one (.dct upd_same ?_ ?_)) (by simpa using a2) fun a ha => ?_)
          · rw [merge_new nd l3]
            exact zk.1
          · have k' := k
            rw [merge_new nd l3] at k' ⊢
            rw [zk.2.1, zk.2.2.1]
            have e1 : ((kl.zip ds).map fun q => Sh.at f q.1) = rshs := by
              rw [hf]
              have := congrArg (List.map (Sh.at f)) zk.2.2.2
              simpa [List.map_map, Function.comp_def] using this
            rw [e1]
            exact b2.mono k'.ex fun a ha => upd_ne (fun z => nd2 (z ▸ ha))
          · exact ⟨(a3 a (by simpa using ha)).1, .inl (by simpa using ha)⟩
  | err c => rw [hm] at q; exact q.elim
  | bad => rw [hm] at q; exact q.elim
end
end Ask
namespace Ask
open PySem L2 Evl
/-! ### promises -/
/-- one argument is changed (the first, or the last); something new comes back -/
def spQ (K : PySem.W.Frag) (last : Bool) (sh rsh : Sh) (n : Nat) (m : D → List D → R (D × D)) : Sp := fun vs H Q _ => ∃ (B fp : List Addr) (v0 : V) (d0 : D) (vs' : List V) (ds : List D), InB B H ∧ vs = (if last = true then vs' ++ [v0] else v0 :: vs') ∧ ds.length = n ∧ Ow K B H sh fp v0 d0 ∧ fp.Nodup ∧ (∀ a ∈ fp, a ∈ B) ∧ RpA K B H vs' ds ∧
  match m d0 ds with
  | .ok (d, d0') => ∀ v H' B' fp' fr, Kq fp B H B' H' → Ow K B' H' sh fp' v0 d0' → Ow K B' H' rsh fr v d → (fp' ++ fr).Nodup → (∀ a ∈ fp' ++ fr, a ∈ B' ∧ (a ∈ fp ∨ H a = none)) → Q v H'
  | _ => False
/-- something new comes back -/
def spR (K : PySem.W.Frag) (rsh : Sh) (n : Nat) (m : List D → R D) : Sp := fun vs H Q _ => ∃ (B : List Addr) (ds : List D), InB B H ∧ ds.length = n ∧ RpA K B H vs ds ∧
  match m ds with
  | .ok d => ∀ v H' B' fr, Kq [] B H B' H' → Ow K B' H' rsh fr v d → fr.Nodup → (∀ a ∈ fr, a ∈ B' ∧ H a = none) → Q v H'
  | _ => False
def noErr {α : Type} : R α → R α
  | .ok a => .ok a
  | _ => .bad
section
variable (P : Program) (w : World) (K : PySem.W.Frag) (mg : Str → Option Value) (base : Heap)
def FnQ (x : Str) (k : Nat) (sh rsh : Sh) (n : Nat) (m : D → List D → R (D × D)) : Prop :=
  ∃ (f : Addr) (fd : FuncData) (ps : List Str), ps.length = n + 1 ∧ mg x = some (.ref f) ∧ PySem.W.keepIn K (.ref f) = true ∧ Binds K fd ps [] ∧ FnOk P w K mg base (L2.CX P w) k f fd ps (spQ K true sh rsh n m)
def FnF (x : Str) (k : Nat) (rsh : Sh) (n : Nat) (m : List D → R D) : Prop :=
  ∃ (f : Addr) (fd : FuncData) (ps : List Str), ps.length = n ∧ mg x = some (.ref f) ∧ PySem.W.keepIn K (.ref f) = true ∧ Binds K fd ps [] ∧ FnOk P w K mg base (L2.CX P w) k f fd ps (spR K rsh n m)
def MtQ (C : Addr) (x : Str) (k : Nat) (sh rsh : Sh) (n : Nat) (m : D → List D → R (D × D)) : Prop :=
  ∃ (f : Addr) (fd : FuncData) (ps : List Str), ps.length = n + 1 ∧ Meth K C x f ∧ Binds K fd ps [] ∧ FnOk P w K mg base (L2.CX P w) k f fd ps (spQ K false sh rsh n m)
end
section
variable {P : Program} {w : World} {K : PySem.W.Frag} {mg : Str → Option Value} {base : Heap} {x : Str} {j k n : Nat} {sh rsh : Sh}
theorem FnQ.mono {m : D → List D → R (D × D)} (F : FnQ P w K mg base x j sh rsh n m) (h : j ≤ k) : FnQ P w K mg base x k sh rsh n m := by
  obtain ⟨f, fd, ps, hl, h1, h2, h3, h4⟩ := F
  exact ⟨f, fd, ps, hl, h1, h2, h3, h4.mono h⟩
theorem MtQ.mono {C : Addr} {m : D → List D → R (D × D)} (F : MtQ P w K mg base C x j sh rsh n m) (h : j ≤ k) : MtQ P w K mg base C x k sh rsh n m := by
  obtain ⟨f, fd, ps, hl, h1, h2, h3⟩ := F
  exact ⟨f, fd, ps, hl, h1, h2, h3.mono h⟩
theorem FnF.mono {m : List D → R D} (F : FnF P w K mg base x j rsh n m) (h : j ≤ k) : FnF P w K mg base x k rsh n m := by
  obtain ⟨f, fd, ps, hl, h1, h2, h3, h4⟩ := F
  exact ⟨f, fd, ps, hl, h1, h2, h3, h4.mono h⟩
theorem Kq.kx {B B' : List Addr} {H H' : Hp} (k : Kq [] B H B' H') : Kx B H H' := ⟨fun a o h => k.keep a o h (fun z => by cases z), k.inB0⟩
/-- what is new is forgotten to be so -/
theorem FnF.plain {m : List D → R D} (F : FnF P w K mg base x k rsh n m) : FnI P w K mg base x k n (fun ds => noErr (m ds)) := by
  obtain ⟨f, fd, ps, hl, h1, h2, h3, h4⟩ := F
  refine ⟨f, fd, ps, hl, h1, h2, h3, h4.imp fun vs H Q E ⟨B, ds, hB, hn, ra, q⟩ => ⟨B, ds, hB, hn, ra, ?_⟩⟩
  have q : Po (Rp K) mg (fun cls d _ H' => E cls d H') [] B H Q (noErr (m ds)) := q
  cases hm : m ds with
  | ok d =>
    rw [hm] at q
    exact fun v H' B' fr kq o nd hf => q v H' kq.kx (o.open_ kq.sub fun a ha z => hB a z (hf a ha).2)
  | err c => rw [hm] at q; exact q.elim
  | bad => rw [hm] at q; exact q.elim
end
/-! ### calls -/
def MQO (X : Cx) (W : WX) (shs : List Sh) (i n : Nat) (es : List Expr) (m : Sl → R (List D × Sl)) : Prop := ∃ ta, PA X es ta ∧ ∀ (M B0 : List Addr) (H0 : Hp) (ks : List (List Addr × Hp)) (B : List Addr) (H : Hp) (σ : L2.St) (env : Sl) (P : List Sh) (pv : List V) (pd : List D) (Q : List V → Hp → Prop), RQ X.K M B0 H0 ks B H shs σ env P pv pd →
  (match m env with
  | .ok (ds, env') => ∀ r vs B' H', σ[i]? = some (some r) → ds.length = n → vs.length = n → RQ X.K M B0 H0 ks B' H' shs σ env' (P ++ List.replicate n .pl) (pv ++ vs) (pd ++ ds) → Q (vs ++ [r]) H'
  | _ => False) → ta σ H Q
def ownL (i : Nat) : Sl → R (List D × Sl) := fun env => match env[i]? with
  | some (some _) => .ok ([], env)
  | _ => .bad
def qCall (n : Nat) (f : List D → R D) (m : Sl → R (List D × Sl)) : Sl → R (D × Sl) := fun env => (m env).bind fun p => if p.1.length = n then (noErr (f p.1)).bind fun d => .ok (d, p.2) else .bad
def qCallO (i n : Nat) (f : D → List D → R (D × D)) (m : Sl → R (List D × Sl)) : Sl → R (D × Sl) := fun env => (m env).bind fun p => match p.2[i]? with
  | some (some d0) => (noErr (f d0 p.1)).bind fun q => .ok (q.1, p.2.set i (some q.2))
  | _ => .bad
def insM (C : Str) (x : Str) (f : List (Str × D) → R (D × Sl)) : D → R (D × Sl)
  | .ins C' kvs => if C' = C then match kvs.lookup x with
    | none => f kvs
    | some _ => .bad else .bad
  | _ => .bad
def qMeth (C : Str) (x : Str) (i n : Nat) (f : D → List D → R (D × D)) (m : Sl → R (List D × Sl)) : Sl → R (D × Sl) := fun env => match env[i]? with
  | some (some d) => insM C x (fun _ => (m env).bind fun p => match p.2[i]? with
    | some (some d0) => (noErr (f d0 p.1)).bind fun q => .ok (q.1, p.2.set i (some q.2))
    | _ => .bad) d
  | _ => .bad
def qMethL (C : Str) (x : Str) (i n : Nat) (sm : Sl → R (Option Stp)) (f : D → List D → R (D × D)) (m : Sl → R (List D)) : Sl → R (D × Sl) := fun env => (sm env).bind fun s => match env[i]?, s with
  | some (some (.lst ds)), some (.idx k) => match ds[k]? with
    | some c => insM C x (fun _ => (m env).bind fun as => if as.length = n then (noErr (f c as)).bind fun q => .ok (q.1, env.set i (some (.lst (ds.set k q.2)))) else .bad) c
    | none => .bad
  | _, _ => .bad
def qMake (C : Str) (n : Nat) (f : D → List D → R (D × D)) (m : Sl → R (List D × Sl)) : Sl → R (D × Sl) := fun env => (m env).bind fun p => if p.1.length = n then (noErr (f (.ins C []) p.1)).bind fun q => match q.1 with
  | .non => .ok (q.2, p.2)
  | _ => .bad else .bad
abbrev E0 : XK := fun _ _ _ => False
theorem passE0 {X : Cx} : Passes (L2.CX X.prog X.w) X E0 := fun pins σ H s e s' I h => by
  obtain ⟨a, B, H', cls, d, _, _, _, _, _, _, _, hE⟩ := h
  exact hE.elim
section
variable {X : Cx} {W : WX} {shs rshs : List Sh} {rsh sh s1 : Sh} {a b c e o : Expr} {es : List Expr} {m ma mb : Sl → R D} {mq mq2 : Sl → R (D × Sl)} {mr : Sl → R (List D × Sl)} {pos p2 apos : Pos} {n k i : Nat}
theorem noErr_ok {α : Type} {x : R α} {a : α} (h : noErr x = .ok a) : x = .ok a := by
  cases x <;> first | (cases h; done) | exact h
theorem mqo_last (i : Nat) {x : Str} (hN : X.N[i]? = some x := by rfl) (hv : Vis X.env.scope x := by first | exact Or.inl rfl | exact Or.inr (Or.inl rfl) | exact Or.inr (Or.inr rfl)) (hd : (x == ("__debug__" : Str)) = false := by decide)
    (hcd : (x == ("__classdict__" : Str)) = false := by decide) (hs : starEach [.Name x pos] X.env = (false, eval (.Name x pos) X.env) :: starEach [] X.env := by rfl) : MQO X W shs i 0 [.Name x pos] (ownL i) := by
  refine ⟨_, pa_cons (pe_var (i := i) hN hv hd hcd) pa_nil hs, fun M B0 H0 ks B H σ env P pv pd Q r q => ?_⟩
  unfold ownL at q
  split at q
  · next ds env' h =>
    split at h
    · next d he =>
      cases h
      obtain ⟨sh, v, fp, _, h2, _⟩ := r.at he
      exact ⟨v, h2, q v [] B H h2 rfl rfl (by simpa only [List.append_nil, List.replicate] using r)⟩
    · cases h
  · exact q.elim
theorem mqo_cons (h : MQ X W shs .pl e mq) (k : MQO X W shs i n es mr) (hs : starEach (e :: es) X.env = (false, eval e X.env) :: starEach es X.env := by rfl) : MQO X W shs i (n + 1) (e :: es) (qCons mq mr) := by
  obtain ⟨t, a1, a2⟩ := h
  obtain ⟨u, b1, b2⟩ := k
  refine ⟨_, pa_cons a1 b1 hs, fun M B0 H0 ks B H σ env P pv pd Q r q => a2 M B0 H0 ks B H σ env P pv pd _ r ?_⟩
  unfold qCons at q
  cases hm : mq env with
  | ok p =>
    obtain ⟨d, env1⟩ := p
    rw [hm] at q
    intro v B1 H1 r1
    refine b2 M B0 H0 ks B1 H1 σ env1 _ _ _ _ r1 ?_
    simp only [R.bind] at q
    cases hr : mr env1 with
    | ok p2 =>
      obtain ⟨ds, env2⟩ := p2
      rw [hr] at q
      intro rv vs B2 H2 l0 l1 l2 r2
      refine q rv (v :: vs) B2 H2 l0 (by simp [l1]) (by simp [l2]) ?_
      simpa only [List.append_assoc, List.singleton_append, List.replicate_succ] using r2
    | err c => rw [hr] at q; exact q.elim
    | bad => rw [hr] at q; exact q.elim
  | err c => rw [hm] at q; exact q.elim
  | bad => rw [hm] at q; exact q.elim
theorem mq_call {x : Str} {p : Pos} {f : List D → R D} (F : FnI X.prog X.w X.K X.mg X.base x k n f) (hr : Room k X.A) (hg : Gl X x)
    (ha : MQA X W shs (List.replicate n .pl) (e :: es) mr) (hdb : (x == ("__debug__" : Str)) = false := by decide) (he : starEach (e :: es) X.env = (false, eval e X.env) :: starEach es X.env := by rfl) (hpl : (backTo pos (starEach es X.env)).any (·.1) = false := by rfl) :
    MQ X W shs .pl (.Call (.Name x p) (e :: es) [] pos) (qCall n f mr) := by
  obtain ⟨g, fd, ps, hl, hm, hk, hb, G⟩ := F
  obtain ⟨ta, a1, a2⟩ := ha
  refine ⟨_, pe_call G hr hg hm hk hb .nil (passE0 (X := X)) a1 hdb he hpl, fun M B0 H0 ks B H σ env P pv pd Q r q => a2 M B0 H0 ks B H σ env P pv pd _ r ?_⟩
  unfold qCall at q
  cases hm2 : mr env with
  | ok pp =>
    obtain ⟨ds, env1⟩ := pp
    rw [hm2] at q
    intro vs B1 H1 l1 l2 r1
    rw [List.length_replicate] at l1 l2
    simp only [R.bind] at q
    rw [if_pos l1] at q
    obtain ⟨ra, r2⟩ := r1.plain l2 l1
    rw [List.append_nil]
    refine ⟨B1, ds, r1.kq.inB, l1, ra, ?_⟩
    cases hf : f ds with
    | ok d =>
      rw [hf] at q
      exact fun v H' kx rv => q v B1 H' ((r2.mono kx).push rv)
    | err c => rw [hf] at q; exact q.elim
    | bad => rw [hf] at q; exact q.elim
  | err c => rw [hm2] at q; exact q.elim
  | bad => rw [hm2] at q; exact q.elim
theorem mq_callF {x : Str} {p : Pos} {f : List D → R D} (F : FnF X.prog X.w X.K X.mg X.base x k rsh n f) (hr : Room k X.A) (hg : Gl X x)
    (ha : MQA X W shs (List.replicate n .pl) (e :: es) mr) (hdb : (x == ("__debug__" : Str)) = false := by decide) (he : starEach (e :: es) X.env = (false, eval e X.env) :: starEach es X.env := by rfl) (hpl : (backTo pos (starEach es X.env)).any (·.1) = false := by rfl) :
    MQ X W shs rsh (.Call (.Name x p) (e :: es) [] pos) (qCall n f mr) := by
  obtain ⟨g, fd, ps, hl, hm, hk, hb, G⟩ := F
  obtain ⟨ta, a1, a2⟩ := ha
  refine ⟨_, pe_call G hr hg hm hk hb .nil (passE0 (X := X)) a1 hdb he hpl, fun M B0 H0 ks B H σ env P pv pd Q r q => a2 M B0 H0 ks B H σ env P pv pd _ r ?_⟩
  unfold qCall at q
  cases hm2 : mr env with
  | ok pp =>
    obtain ⟨ds, env1⟩ := pp
    rw [hm2] at q
    intro vs B1 H1 l1 l2 r1
    rw [List.length_replicate] at l1 l2
    simp only [R.bind] at q
    rw [if_pos l1] at q
    obtain ⟨ra, r2⟩ := r1.plain l2 l1
    rw [List.append_nil]
    refine ⟨B1, ds, r1.kq.inB, l1, ra, ?_⟩
    cases hf : f ds with
    | ok d =>
      rw [hf] at q
      exact fun v H' B' fr kq o nd hfr => q v B' H' (r2.fresh kq o nd hfr)
    | err c => rw [hf] at q; exact q.elim
    | bad => rw [hf] at q; exact q.elim
  | err c => rw [hm2] at q; exact q.elim
  | bad => rw [hm2] at q; exact q.elim
theorem chO_none (sh : Sh) (d : D) : chO sh d none = some (sh, d) := by cases sh <;> cases d <;> rfl
theorem chPut_none (d c : D) : chPut d none c = c := by cases d <;> rfl
theorem RQ.slot {K : PySem.W.Frag} {M B0 B : List Addr} {H0 H : Hp} {ks : List (List Addr × Hp)} {σ : L2.St} {env : Sl} {P : List Sh} {pv : List V} {pd : List D} {d : D} {v : V} (h : RQ K M B0 H0 ks B H shs σ env P pv pd) (hi : env[i]? = some (some d)) (hs : shs[i]? = some sh) (hσ : σ[i]? = some (some v)) :
    ∃ m, Ow K B H sh m v d ∧ m.Nodup ∧ (∀ a ∈ m, a ∈ B) ∧
      (∀ (B' : List Addr) (H' : Hp) (m' fr : List Addr) (d'' : D) (rsh : Sh) (vr : V) (dr : D), Kq m B H B' H' → Ow K B' H' sh m' v d'' → Ow K B' H' rsh fr vr dr → (m' ++ fr).Nodup → (∀ a ∈ m' ++ fr, a ∈ B' ∧ (a ∈ m ∨ H a = none)) →
        RQ K M B0 H0 ks B' H' shs σ (env.set i (some d'')) (P ++ [rsh]) (pv ++ [vr]) (pd ++ [dr])) := by
  obtain ⟨m, a1, a2, a3, a4⟩ := h.foc (s := none) hi hs (chO_none sh d) hσ rfl
  refine ⟨m, a1, a2, fun a ha => (a3 a ha).1, fun B' H' m' fr d'' rsh vr dr k o1 o2 nd hf => ?_⟩
  have := a4 B' H' m' fr d'' [rsh] [vr] [dr] k o1 (OwL.one o2) nd hf
  rwa [chPut_none] at this
theorem mq_callO {x : Str} {p : Pos} {f : D → List D → R (D × D)} (hs : shs[i]? = some sh) (F : FnQ X.prog X.w X.K X.mg X.base x k sh rsh n f) (hr : Room k X.A) (hg : Gl X x)
    (ha : MQO X W shs i n (e :: es) mr) (hdb : (x == ("__debug__" : Str)) = false := by decide) (he : starEach (e :: es) X.env = (false, eval e X.env) :: starEach es X.env := by rfl) (hpl : (backTo pos (starEach es X.env)).any (·.1) = false := by rfl) :
    MQ X W shs rsh (.Call (.Name x p) (e :: es) [] pos) (qCallO i n f mr) := by
  obtain ⟨g, fd, ps, hl, hm, hk, hb, G⟩ := F
  obtain ⟨ta, a1, a2⟩ := ha
  refine ⟨_, pe_call G hr hg hm hk hb .nil (passE0 (X := X)) a1 hdb he hpl, fun M B0 H0 ks B H σ env P pv pd Q r q => a2 M B0 H0 ks B H σ env P pv pd _ r ?_⟩
  unfold qCallO at q
  cases hm2 : mr env with
  | ok pp =>
    obtain ⟨ds, env1⟩ := pp
    rw [hm2] at q
    intro rv vs B1 H1 l0 l1 l2 r1
    simp only [R.bind] at q
    obtain ⟨ra, r2⟩ := r1.plain l2 l1
    split at q
    · next d0 hd0 =>
      obtain ⟨mm, o1, nd, hin, back⟩ := r2.slot hd0 hs l0
      rw [List.append_nil]
      refine ⟨B1, mm, rv, d0, vs, ds, r1.kq.inB, rfl, l1, o1, nd, hin, ra, ?_⟩
      cases hf : f d0 ds with
      | ok qq =>
        rw [hf] at q
        exact fun v H' B' fp' fr kq o1 o2 nd' hf' => q v B' H' (back B' H' fp' fr _ _ v _ kq o1 o2 nd' hf')
      | err c => rw [hf] at q; exact q.elim
      | bad => rw [hf] at q; exact q.elim
    · exact q.elim
  | err c => rw [hm2] at q; exact q.elim
  | bad => rw [hm2] at q; exact q.elim
theorem mq_meth {C : Addr} {cc x y : Str} {xp : Pos} {f : D → List D → R (D × D)} {g : List (Str × Sh)} {pl : Sem Bool} (hs : shs[i]? = some (.ins g)) (cn : CN X.K C cc) (c : Cls X.K C) (F : MtQ X.prog X.w X.K X.mg X.base C x k (.ins g) rsh n f) (hr : Room k X.A)
    (hN : X.N[i]? = some y) (hv : Vis X.env.scope y) (ha : MQA X W shs (List.replicate n .pl) (e :: es) mr) (hd : (y == ("__debug__" : Str)) = false := by decide) (hcd : (y == ("__classdict__" : Str)) = false := by decide)
    (hst : starEach (e :: es) X.env = (false, eval e X.env) :: starEach es X.env := by rfl) (hpl : (backTo pos (starEach es X.env)).any (·.1) = false := by rfl)
    (ht : eval (.Call (.Attribute (.Name y xp) x apos) (e :: es) [] pos) X.env = (do
      let ov ← eval (.Name y xp) X.env
      standAt apos.atName
      let (f, first) ← holding [ov] (getMethod ov x pl)
      callWith pos f first (backTo pos (starEach (e :: es) X.env)) (backToKw pos (keywordEach [] X.env))) := by rfl) :
    MQ X W shs rsh (.Call (.Attribute (.Name y xp) x apos) (e :: es) [] pos) (qMeth cc x i n f mr) := by
  obtain ⟨fa, fd, ps, hl, hm, hb, G⟩ := F
  obtain ⟨ta, a1, a2⟩ := ha
  refine ⟨_, pe_meth (pl := pl) (pe_var (i := i) hN hv hd hcd) c hm G hr hb .nil (passE0 (X := X)) a1 hst hpl ht, fun M B0 H0 ks B H σ env P pv pd Q r q => ?_⟩
  unfold qMeth at q
  split at q
  · next d he =>
    obtain ⟨sh0, v, fp0, z1, h2, o0⟩ := r.at he
    rw [hs] at z1
    cases z1
    cases o0 with
    | @ins _ p C' dx cc' fps xs kvs hcn hp hx hk ol =>
      unfold insM at q
      simp only at q
      split at q
      · next hC =>
        subst hC
        have eC := hcn.inj cn
        subst eC
        split at q
        · next hlk =>
          refine ⟨.ref p, h2, p, dx, xs, rfl, hp, lk_N hlk hk, a2 M B0 H0 ks B H σ env P pv pd _ r ?_⟩
          cases hm2 : mr env with
          | ok pp =>
            obtain ⟨ds, env1⟩ := pp
            rw [hm2] at q
            intro vs B1 H1 l1 l2 r1
            rw [List.length_replicate] at l1 l2
            simp only [R.bind] at q
            obtain ⟨ra, r2⟩ := r1.plain l2 l1
            split at q
            · next d0 hd0 =>
              obtain ⟨mm, o1, nd, hin, back⟩ := r2.slot hd0 hs h2
              rw [List.append_nil]
              refine ⟨B1, mm, .ref p, d0, vs, ds, r1.kq.inB, rfl, l1, o1, nd, hin, ra, ?_⟩
              cases hf : f d0 ds with
              | ok qq =>
                rw [hf] at q
                exact fun v H' B' fp' fr kq o1 o2 nd' hf' => q v B' H' (back B' H' fp' fr _ _ v _ kq o1 o2 nd' hf')
              | err c => rw [hf] at q; exact q.elim
              | bad => rw [hf] at q; exact q.elim
            · exact q.elim
          | err c => rw [hm2] at q; exact q.elim
          | bad => rw [hm2] at q; exact q.elim
        · exact q.elim
      · exact q.elim
  · exact q.elim
theorem mq_methL {C : Addr} {cc x : Str} {f : D → List D → R (D × D)} {g : List (Str × Sh)} {pl : Sem Bool} {sm : Sl → R (Option Stp)} {ml : Sl → R (List D)} (hsl : shs[i]? = some (.lst (.ins g))) (cn : CN X.K C cc) (c : Cls X.K C) (F : MtQ X.prog X.w X.K X.mg X.base C x k (.ins g) rsh n f) (hr : Room k X.A)
    (ho : MPl X W shs i o sm) (ha : MNA X W shs (e :: es) ml)
    (hst : starEach (e :: es) X.env = (false, eval e X.env) :: starEach es X.env := by rfl) (hpl : (backTo pos (starEach es X.env)).any (·.1) = false := by rfl)
    (ht : eval (.Call (.Attribute o x apos) (e :: es) [] pos) X.env = (do
      let ov ← eval o X.env
      standAt apos.atName
      let (f, first) ← holding [ov] (getMethod ov x pl)
      callWith pos f first (backTo pos (starEach (e :: es) X.env)) (backToKw pos (keywordEach [] X.env))) := by rfl) :
    MQ X W shs rsh (.Call (.Attribute o x apos) (e :: es) [] pos) (qMethL cc x i n sm f ml) := by
  obtain ⟨fa, fd, ps, hl, hm, hb, G⟩ := F
  obtain ⟨ta, a1, a2⟩ := ha
  obtain ⟨to, o1, o2⟩ := ho
  refine ⟨_, pe_meth (pl := pl) o1 c hm G hr hb .nil (passE0 (X := X)) a1 hst hpl ht, fun M B0 H0 ks B H σ env P pv pd Q r q => o2 M B0 H0 ks B H σ env P pv pd _ r ?_⟩
  unfold qMethL at q
  cases hsm : sm env with
  | ok s =>
    rw [hsm] at q
    simp only [R.bind] at q
    intro v H1 kx fo
    obtain ⟨rv, h2, h3⟩ := fo
    have r1 := r.mono kx
    split at q
    · next ds kk he =>
      split at q
      · next c' hcd =>
        have hc : chO (.lst (.ins g)) (.lst ds) (some (.idx kk)) = some (.ins g, c') := by simp only [chO, hcd, Option.map_some]
        obtain ⟨m1, w1, _⟩ := r1.foc he hsl hc h2 h3
        cases w1 with
        | @ins _ p C' dx cc' fps xs kvs hcn hp hx hk ol =>
          unfold insM at q
          simp only at q
          split at q
          · next hC =>
            subst hC
            have eC := hcn.inj cn
            subst eC
            split at q
            · next hlk =>
              refine ⟨p, dx, xs, rfl, hp, lk_N hlk hk, a2 M B0 H0 ks B H1 σ env P pv pd _ r1 ?_⟩
              cases hm2 : ml env with
              | ok as =>
                rw [hm2] at q
                intro vs H2 kx2 ra
                simp only [R.bind] at q
                have r2 := r1.mono kx2
                split at q
                · next l1 =>
                  obtain ⟨m2, w2, nd, hin, back⟩ := r2.foc he hsl hc h2 (h3.mono kx2.ex)
                  rw [List.append_nil]
                  refine ⟨B, m2, .ref p, _, vs, as, r2.kq.inB, rfl, l1, w2, nd, fun a ha => (hin a ha).1, ra, ?_⟩
                  cases hf : f (.ins cc' kvs) as with
                  | ok qq =>
                    rw [hf] at q
                    exact fun v H' B' fp' fr kq o1 o2 nd' hf' => q v B' H' (back B' H' fp' fr _ [_] [v] [_] kq o1 (OwL.one o2) nd' hf')
                  | err c => rw [hf] at q; exact q.elim
                  | bad => rw [hf] at q; exact q.elim
                · exact q.elim
              | err c => rw [hm2] at q; exact q.elim
              | bad => rw [hm2] at q; exact q.elim
            · exact q.elim
          · exact q.elim
      · exact q.elim
    · exact q.elim
  | err c => rw [hsm] at q; exact q.elim
  | bad => rw [hsm] at q; exact q.elim
theorem mq_make {C f0 : Addr} {cc x : Str} {p : Pos} {f : D → List D → R (D × D)} {g : List (Str × Sh)} {fd : FuncData} {ps : List Str} (cn : CN X.K C cc) (Mkr : Mk X.K C f0) (G : FnOk X.prog X.w X.K X.mg X.base (L2.CX X.prog X.w) k f0 fd ps (spQ X.K false (.ins g) .pl n f)) (hb : Binds X.K fd ps []) (hr : Room (k + 1) X.A) (hg : Gl X x) (hm : X.mg x = some (.ref C))
    (ha : MQA X W shs (List.replicate n .pl) (e :: es) mr) (hdb : (x == ("__debug__" : Str)) = false := by decide) (he : starEach (e :: es) X.env = (false, eval e X.env) :: starEach es X.env := by rfl) (hpl : (backTo pos (starEach es X.env)).any (·.1) = false := by rfl) :
    MQ X W shs (.ins g) (.Call (.Name x p) (e :: es) [] pos) (qMake cc n f mr) := by
  obtain ⟨ta, a1, a2⟩ := ha
  refine ⟨_, pe_make Mkr G hr hg hm hb .nil (passE0 (X := X)) a1 hdb he hpl, fun M B0 H0 ks B H σ env P pv pd Q r q => a2 M B0 H0 ks B H σ env P pv pd _ r ?_⟩
  unfold qMake at q
  cases hm2 : mr env with
  | ok pp =>
    obtain ⟨ds, env1⟩ := pp
    rw [hm2] at q
    intro vs B1 H1 l1 l2 r1
    rw [List.length_replicate] at l1 l2
    simp only [R.bind] at q
    rw [if_pos l1] at q
    obtain ⟨ra, r2⟩ := r1.plain l2 l1
    intro x dx hx hdx hne
    have hB := r1.kq.inB
    have k1 : Kq [] B1 H1 (dx :: B1) (upd H1 dx (.own x)) := Kq.lay hB hdx
    have hx1 : upd H1 dx (.own x) x = none := by rw [upd_ne (Ne.symm hne)]; exact hx
    have k2 : Kq [] (dx :: B1) (upd H1 dx (.own x)) (x :: dx :: B1) (upd (upd H1 dx (.own x)) x (.ins C dx [])) := Kq.lay k1.inB hx1
    have k12 := k1.then_ k2 (fun _ z => by cases z)
    rw [List.append_nil]
    refine ⟨x :: dx :: B1, [x, dx], .ref x, .ins cc [], vs, ds, k2.inB, rfl, l1, .ins (xs := []) cn upd_same (by rw [upd_ne hne]; exact upd_same) rfl .nil, by simp [Ne.symm hne], fun a ha => by simp at ha ⊢; grind, ra.mono k12.ex, ?_⟩
    cases hf : f (.ins cc []) ds with
    | ok qq =>
      obtain ⟨d1, d2⟩ := qq
      rw [hf] at q
      simp only [noErr] at q
      intro v H' B' fp' fr kq o1 o2 nd' hf'
      split at q
      · cases o2 with
        | pl o2 =>
          cases o2
          refine ⟨rfl, q (.ref x) B' H' (r2.fresh (k12.then_ kq (fun a ha => ?_)) o1 (by simpa using nd') fun a ha => ?_)⟩
          · simp at ha
            rcases ha with e | e
            · rw [e]; exact .inr hx
            · rw [e]; exact .inr hdx
          · obtain ⟨z1, z2⟩ := hf' a (by simpa using ha)
            refine ⟨z1, ?_⟩
            rcases z2 with z | z
            · simp at z
              rcases z with e | e
              · rw [e]; exact hx
              · rw [e]; exact hdx
            · exact k12.fresh z
      · exact q.elim
    | err c => rw [hf] at q; exact q.elim
    | bad => rw [hf] at q; exact q.elim
  | err c => rw [hm2] at q; exact q.elim
  | bad => rw [hm2] at q; exact q.elim
theorem mq_makeM {C : Addr} {cc x : Str} {p : Pos} {f : D → List D → R (D × D)} {g : List (Str × Sh)} (cn : CN X.K C cc) (mk : PySem.W.makesIn X.K C = true) (kp : PySem.W.keepIn X.K (.ref C) = true) (F : MtQ X.prog X.w X.K X.mg X.base C "__init__" k (.ins g) .pl n f) (hr : Room (k + 1) X.A) (hg : Gl X x) (hm : X.mg x = some (.ref C))
    (ha : MQA X W shs (List.replicate n .pl) (e :: es) mr) (hdb : (x == ("__debug__" : Str)) = false := by decide) (he : starEach (e :: es) X.env = (false, eval e X.env) :: starEach es X.env := by rfl) (hpl : (backTo pos (starEach es X.env)).any (·.1) = false := by rfl) :
    MQ X W shs (.ins g) (.Call (.Name x p) (e :: es) [] pos) (qMake cc n f mr) := by
  obtain ⟨f0, fd, ps, hl, hm0, hb, G⟩ := F
  exact mq_make cn ⟨mk, hm0.at_, hm0.fn, kp⟩ G hb hr hg hm ha hdb he hpl
end
end Ask
namespace Ask
open PySem L2 Evl
def dropD (kvs : List (Str × D)) (k : Str) : List (Str × D) := kvs.filter fun q => decide (q.1 ≠ k)
def mergeD (kvs more : List (Str × D)) : List (Str × D) := more.foldl (fun acc q => putD acc q.1 q.2) kvs
section
variable {K : PySem.W.Frag} {H : Hp}
theorem RpD0.drop (k : Str) : ∀ {xs : List (Key × V)} {ds : List (Str × D)}, RpD0 K H xs ds → RpD0 K H (dropK xs (Sum.inr k)) (dropD ds k)
  | _, _, .nil => .nil
  | _, _, .cons (k := j) h r => by
    have ih := RpD0.drop k r
    unfold dropK dropD at ih ⊢
    by_cases hj : j = k
    · subst hj
      simpa using ih
    · have e : ¬ ((Sum.inr j : Key) = Sum.inr k) := fun z => hj (Sum.inr.inj z)
      simp only [List.filter_cons, decide_eq_true (show (Sum.inr j : Key) ≠ Sum.inr k from e), decide_eq_true (show j ≠ k from hj), if_true]
      exact .cons h ih
theorem RpD0.merge : ∀ {zs : List (Key × V)} {es : List (Str × D)} {xs : List (Key × V)} {ds : List (Str × D)}, RpD0 K H zs es → RpD0 K H xs ds → RpD0 K H (mergeK xs zs) (mergeD ds es)
  | _, _, _, _, .nil, r => r
  | _, _, xs, ds, .cons (k := k) (v := v) (d := d) (vs := vs) (ds := ds') h q, r => show RpD0 K H (mergeK (putK xs (Sum.inr k) v) vs) (mergeD (putD ds k d) ds') from RpD0.merge q (RpD0.put h r)
end
/-! d.update(e) -/
def rUpdate : V → List V → Hp → VK → Prop := fun x vs H Q => ∃ a b xs zs, x = .ref a ∧ vs = [.ref b] ∧ a ≠ b ∧ H a = some (.dK xs) ∧ H b = some (.dK zs) ∧ xs.length + zs.length ≤ sizeLine ∧ Q .non (upd H a (.dK (mergeK xs zs)))
theorem mt_update {X : Cx} : MtM X "dict.update" rUpdate := by
  intro pins s σ H x vs v us Q I rx rv h
  obtain ⟨a, b, xs, zs, rfl, rfl, hne, hA, hB, hz, q⟩ := h
  cases rx
  obtain ⟨u, rfl, ru⟩ := rv.one
  cases ru
  obtain ⟨z, hd, vs, r, dd⟩ := dk_of I.hok hA
  obtain ⟨z2, hd2, vs2, r2, dd2⟩ := dk_of I.hok hB
  refine call_meetsIn PySem.F.slot_dict_update dd.typeIs PySem.F.entry_dict_update (PySem.F.args_dict_update_2 _ _) (meets_dict_update (mixKind X.prog X.w) a b hne hd2) ⟨vs, vs2, dd, dd2, by rw [← r.length, ← r2.length]; exact hz, fun h' hm _ hs => ?_⟩
  have hl : (mergeK xs zs).length ≤ sizeLine := Nat.le_trans (length_mergeK zs xs) hz
  have he : ∃ q, h'.get? a = some q := let ⟨q, _, _, hq, _⟩ := hm; ⟨q, hq⟩
  exact ⟨.non, _, d_write (t' := s.toks) I (by rw [hA]; exact True.intro) hs he (dk_new hl hd (r2.merge r) hm), rfl, q⟩
section
variable {K : PySem.W.Frag} {M B0 B B' : List Addr} {H0 H H' : Hp} {ks : List (List Addr × Hp)} {σ : L2.St} {env : Sl} {P : List Sh} {pv : List V} {pd : List D} {shs : List Sh} {i : Nat} {d : D} {sh : Sh} {s : Option Stp} {r v : V}
theorem ow_flatL {m : List Addr} {ds : List D} (o : Ow K B H (.lst .pl) m v (.lst ds)) : ∃ p xs, v = .ref p ∧ m = [p] ∧ H p = some (.lst xs) ∧ RpA K B H xs ds := by
  cases o with
  | @lst e p fps xs ds hp ol =>
    obtain ⟨rfl, ra⟩ := OwL.rpa rep_pl ol
    exact ⟨p, xs, rfl, rfl, hp, ra⟩
theorem ow_mkL {p : Addr} {xs : List V} {ds : List D} (hp : H p = some (.lst xs)) (ra : RpA K B H xs ds) : Ow K B H (.lst .pl) [p] (.ref p) (.lst ds) := .lst hp (OwL.plain ra)
theorem ow_flatD {m : List Addr} {kvs : List (Str × D)} (o : Ow K B H (.dct []) m v (.dct kvs)) : ∃ p xs, v = .ref p ∧ m = [p] ∧ H p = some (.dK xs) ∧ RpD0 K (hid B H) xs kvs := by
  cases o with
  | @dct f p fps xs kvs hp hk ol =>
    obtain ⟨rfl, ra⟩ := OwL.rpa (fun s hs => by
      obtain ⟨q, _, e⟩ := List.mem_map.mp hs
      exact e.symm) ol
    exact ⟨p, xs, rfl, rfl, hp, rpd_zip hk ra⟩
theorem ow_mkD {p : Addr} {xs : List (Key × V)} {kvs : List (Str × D)} (hp : H p = some (.dK xs)) (ra : RpD0 K (hid B H) xs kvs) : Ow K B H (.dct []) [p] (.ref p) (.dct kvs) := .dct hp (rpd_keys ra).1 (owl_nil (rpd_keys ra).2)
theorem RQ.flatL {zs : List D} (h : RQ K M B0 H0 ks B H shs σ env P pv pd) (hi : env[i]? = some (some d)) (hs : shs[i]? = some sh) (hc : chO sh d s = some (.lst .pl, .lst zs)) (hσ : σ[i]? = some (some r)) (fo : Foc H r s v) :
    ∃ p xs, v = .ref p ∧ H p = some (.lst xs) ∧ RpA K B H xs zs ∧ ∀ (xs' : List V) (zs' : List D) (ws : List V) (wd : List D), RpA K B H xs' zs' → RpA K B H ws wd → RQ K M B0 H0 ks B (upd H p (.lst xs')) shs σ (env.set i (some (chPut d s (.lst zs')))) (P ++ List.replicate wd.length .pl) (pv ++ ws) (pd ++ wd) := by
  obtain ⟨m, o, nd, mem, back⟩ := h.foc hi hs hc hσ fo
  obtain ⟨p, xs, rfl, rfl, hp, ra⟩ := ow_flatL o
  have hpB := (mem p (List.mem_singleton.mpr rfl)).1
  refine ⟨p, xs, rfl, hp, ra, fun xs' zs' ws wd r1 r2 => ?_⟩
  have k : Kq [p] B H B (upd H p (.lst xs')) := Kq.put h.kq.inB hpB
  exact back B _ [p] [] (.lst zs') _ ws wd k (ow_mkL upd_same (r1.mono k.ex)) (OwL.plain (r2.mono k.ex)) (by simp) fun a ha => by
    rw [List.append_nil] at ha
    rw [List.mem_singleton.mp ha]
    exact ⟨hpB, .inl (List.mem_singleton.mpr rfl)⟩
theorem RQ.flatD {kvs : List (Str × D)} (h : RQ K M B0 H0 ks B H shs σ env P pv pd) (hi : env[i]? = some (some d)) (hs : shs[i]? = some sh) (hc : chO sh d s = some (.dct [], .dct kvs)) (hσ : σ[i]? = some (some r)) (fo : Foc H r s v) :
    ∃ p xs, v = .ref p ∧ H p = some (.dK xs) ∧ p ∈ B ∧ RpD0 K (hid B H) xs kvs ∧ ∀ (xs' : List (Key × V)) (kvs' : List (Str × D)), RpD0 K (hid B H) xs' kvs' → RQ K M B0 H0 ks B (upd H p (.dK xs')) shs σ (env.set i (some (chPut d s (.dct kvs')))) P pv pd := by
  obtain ⟨m, o, nd, mem, back⟩ := h.foc hi hs hc hσ fo
  obtain ⟨p, xs, rfl, rfl, hp, ra⟩ := ow_flatD o
  have hpB := (mem p (List.mem_singleton.mpr rfl)).1
  refine ⟨p, xs, rfl, hp, hpB, ra, fun xs' kvs' r1 => ?_⟩
  have k : Kq [p] B H B (upd H p (.dK xs')) := Kq.put h.kq.inB hpB
  have := back B _ [p] [] (.dct kvs') [] [] [] k (ow_mkD upd_same (r1.mono k.ex)) .nil (by simp) fun a ha => by
    rw [List.append_nil] at ha
    rw [List.mem_singleton.mp ha]
    exact ⟨hpB, .inl (List.mem_singleton.mpr rfl)⟩
  simpa only [List.append_nil] using this
end
def chUp {α : Type} (shs : List Sh) (i : Nat) (s : Option Stp) (f : Sh → D → R (α × D)) : Sl → R (α × Sl) := fun env => match env[i]?, shs[i]? with
  | some (some d), some sh => match chO sh d s with
    | some (sh', c) => (f sh' c).bind fun p => .ok (p.1, env.set i (some (chPut d s p.2)))
    | none => .bad
  | _, _ => .bad
def onL {α : Type} (f : List D → R (α × List D)) : Sh → D → R (α × D)
  | .lst .pl, .lst zs => (f zs).bind fun p => .ok (p.1, .lst p.2)
  | _, _ => .bad
def onD {α : Type} (f : List (Str × D) → R (α × List (Str × D))) : Sh → D → R (α × D)
  | .dct [], .dct kvs => (f kvs).bind fun p => .ok (p.1, .dct p.2)
  | _, _ => .bad
theorem onL_ok {α : Type} {f : List D → R (α × List D)} {sh : Sh} {c : D} {p : α × D} (h : onL f sh c = .ok p) : ∃ zs a zs', sh = .lst .pl ∧ c = .lst zs ∧ f zs = .ok (a, zs') ∧ p = (a, .lst zs') := by
  unfold onL at h
  split at h
  · next zs =>
    cases hf : f zs with
    | ok q => rw [hf] at h; cases h; exact ⟨zs, q.1, q.2, rfl, rfl, hf, rfl⟩
    | err c => rw [hf] at h; cases h
    | bad => rw [hf] at h; cases h
  · cases h
theorem onD_ok {α : Type} {f : List (Str × D) → R (α × List (Str × D))} {sh : Sh} {c : D} {p : α × D} (h : onD f sh c = .ok p) : ∃ zs a zs', sh = .dct [] ∧ c = .dct zs ∧ f zs = .ok (a, zs') ∧ p = (a, .dct zs') := by
  unfold onD at h
  split at h
  · next zs =>
    cases hf : f zs with
    | ok q => rw [hf] at h; cases h; exact ⟨zs, q.1, q.2, rfl, rfl, hf, rfl⟩
    | err c => rw [hf] at h; cases h
    | bad => rw [hf] at h; cases h
  · cases h
theorem chUp_ok {α : Type} {shs : List Sh} {i : Nat} {s : Option Stp} {f : Sh → D → R (α × D)} {env : Sl} {p : α × Sl} (h : chUp shs i s f env = .ok p) : ∃ d sh sh' c a c', env[i]? = some (some d) ∧ shs[i]? = some sh ∧ chO sh d s = some (sh', c) ∧ f sh' c = .ok (a, c') ∧ p = (a, env.set i (some (chPut d s c'))) := by
  unfold chUp at h
  split at h
  · next d sh he hs =>
    split at h
    · next sh' c hc =>
      cases hf : f sh' c with
      | ok q => rw [hf] at h; cases h; exact ⟨d, sh, sh', c, q.1, q.2, he, hs, hc, hf, rfl⟩
      | err c => rw [hf] at h; cases h
      | bad => rw [hf] at h; cases h
    · cases h
  · cases h
def popF : List D → R (D × List D) := fun zs => match zs.getLast? with
  | some y => .ok (y, zs.dropLast)
  | none => .bad
def pop0F : List D → R (D × List D)
  | y :: r => .ok (y, r)
  | [] => .bad
def appF (d : D) : List D → R (D × List D) := fun zs => if zs.length ≤ 50000 then .ok (.non, zs ++ [d]) else .bad
def extF (ds : List D) : List D → R (D × List D) := fun zs => if zs.length + ds.length ≤ 100000 then .ok (.non, zs ++ ds) else .bad
def updF (more : List (Str × D)) : List (Str × D) → R (D × List (Str × D)) := fun kvs => if kvs.length + more.length ≤ 100000 then .ok (.non, mergeD kvs more) else .bad
def qPop (shs : List Sh) (i : Nat) (sm : Sl → R (Option Stp)) (f : List D → R (D × List D)) : Sl → R (D × Sl) := fun env => (sm env).bind fun s => chUp shs i s (onL f) env
def qApp (shs : List Sh) (i : Nat) (sm : Sl → R (Option Stp)) (m : Sl → R D) : Sl → R (D × Sl) := fun env => (sm env).bind fun s => (m env).bind fun d => chUp shs i s (onL (appF d)) env
def qExt (shs : List Sh) (i : Nat) (sm : Sl → R (Option Stp)) (m : Sl → R D) : Sl → R (D × Sl) := fun env => (sm env).bind fun s => (m env).bind fun d => match d with
  | .lst ds => chUp shs i s (onL (extF ds)) env
  | _ => .bad
def qUpd (shs : List Sh) (i : Nat) (sm : Sl → R (Option Stp)) (m : Sl → R D) : Sl → R (D × Sl) := fun env => (sm env).bind fun s => (m env).bind fun d => match d with
  | .dct ds => chUp shs i s (onD (updF ds)) env
  | _ => .bad
section
variable {X : Cx} {W : WX} {shs rshs : List Sh} {rsh sh s1 : Sh} {a b c e o : Expr} {es : List Expr} {m ma mb : Sl → R D} {mq mq2 : Sl → R (D × Sl)} {mr : Sl → R (List D × Sl)} {pos p2 apos cpos px : Pos} {n k i : Nat} {sm : Sl → R (Option Stp)}
theorem mq_pop (ho : MPl X W shs i o sm) (hbase : attributeBase o "pop" X.env (eval o X.env) = eval o X.env := by rfl) (hline : (apos.endLine == cpos.line) = true := by rfl) : MQ X W shs .pl (.Call (.Attribute o "pop" apos) [] [] cpos) (qPop shs i sm popF) := by
  obtain ⟨t, a1, a2⟩ := ho
  refine ⟨_, pe_bm0 PySem.F.plainAttrs_list PySem.F.slot_list_pop PySem.F.type_list_pop mt_pop a1 hbase hline, fun M B0 H0 ks B H σ env P pv pd Q r q => a2 M B0 H0 ks B H σ env P pv pd _ r ?_⟩
  unfold qPop at q
  cases hs : sm env with
  | ok s =>
    rw [hs] at q
    simp only [R.bind] at q
    intro v H1 kx fo
    obtain ⟨rv, h2, h3⟩ := fo
    cases hu : chUp shs i s (onL popF) env with
    | ok p =>
      rw [hu] at q
      obtain ⟨d, sh, sh', c, x, c', z1, z2, z3, z4, rfl⟩ := chUp_ok hu
      obtain ⟨zs, y, zs', rfl, rfl, z5, z6⟩ := onL_ok z4
      cases z6
      obtain ⟨p, xs, rfl, hp, ra, back⟩ := (r.mono kx).flatL z1 z2 z3 h2 h3
      unfold popF at z5
      split at z5
      · next y' hy =>
        cases z5
        rw [List.getLast?_eq_getElem?] at hy
        obtain ⟨w, hw, rw_⟩ := ra.get hy
        refine ⟨.inl ⟨rfl, xs, sq_of hp⟩, p, xs, w, rfl, rfl, hp, by rw [ra.length]; exact hw, ?_⟩
        have := back xs.dropLast zs.dropLast [w] [x] (by rw [List.dropLast_eq_take, List.dropLast_eq_take, ra.length]; exact ra.take _) (.cons rw_ .nil)
        exact q w B _ this
      · cases z5
    | err c => rw [hu] at q; exact q.elim
    | bad => rw [hu] at q; exact q.elim
  | err c => rw [hs] at q; exact q.elim
  | bad => rw [hs] at q; exact q.elim
theorem mq_pop0 {j : Nat} (ho : MPl X W shs i o sm) (hbase : attributeBase o "pop" X.env (eval o X.env) = eval o X.env := by rfl)
    (hfew : ((backTo cpos (starEach [.Constant (.int 0) j px] X.env)).all (fun x => !x.1) && (backToKw cpos (keywordEach [] X.env)).all (fun x => x.1.isSome)
      && decide (([.Constant (.int 0) j px] : List Expr).length + ([] : List Keyword).length + (if ([] : List Keyword).isEmpty then 0 else 1) < 30)) = true := by rfl)
    (hline : (apos.endLine == cpos.line) = true := by rfl) (hst : starEach [.Constant (.int 0) j px] X.env = (false, eval (.Constant (.int 0) j px) X.env) :: starEach [] X.env := by rfl) (hplain : (backTo cpos (starEach ([] : List Expr) X.env)).any (·.1) = false := by rfl) :
    MQ X W shs .pl (.Call (.Attribute o "pop" apos) [.Constant (.int 0) j px] [] cpos) (qPop shs i sm pop0F) := by
  obtain ⟨t, a1, a2⟩ := ho
  refine ⟨_, pe_bm PySem.F.plainAttrs_list PySem.F.slot_list_pop PySem.F.type_list_pop mt_popAt a1 (pa_cons pe_int pa_nil hst) hbase hfew hline hst hplain, fun M B0 H0 ks B H σ env P pv pd Q r q => a2 M B0 H0 ks B H σ env P pv pd _ r ?_⟩
  unfold qPop at q
  cases hs : sm env with
  | ok s =>
    rw [hs] at q
    simp only [R.bind] at q
    intro v H1 kx fo
    obtain ⟨rv, h2, h3⟩ := fo
    cases hu : chUp shs i s (onL pop0F) env with
    | ok p =>
      rw [hu] at q
      obtain ⟨d, sh, sh', c, x, c', z1, z2, z3, z4, rfl⟩ := chUp_ok hu
      obtain ⟨zs, y, zs', rfl, rfl, z5, z6⟩ := onL_ok z4
      cases z6
      obtain ⟨p, xs, rfl, hp, ra, back⟩ := (r.mono kx).flatL z1 z2 z3 h2 h3
      cases zs with
      | nil => cases z5
      | cons y0 r0 =>
        cases z5
        cases ra with
        | @cons w ws _ _ rw_ rest =>
          refine ⟨.inl ⟨rfl, w :: ws, sq_of hp⟩, p, w :: ws, 0, 0, w, rfl, rfl, hp, by decide, by decide, ?_, rfl, ?_⟩
          · simp [seqIndex?]
          · have := back ws zs' [w] [x] rest (.cons rw_ .nil)
            exact q w B _ this
    | err c => rw [hu] at q; exact q.elim
    | bad => rw [hu] at q; exact q.elim
  | err c => rw [hs] at q; exact q.elim
  | bad => rw [hs] at q; exact q.elim
theorem mq_app (ho : MPl X W shs i o sm) (he : MN X W shs e m) (hbase : attributeBase o "append" X.env (eval o X.env) = eval o X.env := by rfl)
    (hfew : ((backTo cpos (starEach [e] X.env)).all (fun x => !x.1) && (backToKw cpos (keywordEach [] X.env)).all (fun x => x.1.isSome)
      && decide (([e] : List Expr).length + ([] : List Keyword).length + (if ([] : List Keyword).isEmpty then 0 else 1) < 30)) = true := by rfl)
    (hline : (apos.endLine == cpos.line) = true := by rfl) (hst : starEach [e] X.env = (false, eval e X.env) :: starEach [] X.env := by rfl) (hplain : (backTo cpos (starEach ([] : List Expr) X.env)).any (·.1) = false := by rfl) :
    MQ X W shs .pl (.Call (.Attribute o "append" apos) [e] [] cpos) (qApp shs i sm m) := by
  obtain ⟨t, a1, a2⟩ := ho
  obtain ⟨u, b1, b2⟩ := he
  refine ⟨_, pe_bm PySem.F.plainAttrs_list PySem.F.slot_list_append PySem.F.type_list_append mt_append a1 (pa_cons b1 pa_nil hst) hbase hfew hline hst hplain, fun M B0 H0 ks B H σ env P pv pd Q r q => a2 M B0 H0 ks B H σ env P pv pd _ r ?_⟩
  unfold qApp at q
  cases hs : sm env with
  | ok s =>
    rw [hs] at q
    simp only [R.bind] at q
    intro v H1 kx fo
    obtain ⟨rv, h2, h3⟩ := fo
    have r1 := r.mono kx
    cases hm : m env with
    | ok d0 =>
      rw [hm] at q
      simp only at q
      cases hu : chUp shs i s (onL (appF d0)) env with
      | ok p =>
        rw [hu] at q
        obtain ⟨d, sh, sh', c, x, c', z1, z2, z3, z4, rfl⟩ := chUp_ok hu
        obtain ⟨zs, y, zs', rfl, rfl, z5, z6⟩ := onL_ok z4
        cases z6
        unfold appF at z5
        split at z5
        · next hl =>
          cases z5
          obtain ⟨p, xs, rfl, hp, ra, back⟩ := r1.flatL z1 z2 z3 h2 h3
          refine ⟨.inl ⟨rfl, xs, sq_of hp⟩, b2 M B0 H0 ks B H1 σ env P pv pd _ r1 ?_⟩
          rw [hm]
          intro w H2 kx2 rw_
          obtain ⟨p', xs', e0, hp', ra', back'⟩ := (r1.mono kx2).flatL z1 z2 z3 h2 (h3.mono kx2.ex)
          cases e0
          refine ⟨p, xs', w, rfl, rfl, hp', sz_lt (by rw [ra'.length]; omega), ?_⟩
          have := back' (xs' ++ [w]) (zs ++ [d0]) [.non] [.non] (ra'.append (.cons rw_ .nil)) (.cons .non .nil)
          exact q .non B _ this
        · cases z5
      | err c => rw [hu] at q; exact q.elim
      | bad => rw [hu] at q; exact q.elim
    | err c => rw [hm] at q; exact q.elim
    | bad => rw [hm] at q; exact q.elim
  | err c => rw [hs] at q; exact q.elim
  | bad => rw [hs] at q; exact q.elim
theorem mq_ext (ho : MPl X W shs i o sm) (he : MN X W shs e m) (hbase : attributeBase o "extend" X.env (eval o X.env) = eval o X.env := by rfl)
    (hfew : ((backTo cpos (starEach [e] X.env)).all (fun x => !x.1) && (backToKw cpos (keywordEach [] X.env)).all (fun x => x.1.isSome)
      && decide (([e] : List Expr).length + ([] : List Keyword).length + (if ([] : List Keyword).isEmpty then 0 else 1) < 30)) = true := by rfl)
    (hline : (apos.endLine == cpos.line) = true := by rfl) (hst : starEach [e] X.env = (false, eval e X.env) :: starEach [] X.env := by rfl) (hplain : (backTo cpos (starEach ([] : List Expr) X.env)).any (·.1) = false := by rfl) :
    MQ X W shs .pl (.Call (.Attribute o "extend" apos) [e] [] cpos) (qExt shs i sm m) := by
  obtain ⟨t, a1, a2⟩ := ho
  obtain ⟨u, b1, b2⟩ := he
  refine ⟨_, pe_bm PySem.F.plainAttrs_list PySem.F.slot_list_extend PySem.F.type_list_extend mt_extend a1 (pa_cons b1 pa_nil hst) hbase hfew hline hst hplain, fun M B0 H0 ks B H σ env P pv pd Q r q => a2 M B0 H0 ks B H σ env P pv pd _ r ?_⟩
  unfold qExt at q
  cases hs : sm env with
  | ok s =>
    rw [hs] at q
    simp only [R.bind] at q
    intro v H1 kx fo
    obtain ⟨rv, h2, h3⟩ := fo
    have r1 := r.mono kx
    cases hm : m env with
    | ok d0 =>
      rw [hm] at q
      simp only at q
      split at q
      · next ds =>
        cases hu : chUp shs i s (onL (extF ds)) env with
        | ok p =>
          rw [hu] at q
          obtain ⟨d, sh, sh', c, x, c', z1, z2, z3, z4, rfl⟩ := chUp_ok hu
          obtain ⟨zs, y, zs', rfl, rfl, z5, z6⟩ := onL_ok z4
          cases z6
          unfold extF at z5
          split at z5
          · next hl =>
            cases z5
            obtain ⟨p, xs, rfl, hp, ra, back⟩ := r1.flatL z1 z2 z3 h2 h3
            refine ⟨.inl ⟨rfl, xs, sq_of hp⟩, b2 M B0 H0 ks B H1 σ env P pv pd _ r1 ?_⟩
            rw [hm]
            intro w H2 kx2 rw_
            cases rw_ with
            | @lst b ys _ hb rb =>
              obtain ⟨p', xs', e0, hp', ra', back'⟩ := (r1.mono kx2).flatL z1 z2 z3 h2 (h3.mono kx2.ex)
              cases e0
              have hz : xs'.length + ys.length ≤ sizeLine := line1 (by rw [ra'.length, rb.length]; exact hl)
              refine ⟨p, b, xs', ys, rfl, rfl, hp', hid_some hb, hz, ?_⟩
              have := back' (xs' ++ ys) (zs ++ ds) [.non] [.non] (ra'.append rb) (.cons .non .nil)
              exact q .non B _ this
          · cases z5
        | err c => rw [hu] at q; exact q.elim
        | bad => rw [hu] at q; exact q.elim
      · exact q.elim
    | err c => rw [hm] at q; exact q.elim
    | bad => rw [hm] at q; exact q.elim
  | err c => rw [hs] at q; exact q.elim
  | bad => rw [hs] at q; exact q.elim
theorem mq_upd (ho : MPl X W shs i o sm) (he : MN X W shs e m) (hbase : attributeBase o "update" X.env (eval o X.env) = eval o X.env := by rfl)
    (hfew : ((backTo cpos (starEach [e] X.env)).all (fun x => !x.1) && (backToKw cpos (keywordEach [] X.env)).all (fun x => x.1.isSome)
      && decide (([e] : List Expr).length + ([] : List Keyword).length + (if ([] : List Keyword).isEmpty then 0 else 1) < 30)) = true := by rfl)
    (hline : (apos.endLine == cpos.line) = true := by rfl) (hst : starEach [e] X.env = (false, eval e X.env) :: starEach [] X.env := by rfl) (hplain : (backTo cpos (starEach ([] : List Expr) X.env)).any (·.1) = false := by rfl) :
    MQ X W shs .pl (.Call (.Attribute o "update" apos) [e] [] cpos) (qUpd shs i sm m) := by
  obtain ⟨t, a1, a2⟩ := ho
  obtain ⟨u, b1, b2⟩ := he
  refine ⟨_, pe_bm PySem.F.plainAttrs_dict PySem.F.slot_dict_update PySem.F.type_dict_update mt_update a1 (pa_cons b1 pa_nil hst) hbase hfew hline hst hplain, fun M B0 H0 ks B H σ env P pv pd Q r q => a2 M B0 H0 ks B H σ env P pv pd _ r ?_⟩
  unfold qUpd at q
  cases hs : sm env with
  | ok s =>
    rw [hs] at q
    simp only [R.bind] at q
    intro v H1 kx fo
    obtain ⟨rv, h2, h3⟩ := fo
    have r1 := r.mono kx
    cases hm : m env with
    | ok d0 =>
      rw [hm] at q
      simp only at q
      split at q
      · next ds =>
        cases hu : chUp shs i s (onD (updF ds)) env with
        | ok p =>
          rw [hu] at q
          obtain ⟨d, sh, sh', c, x, c', z1, z2, z3, z4, rfl⟩ := chUp_ok hu
          obtain ⟨zs, y, zs', rfl, rfl, z5, z6⟩ := onD_ok z4
          cases z6
          unfold updF at z5
          split at z5
          · next hl =>
            cases z5
            obtain ⟨p, xs, rfl, hp, hpB, ra, back⟩ := r1.flatD z1 z2 z3 h2 h3
            refine ⟨.inr (.inr (.inl ⟨rfl, .inl ⟨xs, hp⟩⟩)), b2 M B0 H0 ks B H1 σ env P pv pd _ r1 ?_⟩
            rw [hm]
            intro w H2 kx2 rw_
            cases rw_ with
            | @dct b ys _ hb rb =>
              obtain ⟨p', xs', e0, hp', hpB', ra', back'⟩ := (r1.mono kx2).flatD z1 z2 z3 h2 (h3.mono kx2.ex)
              cases e0
              have hz : xs'.length + ys.length ≤ sizeLine := line1 (by rw [ra'.length, rb.length]; exact hl)
              have hne : p ≠ b := fun z => by
                subst z
                unfold hid at hb
                rw [if_pos hpB] at hb
                cases hb
              refine ⟨p, b, xs', ys, rfl, rfl, hne, hp', hid_some hb, hz, ?_⟩
              exact q .non B _ ((back' (mergeK xs' ys) (mergeD zs ds) (RpD0.merge rb ra')).push .non)
          · cases z5
        | err c => rw [hu] at q; exact q.elim
        | bad => rw [hu] at q; exact q.elim
      · exact q.elim
    | err c => rw [hm] at q; exact q.elim
    | bad => rw [hm] at q; exact q.elim
  | err c => rw [hs] at q; exact q.elim
  | bad => rw [hs] at q; exact q.elim
end
end Ask
namespace Ask
open PySem L2 Evl
/-! ### statements -/
inductive OQ where
  | nx (env : Sl) | rt (d : D) (env : Sl) | bk (env : Sl) | ct (env : Sl) | bad
/-- the slot of the argument that is changed stays -/
def Fx (ow : List Nat) (v0 : Nat → V) (σ : L2.St) : Prop := ∀ i ∈ ow, σ[i]? = some (some (v0 i))
def PoSq (K : PySem.W.Frag) (ow : List Nat) (v0 : Nat → V) (M B0 : List Addr) (H0 : Hp) (ks : List (List Addr × Hp)) (shs : List Sh) (rsh : Sh) (E : Ends) : OQ → Prop
  | .nx env => ∀ σ' B' H', RQ K M B0 H0 ks B' H' shs σ' env [] [] [] → Fx ow v0 σ' → E.nx σ' H'
  | .rt d env => ∀ v σ' B' H', RQ K M B0 H0 ks B' H' shs σ' env [rsh] [v] [d] → Fx ow v0 σ' → E.rt v H'
  | .bk env => ∀ σ' B' H', RQ K M B0 H0 ks B' H' shs σ' env [] [] [] → Fx ow v0 σ' → E.bk σ' H'
  | .ct env => ∀ σ' B' H', RQ K M B0 H0 ks B' H' shs σ' env [] [] [] → Fx ow v0 σ' → E.ct σ' H'
  | .bad => False
def EvSq (K : PySem.W.Frag) (ow : List Nat) (shs : List Sh) (rsh : Sh) (ts : TS) (m : Sl → OQ) : Prop := ∀ (v0 : Nat → V) (M B0 : List Addr) (H0 : Hp) (ks : List (List Addr × Hp)) (B : List Addr) (H : Hp) (σ : L2.St) (env : Sl) (E : Ends), RQ K M B0 H0 ks B H shs σ env [] [] [] → Fx ow v0 σ → PoSq K ow v0 M B0 H0 ks shs rsh E (m env) → ts E σ H
def QS (X : Cx) (W : WX) (ow : List Nat) (shs : List Sh) (rsh : Sh) (st : Stmt) (m : Sl → OQ) : Prop := ∃ ts, PS X st ts ∧ EvSq X.K ow shs rsh ts m
def QSs (X : Cx) (W : WX) (ow : List Nat) (shs : List Sh) (rsh : Sh) (st : List Stmt) (m : Sl → OQ) : Prop := ∃ ts, PSs X st ts ∧ EvSq X.K ow shs rsh ts m
def toQ {α : Type} (x : R α) (f : α → OQ) : OQ := match x with
  | .ok a => f a
  | _ => .bad
def seqQ (a b : Sl → OQ) : Sl → OQ := fun env => match a env with
  | .nx e => b e
  | o => o
def nextQ : Sl → OQ := fun env => .nx env
def asgQ (i : Nat) (m : Sl → R (D × Sl)) : Sl → OQ := fun env => toQ (m env) fun p => .nx (p.2.set i (some p.1))
def retQ (m : Sl → R (D × Sl)) : Sl → OQ := fun env => toQ (m env) fun p => .rt p.1 p.2
def dropQ (m : Sl → R (D × Sl)) : Sl → OQ := fun env => toQ (m env) fun p => .nx p.2
def ifQ (t : Sl → R Bool) (a b : Sl → OQ) : Sl → OQ := fun env => toQ (t env) fun k => if k = true then a env else b env
def ifQe (t : Sl → R (D × Sl)) (a b : Sl → OQ) : Sl → OQ := fun env => toQ (t env) fun p => match p.1 with
  | .bl k => if k = true then a p.2 else b p.2
  | _ => .bad
section
variable {X : Cx} {W : WX} {ow : List Nat} {shs rshs : List Sh} {rsh sh s1 : Sh} {a b c e o : Expr} {es : List Expr} {m ma mb : Sl → R D} {mq mq2 : Sl → R (D × Sl)} {mt : Sl → R Bool} {mr : Sl → R (List D × Sl)} {pos p2 apos cpos px : Pos} {n k i : Nat} {sm : Sl → R (Option Stp)} {xs ys : List Stmt} {na nb : Sl → OQ} {st : Stmt} {rest : List Stmt}
theorem qss_nil : QSs X W ow shs rsh [] nextQ := ⟨_, pss_nil, fun v0 M B0 H0 ks B H σ env E r f h => h σ B H r f⟩
theorem qss_one (h : QS X W ow shs rsh st na) : QSs X W ow shs rsh [st] na := let ⟨t, a, b⟩ := h; ⟨t, pss_one a, b⟩
theorem qss_cons (h : QS X W ow shs rsh st na) (k : QSs X W ow shs rsh rest nb) : QSs X W ow shs rsh (st :: rest) (seqQ na nb) := by
  obtain ⟨t, a1, a2⟩ := h
  obtain ⟨u, b1, b2⟩ := k
  refine ⟨_, pss_cons a1 b1, fun v0 M B0 H0 ks B H σ env E r f h => a2 v0 M B0 H0 ks B H σ env _ r f ?_⟩
  unfold seqQ at h
  cases hm : na env with
  | nx e => rw [hm] at h; exact fun σ' B' H' r' f' => b2 v0 M B0 H0 ks B' H' σ' e E r' f' h
  | rt d e => rw [hm] at h; exact h
  | bk e => rw [hm] at h; exact h
  | ct e => rw [hm] at h; exact h
  | bad => rw [hm] at h; exact h
theorem qs_ret (he : MQ X W shs rsh e mq) : QS X W ow shs rsh (.Return (some e) pos) (retQ mq) := by
  obtain ⟨t, a1, a2⟩ := he
  refine ⟨_, ps_ret a1, fun v0 M B0 H0 ks B H σ env E r f h => a2 M B0 H0 ks B H σ env [] [] [] _ r ?_⟩
  unfold retQ toQ at h
  cases hm : mq env with
  | ok p => obtain ⟨d, e⟩ := p; rw [hm] at h; exact fun v B' H' r' => h v σ B' H' r' f
  | err c => rw [hm] at h; exact h.elim
  | bad => rw [hm] at h; exact h.elim
theorem qs_expr (he : MQ X W shs s1 e mq) (hs : swapsWith e none pos.line X.env = pure false := by rfl) : QS X W ow shs rsh (.Expr e pos) (dropQ mq) := by
  obtain ⟨t, a1, a2⟩ := he
  refine ⟨_, ps_expr a1 hs, fun v0 M B0 H0 ks B H σ env E r f h => a2 M B0 H0 ks B H σ env [] [] [] _ r ?_⟩
  unfold dropQ toQ at h
  cases hm : mq env with
  | ok p =>
    obtain ⟨d, e⟩ := p
    rw [hm] at h
    intro v B' H' r'
    obtain ⟨mm, w1, w2, w3, w4, _⟩ := RQ.pend (P := []) (pv := []) (pd := []) r' rfl rfl
    have := w4 B' H' [] [] [] [] ((Kq.refl r'.kq.inB).more (fun _ z => by cases z) fun x hx => (w3 x hx).1) .nil List.nodup_nil (fun _ z => by cases z)
    exact h σ B' H' this f
  | err c => rw [hm] at h; exact h.elim
  | bad => rw [hm] at h; exact h.elim
theorem fx_set {v0 : Nat → V} {v : V} {σ : L2.St} (hi2 : i ∉ ow) (f : Fx ow v0 σ) : Fx ow v0 (σ.set i (some v)) := fun j hj => by
  have hn : i ≠ j := fun z => hi2 (z ▸ hj)
  rw [List.getElem?_set_ne hn]
  exact f j hj
theorem qs_set (i : Nat) {x : Str} {pos' : Pos} (hi2 : i ∉ ow) (hsh : shs[i]? = some s1) (he : MQ X W shs s1 e mq) (hN : X.N.Nodup) (hi : X.N[i]? = some x := by rfl) (hx : Loc X.env.scope x := by first | exact Or.inl rfl | exact Or.inr rfl) (hs : swapsWith e (some (.Name x pos')) pos.line X.env = pure false := by rfl) (hf : X.fn x = true ∨ X.env.scope.names.lookup x = some .local := by first | exact .inl rfl | exact .inr rfl) :
    QS X W ow shs rsh (.Assign [.Name x pos'] e pos) (asgQ i mq) := by
  obtain ⟨t, a1, a2⟩ := he
  refine ⟨_, ps_set hN hi hx a1 hs hf, fun v0 M B0 H0 ks B H σ env E r f h => a2 M B0 H0 ks B H σ env [] [] [] _ r ?_⟩
  unfold asgQ toQ at h
  cases hm : mq env with
  | ok p =>
    obtain ⟨d, e⟩ := p
    rw [hm] at h
    intro v B' H' r'
    obtain ⟨mm, w1, w2, w3, _, w5⟩ := RQ.pend (P := []) (pv := []) (pd := []) r' rfl rfl
    have hil : i < e.length := by
      have hl := r'.len
      by_cases hh : i < shs.length
      · omega
      · rw [List.getElem?_eq_none (by omega)] at hsh; cases hsh
    cases w1 with
    | cons o1 o2 =>
      cases o2
      rw [List.append_nil] at w2 w3 w5
      exact h _ B' H' (w5 B' H' i s1 _ v d hsh hil ((Kq.refl r'.kq.inB).more (fun _ z => by cases z) fun x hx => (w3 x hx).1) o1 w2 fun a ha => ⟨(w3 a ha).1, .inl ha⟩) (fx_set hi2 f)
  | err c => rw [hm] at h; exact h.elim
  | bad => rw [hm] at h; exact h.elim
theorem RQ.setPl {K : PySem.W.Frag} {M B0 B : List Addr} {H0 H : Hp} {ks : List (List Addr × Hp)} {σ : L2.St} {env : Sl} {v : V} {d : D} {P : List Sh} {pv : List V} {pd : List D} (h : RQ K M B0 H0 ks B H shs σ env P pv pd) (hsh : shs[i]? = some .pl) (r : Rp K B H v d) : RQ K M B0 H0 ks B H shs (σ.set i (some v)) (env.set i (some d)) P pv pd := by
  have r' := h.push r
  obtain ⟨mm, w1, w2, w3, _, w5⟩ := RQ.pend r' rfl rfl
  have hil : i < env.length := by
    have hl := h.len
    by_cases hh : i < shs.length
    · omega
    · rw [List.getElem?_eq_none (by omega)] at hsh; cases hsh
  exact w5 B H i .pl [] v d hsh hil ((Kq.refl h.kq.inB).more (fun _ z => by cases z) fun x hx => (w3 x hx).1) (.pl r) List.nodup_nil (fun _ z => by cases z)
/-- y = [..], a comprehension whose list is plain -/
theorem qs_setLc (j : Nat) {st : Stmt} {m : Sl → R D} (hj2 : j ∉ ow) (hsh : shs[j]? = some .pl) (h : ∃ te, PS X st (tAsg te (gName j)) ∧ EvE X.K X.mg W te m) : QS X W ow shs rsh st (asgQ j (qN (nH shs m))) := by
  obtain ⟨t, a1, a2⟩ := h
  refine ⟨_, a1, fun v0 M B0 H0 ks B H σ env E r f h => a2 _ σ B H _ r.rsH ?_⟩
  unfold asgQ toQ qN nH at h
  cases hm : m (wipeQ shs env) with
  | ok d => rw [hm] at h; exact fun v H' kx rv => h _ B H' ((r.mono kx).setPl hsh rv) (fx_set hj2 f)
  | err c => rw [hm] at h; exact h.elim
  | bad => rw [hm] at h; exact h.elim
theorem qs_if (hc : MNB X W shs c mt) (ha : QSs X W ow shs rsh xs na) (hb : QSs X W ow shs rsh ys nb) : QS X W ow shs rsh (.If c xs ys pos) (ifQ mt na nb) := by
  obtain ⟨t, h1, h2⟩ := hc
  obtain ⟨ta, a1, a2⟩ := ha
  obtain ⟨tb, b1, b2⟩ := hb
  refine ⟨_, ps_if h1 a1 b1, fun v0 M B0 H0 ks B H σ env E r f h => h2 M B0 H0 ks B H σ env [] [] [] _ r ?_⟩
  unfold ifQ toQ at h
  cases hm : mt env with
  | ok k =>
    rw [hm] at h
    intro v H' kx ev
    have ev' : v = k := ev
    subst ev'
    cases v with
    | true => exact iteT (a2 v0 M B0 H0 ks B H' σ env E (r.mono kx) f h)
    | false => exact iteF (b2 v0 M B0 H0 ks B H' σ env E (r.mono kx) f h)
  | err c => rw [hm] at h; exact h.elim
  | bad => rw [hm] at h; exact h.elim
theorem qs_ifQ (hc : MQ X W shs .pl c mq) (ha : QSs X W ow shs rsh xs na) (hb : QSs X W ow shs rsh ys nb) (he : ∀ whole, isTrue c X.env whole = (do let v ← whole; standAt c.pos; holding [v] (truthy v)) := by intro _; rfl) : QS X W ow shs rsh (.If c xs ys pos) (ifQe mq na nb) := by
  obtain ⟨t, h1, h2⟩ := hc
  obtain ⟨ta, a1, a2⟩ := ha
  obtain ⟨tb, b1, b2⟩ := hb
  refine ⟨_, ps_if (pt_val h1 he) a1 b1, fun v0 M B0 H0 ks B H σ env E r f h => h2 M B0 H0 ks B H σ env [] [] [] _ r ?_⟩
  unfold ifQe toQ at h
  cases hm : mq env with
  | ok p =>
    obtain ⟨d, e⟩ := p
    rw [hm] at h
    intro v B' H' r'
    obtain ⟨rv, r2⟩ := RQ.plain1 (P := []) (pv := []) (pd := []) r'
    simp only at h
    split at h
    · next k =>
      cases rv
      refine ⟨k, rfl, ?_⟩
      cases k with
      | true => exact iteT (a2 v0 M B0 H0 ks B' H' σ e E r2 f h)
      | false => exact iteF (b2 v0 M B0 H0 ks B' H' σ e E r2 f h)
    · exact h.elim
  | err c => rw [hm] at h; exact h.elim
  | bad => rw [hm] at h; exact h.elim
/-! unpacking -/
def EvGq (K : PySem.W.Frag) (ow : List Nat) (shs : List Sh) (g : TG) (m : D → Sl → Option Sl) : Prop := ∀ (v0 : Nat → V) (M B0 : List Addr) (H0 : Hp) (ks : List (List Addr × Hp)) (B : List Addr) (H : Hp) (σ : L2.St) (env env' : Sl) (v : V) (d : D) (Q : L2.St → Hp → Prop), RQ K M B0 H0 ks B H shs σ env [] [] [] → Fx ow v0 σ → Rp K B H v d → m d env = some env' → (∀ σ', RQ K M B0 H0 ks B H shs σ' env' [] [] [] → Fx ow v0 σ' → Q σ' H) → g v σ H Q
def QG (X : Cx) (ow : List Nat) (shs : List Sh) (tg : Expr) (m : D → Sl → Option Sl) : Prop := ∃ g, PG X tg g ∧ EvGq X.K ow shs g m
theorem qg_name (i : Nat) {x : Str} (hi2 : i ∉ ow) (hsh : shs[i]? = some .pl) (hN : X.N.Nodup) (hi : X.N[i]? = some x := by rfl) (hx : Loc X.env.scope x := by first | exact Or.inl rfl | exact Or.inr rfl) (hf : X.fn x = true ∨ X.env.scope.names.lookup x = some .local := by first | exact .inl rfl | exact .inr rfl) : QG X ow shs (.Name x pos) (tgN i) :=
  ⟨_, pg_name hN hi hx hf, fun v0 M B0 H0 ks B H σ env env' v d Q r f rv h q => by cases h; exact q _ (r.setPl hsh rv) (fx_set hi2 f)⟩
theorem qg_two {x y : Expr} {k : Nat} {m1 m2 : D → Sl → Option Sl} (hc : X.calm = true) (h1 : QG X ow shs x m1) (h2 : QG X ow shs y m2) (s1 : (assignEach [x, y] X.env).map (·.2) = assign x X.env :: (assignEach [y] X.env).map (·.2) := by rfl) (s2 : (assignEach [y] X.env).map (·.2) = assign y X.env :: (assignEach [] X.env).map (·.2) := by rfl)
    (hn : (assignEach [x, y] X.env).length = 2 := by rfl) (hst : (assignEach [x, y] X.env).findIdx? (·.1) = none := by rfl) : QG X ow shs (.Tuple [x, y] k pos) (tg2 m1 m2) := by
  obtain ⟨g1, a1, a2⟩ := h1
  obtain ⟨g2, b1, b2⟩ := h2
  refine ⟨_, pg_tup hc (pgs_cons a1 (pgs_cons b1 pgs_nil s2) s1) hn hst, fun v0 M B0 H0 ks B H σ env env' v d Q r f rv h q => ?_⟩
  unfold tg2 at h
  split at h
  · next x y hd =>
    split at h
    · next hT =>
      obtain ⟨p, xs, rfl, ra, k⟩ := rv.seqT hd
      rcases k with ⟨_, k⟩ | ⟨t, _⟩
      · cases ra with
        | cons r1 ra =>
          cases ra with
          | cons r2 ra =>
            cases ra
            cases h1 : m1 x env with
            | none => rw [h1] at h; cases h
            | some e1 =>
              rw [h1] at h
              exact ⟨p, _, rfl, ex_t (hid_ex B H) k, rfl, _, _, rfl, a2 v0 M B0 H0 ks B H σ env e1 _ x _ r f r1 h1 fun σ1 hs1 f1 => ⟨_, _, rfl, b2 v0 M B0 H0 ks B H σ1 e1 env' _ y _ hs1 f1 r2 h fun σ2 hs2 f2 => ⟨rfl, q σ2 hs2 f2⟩⟩⟩
      · rw [t] at hT; cases hT
    · cases h
  · cases h
def tg3 (a b c : D → Sl → Option Sl) : D → Sl → Option Sl := fun d env => match d with
  | .tup [x, y, z] => (a x env).bind fun e1 => (b y e1).bind fun e2 => c z e2
  | _ => none
theorem qg_three {x y z : Expr} {k : Nat} {m1 m2 m3 : D → Sl → Option Sl} (hc : X.calm = true) (h1 : QG X ow shs x m1) (h2 : QG X ow shs y m2) (h3 : QG X ow shs z m3) (s1 : (assignEach [x, y, z] X.env).map (·.2) = assign x X.env :: (assignEach [y, z] X.env).map (·.2) := by rfl) (s2 : (assignEach [y, z] X.env).map (·.2) = assign y X.env :: (assignEach [z] X.env).map (·.2) := by rfl)
    (s3 : (assignEach [z] X.env).map (·.2) = assign z X.env :: (assignEach [] X.env).map (·.2) := by rfl) (hn : (assignEach [x, y, z] X.env).length = 3 := by rfl) (hst : (assignEach [x, y, z] X.env).findIdx? (·.1) = none := by rfl) : QG X ow shs (.Tuple [x, y, z] k pos) (tg3 m1 m2 m3) := by
  obtain ⟨g1, a1, a2⟩ := h1
  obtain ⟨g2, b1, b2⟩ := h2
  obtain ⟨g3, c1, c2⟩ := h3
  refine ⟨_, pg_tup hc (pgs_cons a1 (pgs_cons b1 (pgs_cons c1 pgs_nil s3) s2) s1) hn hst, fun v0 M B0 H0 ks B H σ env env' v d Q r f rv h q => ?_⟩
  unfold tg3 at h
  split at h
  · next x y z =>
    cases rv with
    | @tup p xs _ hp ra =>
      cases ra with
      | cons r1 ra =>
        cases ra with
        | cons r2 ra =>
          cases ra with
          | cons r3 ra =>
            cases ra
            cases h1 : m1 x env with
            | none => rw [h1] at h; cases h
            | some e1 =>
              rw [h1] at h
              simp only [Option.bind] at h
              cases h2 : m2 y e1 with
              | none => rw [h2] at h; cases h
              | some e2 =>
                rw [h2] at h
                exact ⟨p, _, rfl, st_of (hid_some hp), rfl, _, _, rfl, a2 v0 M B0 H0 ks B H σ env e1 _ x _ r f r1 h1 fun σ1 hs1 f1 => ⟨_, _, rfl, b2 v0 M B0 H0 ks B H σ1 e1 e2 _ y _ hs1 f1 r2 h2 fun σ2 hs2 f2 => ⟨_, _, rfl, c2 v0 M B0 H0 ks B H σ2 e2 env' _ z _ hs2 f2 r3 h fun σ3 hs3 f3 => ⟨rfl, q σ3 hs3 f3⟩⟩⟩⟩
  · cases h
def unpQ (g : D → Sl → Option Sl) (m : Sl → R (D × Sl)) : Sl → OQ := fun env => toQ (m env) fun p => match g p.1 p.2 with
  | some e => .nx e
  | none => .bad
theorem qs_unp {tg : Expr} {g : D → Sl → Option Sl} (he : MQ X W shs .pl e mq) (hg : QG X ow shs tg g) (hs : swapsWithSole [tg] e pos.line X.env = pure false := by rfl) (hw : swappedStores [tg] e X.env = pure none := by rfl)
    (h1 : (assignEach [tg] X.env).map (·.2) = [assign tg X.env] := by rfl) : QS X W ow shs rsh (.Assign [tg] e pos) (unpQ g mq) := by
  obtain ⟨t, a1, a2⟩ := he
  obtain ⟨u, b1, b2⟩ := hg
  refine ⟨_, ps_asg a1 b1 hs hw h1, fun v0 M B0 H0 ks B H σ env E r f h => a2 M B0 H0 ks B H σ env [] [] [] _ r ?_⟩
  unfold unpQ toQ at h
  cases hm : mq env with
  | ok p =>
    obtain ⟨d, e⟩ := p
    rw [hm] at h
    intro v B' H' r'
    obtain ⟨rv, r2⟩ := RQ.plain1 (P := []) (pv := []) (pd := []) r'
    simp only at h
    cases hg2 : g d e with
    | none => rw [hg2] at h; exact h.elim
    | some e2 =>
      rw [hg2] at h
      exact b2 v0 M B0 H0 ks B' H' σ e e2 v d _ r2 f rv hg2 fun σ' r3 f3 => h σ' B' H' r3 f3
  | err c => rw [hm] at h; exact h.elim
  | bad => rw [hm] at h; exact h.elim
def augQ (shs : List Sh) (i : Nat) (m : Sl → R (D × Sl)) : Sl → OQ := fun env => match env[i]?, shs[i]? with
  | some (some (.int p)), some .pl => toQ (m env) fun q => match q.1 with
    | .int k => .nx (q.2.set i (some (.int (p + k))))
    | _ => .bad
  | _, _ => .bad
theorem qs_aug (i : Nat) {x : Str} {pos' : Pos} (hi2 : i ∉ ow) (he : MQ X W shs .pl e mq) (hN : X.N.Nodup) (hi : X.N[i]? = some x := by rfl) (hx : Loc X.env.scope x := by first | exact Or.inl rfl | exact Or.inr rfl) (hf : X.fn x = true ∨ X.env.scope.names.lookup x = some .local := by first | exact .inl rfl | exact .inr rfl) :
    QS X W ow shs rsh (.AugAssign (.Name x pos') .Add e pos) (augQ shs i mq) := by
  obtain ⟨t, a1, a2⟩ := he
  refine ⟨_, ps_aug hN hi hx a1 ip_add hf, fun v0 M B0 H0 ks B H σ env E r f h => ?_⟩
  unfold augQ toQ at h
  split at h
  · next p hp hsh =>
    obtain ⟨sh, v, fp, z1, z2, z3⟩ := r.at hp
    rw [hsh] at z1
    cases z1
    cases z3 with
    | pl z3 =>
      cases z3
      refine ⟨_, z2, a2 M B0 H0 ks B H σ env [] [] [] _ r ?_⟩
      cases hm : mq env with
      | ok q =>
        obtain ⟨d, e⟩ := q
        rw [hm] at h
        intro u B' H' r'
        obtain ⟨rv, r2⟩ := RQ.plain1 (P := []) (pv := []) (pd := []) r'
        simp only at h
        split at h
        · next k =>
          cases rv
          exact ⟨p, k, rfl, rfl, h _ B' H' (r2.setPl hsh (.int _)) (fx_set hi2 f)⟩
        · exact h.elim
      | err c => rw [hm] at h; exact h.elim
      | bad => rw [hm] at h; exact h.elim
  · exact h.elim
/-! loops -/
def forGoQ (b : D → Sl → Option Sl) (body : Sl → OQ) : List D → Sl → OQ
  | [], env => .nx env
  | d :: ds, env => match b d env with
    | none => .bad
    | some e => match body e with
      | .nx e => forGoQ b body ds e
      | .ct e => forGoQ b body ds e
      | .bk e => .nx e
      | o => o
def forQ (it : Sl → R (List D)) (b : D → Sl → Option Sl) (body : Sl → OQ) : Sl → OQ := fun env => toQ (it env) fun ds => forGoQ b body ds env
theorem qs_for {tg iter : Expr} {body : List Stmt} {mi : Sl → R (List D)} {bi : D → Sl → Option Sl} (hp : PassesOwn (model X.prog X.w) X.A X.env X.xe) (hc : X.calm = true) (hi : MNI X W shs tg iter mi) (hg : QG X ow shs tg bi) (hb : QSs X W ow shs rsh body nb)
    (hs : ∀ x, foldedSetIterable iter X.env x = pure x := by intro _; rfl) : QS X W ow shs rsh (.For tg iter body [] pos) (forQ mi bi nb) := by
  obtain ⟨wi, i1, i2⟩ := hi
  obtain ⟨g, g1, g2⟩ := hg
  obtain ⟨tb, b1, b2⟩ := hb
  refine ⟨_, ps_for hp hc i1 g1 b1 hs, fun v0 M B0 H0 ks B H σ env E r f h => i2 M B0 H0 ks B H σ env [] [] [] _ r ?_⟩
  unfold forQ toQ at h
  cases hm : mi env with
  | err c => rw [hm] at h; exact h.elim
  | bad => rw [hm] at h; exact h.elim
  | ok ds =>
    rw [hm] at h
    intro J H1 kx wk
    have h2 : RQ X.K M B0 H0 ((B, H1) :: ks) B H1 shs σ env [] [] [] := (r.mono kx).addK
    refine ⟨fun i m σ2 H2 => m = ds.length - i ∧ i ≤ ds.length ∧ ∃ B2 en, RQ X.K M B0 H0 ((B, H1) :: ks) B2 H2 shs σ2 en [] [] [] ∧ Fx ow v0 σ2 ∧ PoSq X.K ow v0 M B0 H0 ks shs rsh E (forGoQ bi nb (ds.drop i) en), ⟨ds.length, by simp, Nat.zero_le _, B, env, h2, f, h⟩, ?_⟩
    rintro i m σ2 H2 ⟨rfl, hi2, B2, en, hs2, f2, q2⟩
    obtain ⟨go, stop⟩ := wk B2 H2 (hs2.kys _ List.mem_cons_self)
    by_cases hlt : i < ds.length
    · obtain ⟨g3, y3⟩ := go i hlt
      refine .inr ⟨g3, fun σ3 H3 => i + 1 ≤ ds.length ∧ ∃ B3 en, RQ X.K M B0 H0 ((B, H1) :: ks) B3 H3 shs σ3 en [] [] [] ∧ Fx ow v0 σ3 ∧ PoSq X.K ow v0 M B0 H0 ks shs rsh E (forGoQ bi nb (ds.drop (i + 1)) en), fun σ' H' n => ⟨ds.length - (i + 1), by omega, rfl, n.1, n.2⟩, fun x H3 y => ?_⟩
      obtain ⟨e3, d, hd, rx⟩ := y3 x H3 y
      have hdrop : ds.drop i = d :: ds.drop (i + 1) := by
        rw [List.drop_eq_getElem_cons hlt]
        rw [List.getElem?_eq_getElem hlt] at hd
        cases hd
        rfl
      rw [hdrop] at q2
      simp only [forGoQ] at q2
      cases hb : bi d en with
      | none => rw [hb] at q2; exact q2.elim
      | some f1 =>
        rw [hb] at q2
        simp only at q2
        refine g2 v0 _ _ _ _ _ _ _ _ _ _ _ _ (hs2.mono e3) f2 rx hb fun σ' hs' f' => b2 v0 M B0 H0 ((B, H1) :: ks) B2 H3 σ' f1 _ hs' f' ?_
        cases hm : nb f1 with
        | nx e => rw [hm] at q2; exact fun σ4 B4 H4 r4 f4 => ⟨by omega, B4, e, r4, f4, q2⟩
        | ct e => rw [hm] at q2; exact fun σ4 B4 H4 r4 f4 => ⟨by omega, B4, e, r4, f4, q2⟩
        | bk e => rw [hm] at q2; exact fun σ4 B4 H4 r4 f4 => q2 σ4 B4 H4 r4.lessK f4
        | rt d e => rw [hm] at q2; exact fun v σ4 B4 H4 r4 f4 => q2 v σ4 B4 H4 r4.lessK f4
        | bad => rw [hm] at q2; exact q2.elim
    · have ei : i = ds.length := by omega
      subst ei
      rw [List.drop_length] at q2
      exact .inl ⟨stop, q2 _ B2 H2 hs2.lessK f2⟩
def whGoQ (t : Sl → R Bool) (body : Sl → OQ) : Nat → Sl → OQ
  | 0, _ => .bad
  | n + 1, env => toQ (t env) fun b => if b = true then (match body env with
    | .nx e => whGoQ t body n e
    | .ct e => whGoQ t body n e
    | .bk e => .nx e
    | o => o) else .nx env
theorem whGoQ_more {t : Sl → R Bool} {body : Sl → OQ} : ∀ {n : Nat} {env : Sl}, whGoQ t body n env ≠ .bad → ∀ k, whGoQ t body (n + k) env = whGoQ t body n env
  | 0, env, h, k => absurd rfl h
  | n + 1, env, h, k => by
    rw [show n + 1 + k = (n + k) + 1 by omega]
    unfold whGoQ at h ⊢
    cases ht : t env with
    | err c => simp only [toQ]
    | bad => simp only [toQ]
    | ok b =>
      rw [ht] at h
      simp only [toQ] at h ⊢
      cases b with
      | false => rfl
      | true =>
        simp only [if_true] at h ⊢
        cases hb : body env with
        | nx e => rw [hb] at h; exact whGoQ_more h k
        | ct e => rw [hb] at h; exact whGoQ_more h k
        | bk e => rfl
        | rt d e => rfl
        | bad => rfl
open Classical in
noncomputable def whQ (t : Sl → R Bool) (body : Sl → OQ) : Sl → OQ := fun env => if h : ∃ n, whGoQ t body n env ≠ .bad then whGoQ t body (Classical.choose h) env else .bad
theorem whQ_is {t : Sl → R Bool} {body : Sl → OQ} {n : Nat} {env : Sl} {o : OQ} (h : whGoQ t body n env = o) (hb : o ≠ .bad) : whQ t body env = o := by
  have ex : ∃ n, whGoQ t body n env ≠ .bad := ⟨n, by rw [h]; exact hb⟩
  unfold whQ
  rw [dif_pos ex]
  have h1 := Classical.choose_spec ex
  generalize Classical.choose ex = m at h1 ⊢
  have e1 := whGoQ_more h1 n
  have e2 := whGoQ_more (n := n) (env := env) (by rw [h]; exact hb) m
  rw [← e1, Nat.add_comm, e2, h]
theorem qs_while {body : List Stmt} (hp : PassesOwn (model X.prog X.w) X.A X.env X.xe) (hc : MNB X W shs c mt) (hb : QSs X W ow shs rsh body nb) : QS X W ow shs rsh (.While c body [] pos) (whQ mt nb) := by
  obtain ⟨tc, c1, c2⟩ := hc
  obtain ⟨tb, b1, b2⟩ := hb
  refine ⟨_, ps_while hp c1 b1, fun v0 M B0 H0 ks B H σ env E r f h => ?_⟩
  unfold whQ at h
  split at h
  · next ex =>
    generalize Classical.choose ex = n at h
    refine ⟨fun m σ2 H2 => ∃ B2 en, RQ X.K M B0 H0 ks B2 H2 shs σ2 en [] [] [] ∧ Fx ow v0 σ2 ∧ PoSq X.K ow v0 M B0 H0 ks shs rsh E (whGoQ mt nb m en), ⟨n, B, env, r, f, h⟩, ?_⟩
    rintro m σ2 H2 ⟨B2, en, hs2, f2, q2⟩
    cases m with
    | zero => exact q2.elim
    | succ m =>
      unfold whGoQ at q2
      refine c2 M B0 H0 ks B2 H2 σ2 en [] [] [] _ hs2 ?_
      cases hm : mt en with
      | err c => rw [hm] at q2; exact q2.elim
      | bad => rw [hm] at q2; exact q2.elim
      | ok bb =>
        rw [hm] at q2
        intro v H3 e3 r3
        have ev : v = bb := r3
        subst ev
        simp only [toQ] at q2
        cases v with
        | false => exact iteF (q2 σ2 B2 H3 (hs2.mono e3) f2)
        | true =>
          simp only [if_true] at q2
          refine iteT ⟨fun σ4 H4 => ∃ B4 en, RQ X.K M B0 H0 ks B4 H4 shs σ4 en [] [] [] ∧ Fx ow v0 σ4 ∧ PoSq X.K ow v0 M B0 H0 ks shs rsh E (whGoQ mt nb m en), fun σ' H' n => ⟨m, Nat.lt_succ_self m, n⟩, b2 v0 M B0 H0 ks B2 H3 σ2 en _ (hs2.mono e3) f2 ?_⟩
          cases hm : nb en with
          | nx e => rw [hm] at q2; exact fun σ4 B4 H4 r4 f4 => ⟨B4, e, r4, f4, q2⟩
          | ct e => rw [hm] at q2; exact fun σ4 B4 H4 r4 f4 => ⟨B4, e, r4, f4, q2⟩
          | bk e => rw [hm] at q2; exact q2
          | rt d e => rw [hm] at q2; exact q2
          | bad => rw [hm] at q2; exact q2.elim
  · exact h.elim
end
end Ask
namespace Ask
open PySem L2 Evl
section
variable {K : PySem.W.Frag} {M B0 B B' : List Addr} {H0 H H' : Hp} {ks : List (List Addr × Hp)} {σ : L2.St} {env : Sl} {P : List Sh} {pv : List V} {pd : List D} {shs : List Sh} {i : Nat} {d : D} {sh s1 : Sh} {s : Option Stp} {r v y : V} {dy : D}
/-- the last thing at hand goes into what a slot holds -/
theorem RQ.absorb (h : RQ K M B0 H0 ks B H shs σ env (P ++ [s1]) (pv ++ [y]) (pd ++ [dy])) (hi : env[i]? = some (some d)) (hs : shs[i]? = some sh) (hσ : σ[i]? = some (some v)) :
    ∃ m1 m2, Ow K B H sh m1 v d ∧ Ow K B H s1 m2 y dy ∧ (m1 ++ m2).Nodup ∧ (∀ a ∈ m1 ++ m2, a ∈ B) ∧
      (∀ (B' : List Addr) (H' : Hp) (m' : List Addr) (d'' : D), Kq (m1 ++ m2) B H B' H' → Ow K B' H' sh m' v d'' → m'.Nodup → (∀ a ∈ m', a ∈ B' ∧ (a ∈ m1 ++ m2 ∨ H a = none)) →
        RQ K M B0 H0 ks B' H' shs σ (env.set i (some d'')) P pv pd) := by
  obtain ⟨f1, f2, a1, a2, a3, a4⟩ := h.own
  have hil : i < env.length := by
    by_cases hh : i < env.length
    · exact hh
    · rw [List.getElem?_eq_none (by omega)] at hi; cases hi
  obtain ⟨sh0, L, m1, R, b1, rfl, b3, b4, b5⟩ := a1.focus hil
  rw [hs] at b1
  cases b1
  obtain ⟨r0, c1, c2⟩ := b3 d hi
  rw [hσ] at c1
  cases c1
  have lens := a2.len
  have le1 : P.length = pv.length := by
    have := lens.1
    simp only [List.length_append, List.length_singleton] at this
    omega
  have le2 : P.length = pd.length := by
    have := lens.2
    simp only [List.length_append, List.length_singleton] at this
    omega
  obtain ⟨fa, m2, rfl, e1, e2⟩ := OwL.unlast le1 le2 a2
  have nd : (m1 ++ m2).Nodup := by
    simp only [List.nodup_append, List.mem_append] at a3 ⊢
    grind
  have mem : ∀ a ∈ m1 ++ m2, a ∈ B ∧ (a ∈ M ∨ H0 a = none) := fun a ha => a4 a (by simp only [List.mem_append] at ha ⊢; grind)
  refine ⟨m1, m2, c2, e2, nd, fun a ha => (mem a ha).1, fun B' H' m' d'' k o nd' fr' => ?_⟩
  have off : ∀ a, a ∈ L ∨ a ∈ R ∨ a ∈ fa → H' a = H a ∧ H a ≠ none := fun a ha => by
    have hB : a ∈ B := (a4 a (by simp only [List.mem_append]; grind)).1
    refine ⟨k.same (h.kq.inB a hB) fun z => ?_, h.kq.inB a hB⟩
    simp only [List.nodup_append, List.mem_append] at a3
    simp only [List.mem_append] at z
    grind
  have g1 := b5 B' H' sh m' v d'' k.ex (fun a ha => (off a (by simp only [List.mem_append] at ha; grind)).1) o
  rw [set_same hs, set_same hσ] at g1
  refine h.chg k (fun a ha => (mem a ha).2) ⟨_, fa, g1, e1.mono k.ex fun a ha => (off a (.inr (.inr ha))).1, ?_, fun a ha => ?_⟩
  · have hd : ∀ a ∈ m', a ∈ m1 ++ m2 ∨ (a ∉ L ∧ a ∉ R ∧ a ∉ fa) := fun a ha => by
      rcases (fr' a ha).2 with z | z
      · exact .inl z
      · exact .inr ⟨fun w => (off a (.inl w)).2 z, fun w => (off a (.inr (.inl w))).2 z, fun w => (off a (.inr (.inr w))).2 z⟩
    simp only [List.nodup_append, List.mem_append] at a3 hd ⊢
    grind
  · by_cases hin : a ∈ m'
    · obtain ⟨z1, z2⟩ := fr' a hin
      refine ⟨z1, ?_⟩
      rcases z2 with z | z
      · exact (mem a z).2
      · exact .inr (h.kq.fresh z)
    · obtain ⟨z1, z2⟩ := a4 a (by simp only [List.mem_append] at ha hin ⊢; grind)
      exact ⟨k.sub a z1, z2⟩
end
/-! o.f = e -/
def putFD (f : Str) (d : D) : List (Str × D) → List (Str × D)
  | [] => [(f, d)]
  | (g, x) :: r => if g = f then (g, d) :: r else (g, x) :: putFD f d r
theorem putF_ol {K : PySem.W.Frag} {B B' : List Addr} {H H' : Hp} {g : List (Str × Sh)} {f : Str} {y : V} {dy : D} {m2 : List Addr} (x : Ex (hid B H) (hid B' H')) (o : Ow K B' H' (Sh.at g f) m2 y dy) :
    ∀ {xs : List (Str × V)} {kvs : List (Str × D)} {fps : List Addr}, (xs.map fun q => q.1) = (kvs.map fun q => q.1) → OwL K B H (kvs.map fun q => Sh.at g q.1) fps (xs.map fun q => q.2) (kvs.map fun q => q.2) → (∀ a ∈ fps, H' a = H a) → (fps ++ m2).Nodup →
      ∃ fps', OwL K B' H' ((putFD f dy kvs).map fun q => Sh.at g q.1) fps' ((putF f y xs).map fun q => q.2) ((putFD f dy kvs).map fun q => q.2) ∧ ((putF f y xs).map fun q => q.1) = ((putFD f dy kvs).map fun q => q.1) ∧ fps'.Nodup ∧ ∀ a ∈ fps', a ∈ fps ∨ a ∈ m2
  | [], [], fps, _, ol, _, nd => by
    cases ol
    refine ⟨m2, ?_, rfl, by simpa using nd, fun a ha => .inr ha⟩
    exact OwL.one o
  | [], _ :: _, _, e, _, _, _ => by cases e
  | _ :: _, [], _, e, _, _, _ => by cases e
  | (k, v) :: xs, (k', d) :: kvs, _, e, ol, hs, nd => by
    simp only [List.map_cons, List.cons.injEq] at e
    obtain ⟨e1, e2⟩ := e
    have e1' : k = k' := e1
    subst e1'
    cases ol with
    | @cons _ fp fps _ _ _ _ _ h r =>
      unfold putFD putF
      by_cases hk : k = f
      · subst hk
        rw [if_pos rfl, if_pos rfl]
        refine ⟨m2 ++ fps, .cons o (OwL.mono x (fun a ha => hs a (List.mem_append_right _ ha)) r), by simp [e2], ?_, fun a ha => ?_⟩
        · simp only [List.nodup_append, List.mem_append] at nd ⊢
          grind
        · simp only [List.mem_append] at ha ⊢
          grind
      · rw [if_neg hk, if_neg hk]
        obtain ⟨fps', c1, c2, c3, c4⟩ := putF_ol x o e2 r (fun a ha => hs a (List.mem_append_right _ ha)) (by simp only [List.nodup_append, List.mem_append] at nd ⊢; grind)
        refine ⟨fp ++ fps', .cons (Ow.mono x (fun a ha => hs a (List.mem_append_left _ ha)) h) c1, by simp [c2], ?_, fun a ha => ?_⟩
        · simp only [List.nodup_append, List.mem_append] at nd ⊢
          grind
        · simp only [List.mem_append] at ha ⊢
          rcases ha with ha | ha
          · exact .inl (.inl ha)
          · rcases c4 a ha with z | z
            · exact .inl (.inr z)
            · exact .inr z
def fldQ (C : Str) (f : Str) (i : Nat) (m : Sl → R (D × Sl)) : Sl → OQ := fun env => toQ (m env) fun p => match p.2[i]? with
  | some (some (.ins C' kvs)) => if C' = C ∧ kvs.length < 1000 then .nx (p.2.set i (some (.ins C' (putFD f p.1 kvs)))) else .bad
  | _ => .bad
section
variable {X : Cx} {W : WX} {ow : List Nat} {shs rshs : List Sh} {rsh sh s1 : Sh} {a b c e o : Expr} {es : List Expr} {m ma mb : Sl → R D} {mq mq2 : Sl → R (D × Sl)} {mt : Sl → R Bool} {mr : Sl → R (List D × Sl)} {pos p2 apos cpos px : Pos} {n k i : Nat} {sm : Sl → R (Option Stp)} {xs ys : List Stmt} {na nb : Sl → OQ} {st : Stmt} {rest : List Stmt}
theorem qs_fld {C : Addr} {cc f y : Str} {g : List (Str × Sh)} (cn : CN X.K C cc) (c : Cls X.K C) (nn : NoAttr X.K C f) (hs : shs[i]? = some (.ins g)) (hat : Sh.at g f = s1) (he : MQ X W shs s1 e mq) (hN : X.N[i]? = some y) (hv : Vis X.env.scope y) (hd : (y == ("__debug__" : Str)) = false := by decide) (hcd : (y == ("__classdict__" : Str)) = false := by decide)
    (hsw : swapsWith e (some (.Attribute (.Name y px) f p2)) pos.line X.env = pure false := by rfl) : QS X W ow shs rsh (.Assign [.Attribute (.Name y px) f p2] e pos) (fldQ cc f i mq) := by
  obtain ⟨t, a1, a2⟩ := he
  refine ⟨_, ps_fld (pe_var (i := i) hN hv hd hcd) a1 hsw, fun v0 M B0 H0 ks B H σ env E r ff h => a2 M B0 H0 ks B H σ env [] [] [] _ r ?_⟩
  unfold fldQ toQ at h
  cases hm : mq env with
  | ok p =>
    obtain ⟨dy, e1⟩ := p
    rw [hm] at h
    intro yv B1 H1 r1
    simp only at h
    split at h
    · next C' kvs hk =>
      split at h
      · next hC =>
        obtain ⟨rfl, hlen⟩ := hC
        obtain ⟨sh0, v, fp, z1, z2, z3⟩ := r1.at hk
        rw [hs] at z1
        cases z1
        subst hat
        obtain ⟨m1, m2, o1, o2, nd, mem, back⟩ := RQ.absorb (P := []) (pv := []) (pd := []) r1 hk hs z2
        cases o1 with
        | @ins _ p C2 dx _ fps xs _ hcn hp hx hkk ol =>
          have eC := hcn.inj cn
          subst eC
          have lx : xs.length = kvs.length := by
            have := congrArg List.length hkk
            simpa using this
          refine ⟨.ref p, z2, p, _, dx, xs, rfl, hp, c, nn, by rw [lx]; exact hlen, ?_⟩
          have hpB : p ∈ B1 := mem p (by simp)
          have k : Kq [p] B1 H1 B1 (upd H1 p (.ins C2 dx (putF f yv xs))) := Kq.put r1.kq.inB hpB
          have pnot : p ∉ fps ∧ p ∉ m2 ∧ p ≠ dx ∧ dx ∉ fps ∧ dx ∉ m2 := by
            simp only [List.cons_append, List.nodup_cons, List.mem_append, List.mem_cons] at nd
            grind
          obtain ⟨fps', c1, c2, c3, c4⟩ := putF_ol k.ex (o2.mono k.ex fun a ha => upd_ne (fun z => pnot.2.1 (z ▸ ha))) hkk ol (fun a ha => upd_ne (fun z => pnot.1 (z ▸ ha))) (by
            simp only [List.cons_append, List.nodup_cons] at nd
            exact nd.2.2)
          refine h σ B1 _ (back B1 _ (p :: dx :: fps') (.ins C' (putFD f dy kvs)) (k.more (fun x hx => by rw [List.mem_singleton.mp hx]; simp) mem) (.ins hcn upd_same (by rw [upd_ne (Ne.symm pnot.2.2.1)]; exact hx) c2 c1) ?_ fun a ha => ?_) ff
          · refine List.nodup_cons.mpr ⟨fun z => ?_, List.nodup_cons.mpr ⟨fun z => ?_, c3⟩⟩
            · rcases List.mem_cons.mp z with z | z
              · exact pnot.2.2.1 z
              · rcases c4 p z with w | w
                · exact pnot.1 w
                · exact pnot.2.1 w
            · rcases c4 dx z with w | w
              · exact pnot.2.2.2.1 w
              · exact pnot.2.2.2.2 w
          · have hin : a ∈ p :: dx :: fps ++ m2 := by
              rcases List.mem_cons.mp ha with z | z
              · rw [z]; simp
              · rcases List.mem_cons.mp z with z | z
                · rw [z]; simp
                · rcases c4 a z with w | w
                  · simp [w]
                  · simp [w]
            exact ⟨mem a hin, .inl hin⟩
      · exact h.elim
    · exact h.elim
  | err c => rw [hm] at h; exact h.elim
  | bad => rw [hm] at h; exact h.elim
/-! o[k] = e; del o[k] -/
def putQL (shs : List Sh) (i : Nat) (sm : Sl → R (Option Stp)) (mi : Sl → R D) (m : Sl → R (D × Sl)) : Sl → OQ := fun env => toQ (m env) fun p => toQ (sm p.2) fun s => toQ (mi p.2) fun j => match j with
  | .int j => toQ (chUp shs i s (onL fun zs => match ixN zs.length j with
    | some k => .ok ((), zs.set k p.1)
    | none => .bad) p.2) fun q => .nx q.2
  | _ => .bad
def putQD (shs : List Sh) (i : Nat) (sm : Sl → R (Option Stp)) (mi : Sl → R D) (m : Sl → R (D × Sl)) : Sl → OQ := fun env => toQ (m env) fun p => toQ (sm p.2) fun s => toQ (mi p.2) fun j => match j with
  | .str j => toQ (chUp shs i s (onD fun kvs => if kvs.length ≤ 50000 then .ok ((), putD kvs j p.1) else .bad) p.2) fun q => .nx q.2
  | _ => .bad
def delQD (shs : List Sh) (i : Nat) (sm : Sl → R (Option Stp)) (mi : Sl → R D) : Sl → OQ := fun env => toQ (sm env) fun s => toQ (mi env) fun j => match j with
  | .str j => toQ (chUp shs i s (onD fun kvs => match kvs.lookup j with
    | some _ => .ok ((), dropD kvs j)
    | none => .bad) env) fun q => .nx q.2
  | _ => .bad
theorem RpA0.setq {K : PySem.W.Frag} {H : Hp} {v : V} {d : D} (r : Rp0 K H v d) {xs : List V} {ds : List D} (k : Nat) (h : RpA0 K H xs ds) : RpA0 K H (xs.set k v) (ds.set k d) := RpA0.set r k h
theorem qs_putL {ie : Expr} {mi : Sl → R D} {spos : Pos} (he : MQ X W shs .pl e mq) (ho : MPl X W shs i o sm) (hie : MN X W shs ie mi)
    (ha : ∀ v, assign (.Subscript o ie spos) X.env v = (do
      let ov ← holding [v] (eval o X.env)
      let iv ← holding [v, ov] (eval ie X.env)
      standAt spos
      holding [v, ov, iv] (setItem ov iv v)
      release [v, ov, iv] []) := by intro _; rfl)
    (hs : swapsWithSole [.Subscript o ie spos] e pos.line X.env = pure false := by rfl) (hw : swappedStores [.Subscript o ie spos] e X.env = pure none := by rfl)
    (h1 : (assignEach [.Subscript o ie spos] X.env).map (·.2) = [assign (.Subscript o ie spos) X.env] := by rfl) : QS X W ow shs rsh (.Assign [.Subscript o ie spos] e pos) (putQL shs i sm mi mq) := by
  obtain ⟨t, a1, a2⟩ := he
  obtain ⟨to, o1, o2⟩ := ho
  obtain ⟨u, b1, b2⟩ := hie
  refine ⟨_, ps_asg a1 (pg_sub o1 b1 set_list ha) hs hw h1, fun v0 M B0 H0 ks B H σ env E r f h => a2 M B0 H0 ks B H σ env [] [] [] _ r ?_⟩
  unfold putQL toQ at h
  cases hm : mq env with
  | ok p =>
    obtain ⟨dy, e1⟩ := p
    rw [hm] at h
    intro yv B1 H1 r1
    simp only at h
    obtain ⟨ry, r2⟩ := RQ.plain1 (P := []) (pv := []) (pd := []) r1
    refine o2 M B0 H0 ks B1 H1 σ e1 [] [] [] _ r2 ?_
    cases hs : sm e1 with
    | ok s =>
      rw [hs] at h
      intro v H2 kx fo
      obtain ⟨rv, h2, h3⟩ := fo
      simp only at h
      have r3 := r2.mono kx
      refine b2 M B0 H0 ks B1 H2 σ e1 [] [] [] _ r3 ?_
      cases hi : mi e1 with
      | ok j =>
        rw [hi] at h
        intro w H3 kx2 rw_
        simp only at h
        split at h
        · next jn =>
          cases rw_
          split at h
          · next p hu =>
            obtain ⟨d, sh, sh', c, x, c', z1, z2, z3, z4, rfl⟩ := chUp_ok hu
            obtain ⟨zs, y, zs', rfl, rfl, z5, z6⟩ := onL_ok z4
            cases z6
            obtain ⟨p', xs', e0, hp', ra', back'⟩ := (r3.mono kx2).flatL z1 z2 z3 h2 (h3.mono kx2.ex)
            subst e0
            split at z5
            · next k hk =>
              cases z5
              refine ⟨p', xs', jn, k, rfl, rfl, hp', by rw [ra'.length]; exact hk, ?_⟩
              have := back' (xs'.set k yv) (zs.set k dy) [] [] (RpA0.setq ((ry.mv kx).mv kx2) k ra') .nil
              simp only [List.append_nil, List.length_nil, List.replicate] at this
              exact h σ B1 _ this f
            · cases z5
          · exact h.elim
        · exact h.elim
      | err c => rw [hi] at h; exact h.elim
      | bad => rw [hi] at h; exact h.elim
    | err c => rw [hs] at h; exact h.elim
    | bad => rw [hs] at h; exact h.elim
  | err c => rw [hm] at h; exact h.elim
  | bad => rw [hm] at h; exact h.elim
theorem qs_putD {ie : Expr} {mi : Sl → R D} {spos : Pos} (hu : X.A.units + 1 < cLine) (he : MQ X W shs .pl e mq) (ho : MPl X W shs i o sm) (hie : MN X W shs ie mi)
    (ha : ∀ v, assign (.Subscript o ie spos) X.env v = (do
      let ov ← holding [v] (eval o X.env)
      let iv ← holding [v, ov] (eval ie X.env)
      standAt spos
      holding [v, ov, iv] (setItem ov iv v)
      release [v, ov, iv] []) := by intro _; rfl)
    (hs : swapsWithSole [.Subscript o ie spos] e pos.line X.env = pure false := by rfl) (hw : swappedStores [.Subscript o ie spos] e X.env = pure none := by rfl)
    (h1 : (assignEach [.Subscript o ie spos] X.env).map (·.2) = [assign (.Subscript o ie spos) X.env] := by rfl) : QS X W ow shs rsh (.Assign [.Subscript o ie spos] e pos) (putQD shs i sm mi mq) := by
  obtain ⟨t, a1, a2⟩ := he
  obtain ⟨to, o1, o2⟩ := ho
  obtain ⟨u, b1, b2⟩ := hie
  refine ⟨_, ps_asg a1 (pg_sub o1 b1 (set_dict hu) ha) hs hw h1, fun v0 M B0 H0 ks B H σ env E r f h => a2 M B0 H0 ks B H σ env [] [] [] _ r ?_⟩
  unfold putQD toQ at h
  cases hm : mq env with
  | ok p =>
    obtain ⟨dy, e1⟩ := p
    rw [hm] at h
    intro yv B1 H1 r1
    simp only at h
    obtain ⟨ry, r2⟩ := RQ.plain1 (P := []) (pv := []) (pd := []) r1
    refine o2 M B0 H0 ks B1 H1 σ e1 [] [] [] _ r2 ?_
    cases hs : sm e1 with
    | ok s =>
      rw [hs] at h
      intro v H2 kx fo
      obtain ⟨rv, h2, h3⟩ := fo
      simp only at h
      have r3 := r2.mono kx
      refine b2 M B0 H0 ks B1 H2 σ e1 [] [] [] _ r3 ?_
      cases hi : mi e1 with
      | ok j =>
        rw [hi] at h
        intro w H3 kx2 rw_
        simp only at h
        split at h
        · next jn =>
          cases rw_
          split at h
          · next p hu =>
            obtain ⟨d, sh, sh', c, x, c', z1, z2, z3, z4, rfl⟩ := chUp_ok hu
            obtain ⟨kvs, y, zs', rfl, rfl, z5, z6⟩ := onD_ok z4
            cases z6
            obtain ⟨p', xs', e0, hp', hpB, ra', back'⟩ := (r3.mono kx2).flatD z1 z2 z3 h2 (h3.mono kx2.ex)
            subst e0
            split at z5
            · next hl =>
              cases z5
              have hlen : xs'.length = kvs.length := ra'.length
              refine ⟨p', _, rfl, DPut.k (k := Sum.inr jn) hp' (show xs'.length < 2 ^ 24 by omega), ?_⟩
              exact h σ B1 _ (back' (putK xs' (Sum.inr jn) yv) (putD kvs jn dy) (RpD0.put ((ry.mv kx).mv kx2) ra')) f
            · cases z5
          · exact h.elim
        · exact h.elim
      | err c => rw [hi] at h; exact h.elim
      | bad => rw [hi] at h; exact h.elim
    | err c => rw [hs] at h; exact h.elim
    | bad => rw [hs] at h; exact h.elim
  | err c => rw [hm] at h; exact h.elim
  | bad => rw [hm] at h; exact h.elim
theorem qs_del {ie : Expr} {mi : Sl → R D} {tpos : Pos} (ho : MPl X W shs i o sm) (hie : MN X W shs ie mi) : QS X W ow shs rsh (.Delete [.Subscript o ie tpos] pos) (delQD shs i sm mi) := by
  obtain ⟨to, o1, o2⟩ := ho
  obtain ⟨u, b1, b2⟩ := hie
  refine ⟨_, ps_ddel o1 b1, fun v0 M B0 H0 ks B H σ env E r f h => o2 M B0 H0 ks B H σ env [] [] [] _ r ?_⟩
  unfold delQD toQ at h
  cases hs : sm env with
  | ok s =>
    rw [hs] at h
    intro v H2 kx fo
    obtain ⟨rv, h2, h3⟩ := fo
    simp only at h
    have r3 := r.mono kx
    refine b2 M B0 H0 ks B H2 σ env [] [] [] _ r3 ?_
    cases hi : mi env with
    | ok j =>
      rw [hi] at h
      intro w H3 kx2 rw_
      simp only at h
      split at h
      · next jn =>
        cases rw_
        split at h
        · next p hu =>
          obtain ⟨d, sh, sh', c, x, c', z1, z2, z3, z4, rfl⟩ := chUp_ok hu
          obtain ⟨kvs, y, zs', rfl, rfl, z5, z6⟩ := onD_ok z4
          cases z6
          obtain ⟨p', xs', e0, hp', hpB, ra', back'⟩ := (r3.mono kx2).flatD z1 z2 z3 h2 (h3.mono kx2.ex)
          subst e0
          split at z5
          · next w0 hl =>
            cases z5
            obtain ⟨vv, hv⟩ := lk_D hl (rpd_keys ra').1
            refine ⟨p', xs', Sum.inr jn, rfl, hp', rfl, by rw [hv]; rfl, ?_⟩
            exact h σ B _ (back' (dropK xs' (Sum.inr jn)) (dropD kvs jn) (RpD0.drop jn ra')) f
          · cases z5
        · exact h.elim
      · exact h.elim
    | err c => rw [hi] at h; exact h.elim
    | bad => rw [hi] at h; exact h.elim
  | err c => rw [hs] at h; exact h.elim
  | bad => rw [hs] at h; exact h.elim
/-! parts of lists of one's own; copies -/
def slP (shs : List Sh) (i : Nat) (sm : Sl → R (Option Stp)) (ml mh : Sl → R (Option Int)) : Sl → R D := fun env => (sm env).bind fun s => (ml (wipeQ shs env)).bind fun lo => (mh (wipeQ shs env)).bind fun hi => match env[i]?, shs[i]? with
  | some (some d), some sh => match chO sh d s with
    | some (.lst .pl, .lst zs) => .ok (.lst (cutD zs lo hi))
    | _ => .bad
  | _, _ => .bad
theorem sl_run {lo hi : Option Expr} {ml mh : Sl → R (Option Int)} (ho : MPl X W shs i o sm) (hl : MO X W lo ml) (hh : MO X W hi mh) :
    ∃ te, PE X (.Subscript o (.Slice lo hi none p2) pos) te ∧ ∀ (M B0 : List Addr) (H0 : Hp) (ks : List (List Addr × Hp)) (B : List Addr) (H : Hp) (σ : L2.St) (env : Sl) (P : List Sh) (pv : List V) (pd : List D) (Q : VK) (dd : D), RQ X.K M B0 H0 ks B H shs σ env P pv pd → slP shs i sm ml mh env = .ok dd →
      (∀ p H1 xs ds, Kx B H H1 → H1 p = none → dd = .lst ds → RpA X.K B H1 xs ds → Q (.ref p) (upd H1 p (.lst xs))) → te σ H Q := by
  obtain ⟨to, o1, o2⟩ := ho
  obtain ⟨tl, l1, l2⟩ := hl
  obtain ⟨th, h1, h2⟩ := hh
  refine ⟨_, pe_slice sl_list o1 l1 h1, fun M B0 H0 ks B H σ env P pv pd Q dd r q k => o2 M B0 H0 ks B H σ env P pv pd _ r ?_⟩
  unfold slP at q
  cases hs : sm env with
  | ok s =>
    rw [hs] at q
    simp only [R.bind] at q
    intro v H1 kx fo
    obtain ⟨rv, g2, g3⟩ := fo
    have r1 := r.mono kx
    cases hml : ml (wipeQ shs env) with
    | ok lo =>
      rw [hml] at q
      simp only at q
      refine l2 _ σ B H1 _ r1.rsH ?_
      rw [hml]
      intro lo' H2 kx2 e2
      have e2' : lo' = lo := e2
      subst e2'
      have r2 := r1.mono kx2
      cases hmh : mh (wipeQ shs env) with
      | ok hi =>
        rw [hmh] at q
        simp only at q
        refine h2 _ σ B H2 _ r2.rsH ?_
        rw [hmh]
        intro hi' H3 kx3 e3
        have e3' : hi' = hi := e3
        subst e3'
        have r3 := r2.mono kx3
        split at q
        · next d sh he hsh =>
          split at q
          · next zs hc =>
            cases q
            obtain ⟨p, xs, rfl, hp, ra, _⟩ := r3.flatL he hsh hc g2 ((g3.mono kx2.ex).mono kx3.ex)
            exact ⟨p, xs, rfl, sq_of hp, fun p' hp' => k p' H3 _ _ ((kx.trans kx2).trans kx3) hp' rfl (cut_rp ra)⟩
          · cases q
        · cases q
      | err c => rw [hmh] at q; cases q
      | bad => rw [hmh] at q; cases q
    | err c => rw [hml] at q; cases q
    | bad => rw [hml] at q; cases q
  | err c => rw [hs] at q; cases q
  | bad => rw [hs] at q; cases q
theorem mn_sl {lo hi : Option Expr} {ml mh : Sl → R (Option Int)} (ho : MPl X W shs i o sm) (hl : MO X W lo ml) (hh : MO X W hi mh) : MN X W shs (.Subscript o (.Slice lo hi none p2) pos) (slP shs i sm ml mh) := by
  obtain ⟨t, a, b⟩ := sl_run (p2 := p2) (pos := pos) ho hl hh
  refine ⟨t, a, fun M B0 H0 ks B H σ env P pv pd Q r q => ?_⟩
  cases hm : slP shs i sm ml mh env with
  | ok dd =>
    rw [hm] at q
    refine b M B0 H0 ks B H σ env P pv pd Q dd r hm fun p H1 xs ds kx hp e ra => ?_
    subst e
    exact q _ _ (kx.trans (Kx.new kx.inB' hp)) (.lst (hid_new kx.inB' hp) (ra.mv (Kx.new kx.inB' hp)))
  | err c => rw [hm] at q; exact q.elim
  | bad => rw [hm] at q; exact q.elim
theorem mq_sl {lo hi : Option Expr} {ml mh : Sl → R (Option Int)} (ho : MPl X W shs i o sm) (hl : MO X W lo ml) (hh : MO X W hi mh) : MQ X W shs (.lst .pl) (.Subscript o (.Slice lo hi none p2) pos) (qN (slP shs i sm ml mh)) := by
  obtain ⟨t, a, b⟩ := sl_run (p2 := p2) (pos := pos) ho hl hh
  refine ⟨t, a, fun M B0 H0 ks B H σ env P pv pd Q r q => ?_⟩
  unfold qN at q
  cases hm : slP shs i sm ml mh env with
  | ok dd =>
    rw [hm] at q
    refine b M B0 H0 ks B H σ env P pv pd Q dd r hm fun p H1 xs ds kx hp e ra => ?_
    subst e
    refine q _ _ _ ((r.mono kx).fresh (Kq.lay kx.inB' hp) (ow_mkL upd_same (ra.mono (Kq.lay kx.inB' hp).ex)) (by simp) fun a ha => ?_)
    rw [List.mem_singleton.mp ha]
    exact ⟨List.mem_cons_self, hp⟩
  | err c => rw [hm] at q; exact q.elim
  | bad => rw [hm] at q; exact q.elim
def dictP (shs : List Sh) (i : Nat) (sm : Sl → R (Option Stp)) : Sl → R (D × Sl) := fun env => (sm env).bind fun s => match env[i]?, shs[i]? with
  | some (some d), some sh => match chO sh d s with
    | some (.dct [], .dct kvs) => .ok (.dct kvs, env)
    | _ => .bad
  | _, _ => .bad
theorem mq_dictP {x : Pos} (hg : Gl X "dict") (hm : X.mg "dict" = none) (ho : MPl X W shs i e sm) (hs : starEach [e] X.env = (false, eval e X.env) :: starEach [] X.env := by rfl) : MQ X W shs (.dct []) (.Call (.Name "dict" x) [e] [] pos) (dictP shs i sm) := by
  obtain ⟨t, a, b⟩ := ho
  refine ⟨_, pe_callTy call_dictD hg hm (by decide +kernel) (pa_cons a pa_nil hs) (he := hs), fun M B0 H0 ks B H σ env P pv pd Q r q => b M B0 H0 ks B H σ env P pv pd _ r ?_⟩
  unfold dictP at q
  cases hsm : sm env with
  | ok s =>
    rw [hsm] at q
    simp only [R.bind] at q
    intro v H1 kx fo
    obtain ⟨rv, g2, g3⟩ := fo
    have r1 := r.mono kx
    split at q
    · next d sh he hsh =>
      split at q
      · next kvs hc =>
        obtain ⟨p, xs, rfl, hp, hpB, ra, _⟩ := r1.flatD he hsh hc g2 g3
        refine ⟨p, xs, rfl, .inl hp, fun l hl => q _ _ _ (r1.fresh (Kq.lay r1.kq.inB hl) (ow_mkD upd_same (ra.mono (Kq.lay r1.kq.inB hl).ex)) (by simp) fun a ha => ?_)⟩
        rw [List.mem_singleton.mp ha]
        exact ⟨List.mem_cons_self, hl⟩
      · exact q.elim
    · exact q.elim
  | err c => rw [hsm] at q; exact q.elim
  | bad => rw [hsm] at q; exact q.elim
end
end Ask
namespace Ask
open PySem L2 Evl
/-! ### defs -/
section
variable {K : PySem.W.Frag} {B : List Addr} {H : Hp}
theorem ows_none : ∀ {shs : List Sh} {n m : Nat}, shs.length = n → OwS K B H shs [] (List.replicate n none) (List.replicate n none)
  | [], 0, _, _ => .nil
  | sh :: shs, n + 1, _, h => .non (ows_none (m := 0) (Nat.succ.inj h))
theorem ows_start {L : List Sh} {nl : Nat} (hL : L.length = nl) : ∀ {P : List Sh} {f : List Addr} {vs : List V} {ds : List D}, OwL K B H P f vs ds → OwS K B H (P ++ L) f (vs.map some ++ List.replicate nl none) (ds.map some ++ List.replicate nl none)
  | _, _, _, _, .nil => by
    simp only [List.nil_append, List.map_nil]
    exact ows_none (m := 0) hL
  | _, _, _, _, .cons h r => .som h (ows_start hL r)
theorem RQ.start {M : List Addr} {P L : List Sh} {vs : List V} {ds : List D} {nl : Nat} (hL : L.length = nl) (hB : InB B H) (o : OwL K B H P M vs ds) (nd : M.Nodup) (hM : ∀ a ∈ M, a ∈ B) : RQ K M B H [] B H (P ++ L) (vs.map some ++ List.replicate nl none) (ds.map some ++ List.replicate nl none) [] [] [] := by
  refine ⟨(Kq.refl hB).more (fun _ z => by cases z) hM, (fun _ z => by cases z), M, [], ows_start hL o, .nil, by rw [List.append_nil]; exact nd, fun a ha => ?_⟩
  rw [List.append_nil] at ha
  exact ⟨hM a ha, .inl ha⟩
/-- what stands at the end: the argument that is changed, and what comes back -/
theorem RQ.end_ {M B0 B : List Addr} {H0 H : Hp} {ks : List (List Addr × Hp)} {σ : L2.St} {env : Sl} {shs : List Sh} {j : Nat} {sh rsh : Sh} {v0 v : V} {d d' : D} (h : RQ K M B0 H0 ks B H shs σ env [rsh] [v] [d]) (hj : env[j]? = some (some d')) (hs : shs[j]? = some sh) (hσ : σ[j]? = some (some v0)) :
    ∃ fp' fr, Ow K B H sh fp' v0 d' ∧ Ow K B H rsh fr v d ∧ (fp' ++ fr).Nodup ∧ ∀ a ∈ fp' ++ fr, a ∈ B ∧ (a ∈ M ∨ H0 a = none) := by
  obtain ⟨f1, f2, a1, a2, a3, a4⟩ := h.own
  have hil : j < env.length := by
    by_cases hh : j < env.length
    · exact hh
    · rw [List.getElem?_eq_none (by omega)] at hj; cases hj
  obtain ⟨s, l, m, r, b1, rfl, b3, b4, b5⟩ := a1.focus hil
  rw [hs] at b1
  cases b1
  obtain ⟨v', c1, c2⟩ := b3 d' hj
  rw [hσ] at c1
  cases c1
  cases a2 with
  | @cons _ fr fps _ _ _ _ _ o1 o2 =>
    cases o2
    refine ⟨m, fr, c2, o1, ?_, fun a ha => a4 a (by simp only [List.mem_append] at ha ⊢; grind)⟩
    simp only [List.nodup_append, List.mem_append] at a3 ⊢
    grind
theorem RQ.endF {M B0 B : List Addr} {H0 H : Hp} {ks : List (List Addr × Hp)} {σ : L2.St} {env : Sl} {shs : List Sh} {rsh : Sh} {v : V} {d : D} (h : RQ K M B0 H0 ks B H shs σ env [rsh] [v] [d]) :
    ∃ fr, Ow K B H rsh fr v d ∧ fr.Nodup ∧ ∀ a ∈ fr, a ∈ B ∧ (a ∈ M ∨ H0 a = none) := by
  obtain ⟨f1, f2, a1, a2, a3, a4⟩ := h.own
  cases a2 with
  | @cons _ fr fps _ _ _ _ _ o1 o2 =>
    cases o2
    refine ⟨fr, o1, ?_, fun a ha => a4 a (by simp only [List.mem_append]; exact .inr (.inl ha))⟩
    simp only [List.nodup_append, List.mem_append] at a3
    grind
end
def startQ (last : Bool) (nl : Nat) (d0 : D) (ds : List D) : Sl := (if last = true then ds ++ [d0] else d0 :: ds).map some ++ List.replicate nl none
def fnQf (last : Bool) (n nl : Nat) (body : Sl → OQ) : D → List D → R (D × D) := fun d0 ds => if ds.length = n then match body (startQ last nl d0 ds) with
    | .rt d env => match env[if last = true then n else 0]? with
      | some (some d') => .ok (d, d')
      | _ => .bad
    | .nx env => match env[if last = true then n else 0]? with
      | some (some d') => .ok (.non, d')
      | _ => .bad
    | _ => .bad else .bad
def fnF (n nl : Nat) (body : Sl → OQ) : List D → R D := fun ds => if ds.length = n then match body (ds.map some ++ List.replicate nl none) with
    | .rt d _ => .ok d
    | _ => .bad else .bad
/-- the shapes of a def's names: the one that is changed, the other arguments, the rest -/
def shQ (last : Bool) (n : Nat) (sh : Sh) (L : List Sh) : List Sh := (if last = true then List.replicate n .pl ++ [sh] else sh :: List.replicate n .pl) ++ L
section
variable {P : Program} {w : World} {K : PySem.W.Frag} {mg : Str → Option Value} {base : Heap} {x qual : Str} {st : Stmt} {f : Addr} {fd : FuncData} {N ps : List Str} {k n nl : Nat} {mb : Sl → OQ} {sh rsh : Sh} {L : List Sh}
theorem fn_qR {last : Bool} (F : Fun K x qual st f fd) (S : FnScope N ps (defScope st)) (hn : ps.length = n + 1) (hnl : N.length = n + 1 + nl) (hL : L.length = nl)
    (body : ∀ (cdv : Value) (A : Around) (outer : List Env) (s : Shared) (H : Hp) (E : XK), Room k (A.deeper (PyProof.Rows.envOfC qual (defScope st) s.heap.objs.size f cdv)) →
      QSs (cxOf (L2.CX P w) P w K mg base N qual (defScope st) f cdv A outer s H E) (fun cls d _ H' => E cls d H') [if last = true then n else 0] (shQ last n sh L) .pl (defBody st) mb) : FnOk P w K mg base (L2.CX P w) (k + 1) f fd ps (spQ K last sh .pl n (fnQf last n nl mb)) := by
  refine F.okX S (fun vs H Q E h => ?_) fun cdv A outer s H vs Q E hr h => ?_
  · obtain ⟨B, fp, v0, d0, vs', ds, hB, rfl, hl, o, nd, hM, ra, q⟩ := h
    have := ra.length
    cases last <;> simp <;> omega
  · obtain ⟨B, fp, v0, d0, vs', ds, hB, rfl, hl, o, nd, hM, ra, q⟩ := h
    obtain ⟨t, t1, t2⟩ := body cdv A outer s H E hr
    have hlv := ra.length
    have ol : OwL K B H (if last = true then List.replicate n .pl ++ [sh] else sh :: List.replicate n .pl) fp (if last = true then vs' ++ [v0] else v0 :: vs') (if last = true then ds ++ [d0] else d0 :: ds) := by
      have pl := OwL.plain ra
      rw [hl] at pl
      cases last with
      | true => simpa using pl.app (OwL.one o)
      | false => simpa using (OwL.one o).app pl
    have r0 := RQ.start (K := K) (nl := nl) hL hB ol nd hM
    have es : L2.start N (if last = true then vs' ++ [v0] else v0 :: vs') = (if last = true then vs' ++ [v0] else v0 :: vs').map some ++ List.replicate nl none := by
      unfold L2.start
      have : N.length - (if last = true then vs' ++ [v0] else v0 :: vs').length = nl := by cases last <;> simp <;> omega
      rw [this]
    refine ⟨t, t1, ?_⟩
    rw [es]
    have fx0 : Fx [if last = true then n else 0] (fun _ => v0) ((if last = true then vs' ++ [v0] else v0 :: vs').map some ++ List.replicate nl none) := fun i hi => by
      rw [List.mem_singleton.mp hi]
      cases last with
      | true => simp [List.getElem?_append, hlv, hl]
      | false => simp
    have hsj : (shQ last n sh L)[if last = true then n else 0]? = some sh := by
      unfold shQ
      cases last with
      | true => simp [List.getElem?_append]
      | false => simp
    refine t2 (fun _ => v0) fp B H [] B H _ _ _ r0 fx0 ?_
    unfold fnQf at q
    rw [if_pos hl] at q
    show PoSq K _ (fun _ => v0) fp B H [] _ _ { nx := fun _ H' => Q .non H', rt := Q } (mb (startQ last nl d0 ds))
    cases hb : mb (startQ last nl d0 ds) with
    | nx e =>
      rw [hb] at q
      intro σ' B' H' r f'
      simp only at q
      split at q
      · next d1 d2 h1 =>
        split at h1
        · next d' hd' =>
          cases h1
          have r2 := r.push (v := .non) (d := .non) .non
          obtain ⟨fp', fr, o1, o2, nd', mm⟩ := RQ.end_ r2 hd' hsj (f' _ (List.mem_singleton.mpr rfl))
          exact q .non H' B' fp' fr r.kq o1 o2 nd' mm
        · cases h1
      · exact q.elim
    | rt d e =>
      rw [hb] at q
      intro v σ' B' H' r f'
      simp only at q
      split at q
      · next d1 d2 h1 =>
        split at h1
        · next d' hd' =>
          cases h1
          obtain ⟨fp', fr, o1, o2, nd', mm⟩ := RQ.end_ r hd' hsj (f' _ (List.mem_singleton.mpr rfl))
          exact q v H' B' fp' fr r.kq o1 o2 nd' mm
        · cases h1
      · exact q.elim
    | bk e => rw [hb] at q; exact q.elim
    | ct e => rw [hb] at q; exact q.elim
    | bad => rw [hb] at q; exact q.elim
theorem fn_fR (F : Fun K x qual st f fd) (S : FnScope N ps (defScope st)) (hn : ps.length = n) (hnl : N.length = n + nl) (hL : L.length = nl)
    (body : ∀ (cdv : Value) (A : Around) (outer : List Env) (s : Shared) (H : Hp) (E : XK), Room k (A.deeper (PyProof.Rows.envOfC qual (defScope st) s.heap.objs.size f cdv)) →
      QSs (cxOf (L2.CX P w) P w K mg base N qual (defScope st) f cdv A outer s H E) (fun cls d _ H' => E cls d H') [] (List.replicate n .pl ++ L) rsh (defBody st) mb) : FnOk P w K mg base (L2.CX P w) (k + 1) f fd ps (spR K rsh n (fnF n nl mb)) := by
  refine F.okX S (fun vs H Q E h => ?_) fun cdv A outer s H vs Q E hr h => ?_
  · obtain ⟨B, ds, hB, hl, ra, q⟩ := h
    have := ra.length
    omega
  · obtain ⟨B, ds, hB, hl, ra, q⟩ := h
    obtain ⟨t, t1, t2⟩ := body cdv A outer s H E hr
    have hlv := ra.length
    have ol := OwL.plain ra
    rw [hl] at ol
    have r0 := RQ.start (K := K) (nl := nl) hL hB ol List.nodup_nil (fun _ z => by cases z)
    have es : L2.start N vs = vs.map some ++ List.replicate nl none := by
      unfold L2.start
      have : N.length - vs.length = nl := by omega
      rw [this]
    refine ⟨t, t1, ?_⟩
    rw [es]
    refine t2 (fun _ => .non) [] B H [] B H _ _ _ r0 (fun i hi => by cases hi) ?_
    unfold fnF at q
    rw [if_pos hl] at q
    show PoSq K _ (fun _ => .non) [] B H [] _ _ { nx := fun _ H' => Q .non H', rt := Q } (mb (ds.map some ++ List.replicate nl none))
    cases hb : mb (ds.map some ++ List.replicate nl none) with
    | nx e => rw [hb] at q; exact q.elim
    | rt d e =>
      rw [hb] at q
      intro v σ' B' H' r f'
      simp only at q
      obtain ⟨fr, o, nd, mm⟩ := r.endF
      exact q v H' B' fr r.kq o nd fun a ha => ⟨(mm a ha).1, (mm a ha).2.resolve_left (fun z => by cases z)⟩
    | bk e => rw [hb] at q; exact q.elim
    | ct e => rw [hb] at q; exact q.elim
    | bad => rw [hb] at q; exact q.elim
theorem fn_q (F : Fun K x qual st f fd) (S : FnScope N ps (defScope st)) (hn : ps.length = n + 1) (hnl : N.length = n + 1 + nl) (hL : L.length = nl) (hm : mg x = some (.ref f))
    (hbd : ∀ (kV doc pm : Value) (an : Option Addr) (cdv ct : Value) (us : List Value), us.length = ps.length → bindArgs (PySem.W.fnOf x qual (defArgs st) (defBody st) (defScope st) .none kV doc pm an cdv ct) ⟨us, []⟩ = pure (ps.zip us))
    (body : ∀ (cdv : Value) (A : Around) (outer : List Env) (s : Shared) (H : Hp) (E : XK), Room k (A.deeper (PyProof.Rows.envOfC qual (defScope st) s.heap.objs.size f cdv)) →
      QSs (cxOf (L2.CX P w) P w K mg base N qual (defScope st) f cdv A outer s H E) (fun cls d _ H' => E cls d H') [n] (List.replicate n .pl ++ [sh] ++ L) .pl (defBody st) mb) : FnQ P w K mg base x (k + 1) sh .pl n (fnQf true n nl mb) :=
  ⟨f, fd, ps, hn, hm, F.kp, F.binds hbd, fn_qR (last := true) F S hn hnl hL body⟩
theorem fn_f (F : Fun K x qual st f fd) (S : FnScope N ps (defScope st)) (hn : ps.length = n) (hnl : N.length = n + nl) (hL : L.length = nl) (hm : mg x = some (.ref f))
    (hbd : ∀ (kV doc pm : Value) (an : Option Addr) (cdv ct : Value) (us : List Value), us.length = ps.length → bindArgs (PySem.W.fnOf x qual (defArgs st) (defBody st) (defScope st) .none kV doc pm an cdv ct) ⟨us, []⟩ = pure (ps.zip us))
    (body : ∀ (cdv : Value) (A : Around) (outer : List Env) (s : Shared) (H : Hp) (E : XK), Room k (A.deeper (PyProof.Rows.envOfC qual (defScope st) s.heap.objs.size f cdv)) →
      QSs (cxOf (L2.CX P w) P w K mg base N qual (defScope st) f cdv A outer s H E) (fun cls d _ H' => E cls d H') [] (List.replicate n .pl ++ L) rsh (defBody st) mb) : FnF P w K mg base x (k + 1) rsh n (fnF n nl mb) :=
  ⟨f, fd, ps, hn, hm, F.kp, F.binds hbd, fn_fR F S hn hnl hL body⟩
/-- a method -/
theorem mt_q {C : Addr} (F : Fun K x qual st f fd) (S : FnScope N ps (defScope st)) (hn : ps.length = n + 1) (hnl : N.length = n + 1 + nl) (hL : L.length = nl) (hm : Meth K C x f)
    (hbd : ∀ (kV doc pm : Value) (an : Option Addr) (cdv ct : Value) (us : List Value), us.length = ps.length → bindArgs (PySem.W.fnOf x qual (defArgs st) (defBody st) (defScope st) .none kV doc pm an cdv ct) ⟨us, []⟩ = pure (ps.zip us))
    (body : ∀ (cdv : Value) (A : Around) (outer : List Env) (s : Shared) (H : Hp) (E : XK), Room k (A.deeper (PyProof.Rows.envOfC qual (defScope st) s.heap.objs.size f cdv)) →
      QSs (cxOf (L2.CX P w) P w K mg base N qual (defScope st) f cdv A outer s H E) (fun cls d _ H' => E cls d H') [0] (sh :: List.replicate n .pl ++ L) .pl (defBody st) mb) : MtQ P w K mg base C x (k + 1) sh .pl n (fnQf false n nl mb) :=
  ⟨f, fd, ps, hn, hm, F.binds hbd, fn_qR (last := false) F S hn hnl hL body⟩
/-- nothing is said -/
theorem fnq_none (F : Fun K x qual st f fd) (hn : ps.length = n + 1) (hm : mg x = some (.ref f))
    (hbd : ∀ (kV doc pm : Value) (an : Option Addr) (cdv ct : Value) (us : List Value), us.length = ps.length → bindArgs (PySem.W.fnOf x qual (defArgs st) (defBody st) (defScope st) .none kV doc pm an cdv ct) ⟨us, []⟩ = pure (ps.zip us)) : FnQ P w K mg base x k sh rsh n (fun _ _ => .bad) := by
  refine ⟨f, fd, ps, hn, hm, F.kp, F.binds hbd, fun vs H Q E h => ?_, fun A outer s H args us vs Q E _ _ _ _ h => ?_⟩
  · obtain ⟨_, _, _, _, _, _, _, _, _, _, _, _, _, q⟩ := h
    exact q.elim
  · obtain ⟨_, _, _, _, _, _, _, _, _, _, _, _, _, q⟩ := h
    exact q.elim
theorem fnf_none (F : Fun K x qual st f fd) (hn : ps.length = n) (hm : mg x = some (.ref f))
    (hbd : ∀ (kV doc pm : Value) (an : Option Addr) (cdv ct : Value) (us : List Value), us.length = ps.length → bindArgs (PySem.W.fnOf x qual (defArgs st) (defBody st) (defScope st) .none kV doc pm an cdv ct) ⟨us, []⟩ = pure (ps.zip us)) : FnF P w K mg base x k rsh n (fun _ => .bad) := by
  refine ⟨f, fd, ps, hn, hm, F.kp, F.binds hbd, fun vs H Q E h => ?_, fun A outer s H args us vs Q E _ _ _ _ h => ?_⟩
  · obtain ⟨_, _, _, _, _, q⟩ := h
    exact q.elim
  · obtain ⟨_, _, _, _, _, q⟩ := h
    exact q.elim
end
/-! ### comprehensions whose list is one's own -/
mutual
theorem rp_unviewG {K : PySem.W.Frag} {B B1 : List Addr} {H : Hp} (ho : ∀ a ∈ B, a ∈ B1 ∨ Mo H a) : ∀ {d : D} {v : V}, noK d = true → Rp0 K (hid B1 H) v d → Rp0 K (hid B H) v d
  | .non, v, _, r => by cases r; exact .non
  | .bl b, v, _, r => by cases r; exact .bl b
  | .int b, v, _, r => by cases r; exact .int b
  | .str b, v, _, r => by cases r; exact .str b
  | .ty b, v, _, r => by cases r; exact .ty b
  | .own b, v, _, r => by cases r; exact .own b
  | .tup ds, v, h, r => by
    cases r with
    | @tup a xs _ hp ra =>
      have hp2 := hid_some hp
      have hn : a ∉ B := fun z => by
        rcases ho a z with q | ⟨xs, e⟩ | ⟨xs, e⟩ | ⟨_, _, xs, e⟩ | ⟨xs, e⟩
        · unfold Ask.hid at hp
          rw [if_pos q] at hp
          cases hp
        all_goals (rw [hp2] at e; cases e)
      exact .tup (hid_at hp2 hn) (rpa_unviewG ho (by unfold noK at h; exact h) ra)
  | .lst _, v, h, r => by unfold noK at h; cases h
  | .ktup _, v, h, r => by unfold noK at h; cases h
  | .klst _, v, h, r => by unfold noK at h; cases h
  | .dct _, v, h, r => by unfold noK at h; cases h
  | .ins _ _, v, h, r => by unfold noK at h; cases h
theorem rpa_unviewG {K : PySem.W.Frag} {B B1 : List Addr} {H : Hp} (ho : ∀ a ∈ B, a ∈ B1 ∨ Mo H a) : ∀ {ds : List D} {vs : List V}, noKs ds = true → RpA0 K (hid B1 H) vs ds → RpA0 K (hid B H) vs ds
  | [], vs, _, r => by cases r; exact .nil
  | d :: ds, vs, h, r => by
    cases r with
    | cons r1 r2 =>
      unfold noKs at h
      rw [Bool.and_eq_true] at h
      exact .cons (rp_unviewG ho h.1 r1) (rpa_unviewG ho h.2 r2)
end
def qLc (m : Sl → R D) : Sl → R (D × Sl) := fun env => (m env).bind fun d => match d with
  | .lst ys => if noKs ys = true then .ok (.lst ys, env) else .bad
  | _ => .bad
section
variable {X : Cx} {W : WX} {shs : List Sh} {pos : Pos}
theorem mq_lcIf (i : Nat) {elt iter c : Expr} {x : Str} {px : Pos} {scope : Scope} {mi : Sl → R (List D)} {m : Sl → R D} {mt : Sl → R Bool} (hc : X.calm = true) (hN : X.N.Nodup) (hi : MI X W (.Name x px) iter mi) (ok : BlkOk X.N X.env.scope scope [(x, i)])
    (hg1 : Blk X scope fun Y => PG Y (.Name x px) (gName i)) (ht : Blk X scope fun Y => MT Y W0 c mt) (he : Blk X scope fun Y => ME Y W0 elt m) (hs : ∀ x, foldedSetIterable iter X.env x = pure x := by intro _; rfl) :
    MQ X W shs (.lst .pl) (.ListComp elt [⟨.Name x px, iter, [c], 0⟩] scope pos) (qLc (lcM mi [i] (tgN i) mt m)) := by
  obtain ⟨wi, i1, i2⟩ := hi
  refine ⟨_, pe_lc (own := [(x, i)]) hc hN i1 ok hg1 (fun s H C cl fp => pts_one (show PT _ c (tbOf X.K X.mg W0 mt) from (ht s H C cl fp).pt)) (fun s H C cl fp => (show PE _ elt (teOf X.K X.mg W0 m) from (he s H C cl fp).pe)) hs, fun M B0 H0 ks B H σ env P pv pd Q r q => ?_⟩
  obtain ⟨os, r1, r2⟩ := r.rsV
  refine EvLcF (W := W) (mg := X.mg) (bi := tgN i) i2 (fun env env' σ B H v d Q hs r h q => ?_) tbOf_ev teOf_ev (fun v σ H Q h => wipe_one h) env σ (viewB B os) H Q r1 ?_
  · cases h; exact q _ (hs.set r)
  · unfold qLc at q
    cases hm : lcM mi [i] (tgN i) mt m env with
    | ok d =>
      rw [hm] at q
      simp only [R.bind] at q
      split at q
      · next ys =>
        split at q
        · next hk =>
          intro p H' acc kx hp hp' ky ra
          have hB := r.kq.inB
          have hx : Ex H H' := kx.ex
          have k : Kq [] B H (p :: B) H' := {
            keep := fun a o e _ => hx a o e
            gr := fun a e w => by
              cases z : H a with
              | none => exact e z
              | some o => rw [hx a o z] at w; cases w
            sub := fun a z => List.mem_cons_of_mem _ z
            new := fun a z => by
              rcases List.mem_cons.mp z with e | e
              · exact .inr (by rw [e]; exact hp)
              · exact .inl e
            inB0 := hB
            inB := fun a z w => by
              rcases List.mem_cons.mp z with e | e
              · rw [e, hp'] at w; cases w
              · cases z2 : H a with
                | none => exact hB a e z2
                | some o => rw [hx a o z2] at w; cases w
            mB := fun _ z => by cases z }
          refine q (.ref p) (p :: B) H' (r.fresh k (ow_mkL hp' (rpa_unviewG (fun a ha => ?_) hk ra)) (by simp) fun a ha => ?_)
          · rcases List.mem_cons.mp ha with e | e
            · exact .inl (by rw [e]; exact List.mem_cons_self)
            · by_cases hos : a ∈ os
              · exact .inr ((r2 a hos e).mono hx)
              · exact .inl (List.mem_cons_of_mem _ (viewB_mem.mpr ⟨e, hos⟩))
          · rw [List.mem_singleton.mp ha]
            exact ⟨List.mem_cons_self, hp⟩
        · exact q.elim
      · exact q.elim
    | err c => rw [hm] at q; exact q.elim
    | bad => rw [hm] at q; exact q.elim
end
end Ask
namespace Ask
open PySem L2 Evl PyProof.Rows
section
variable {X : Cx} {W : WX} {shs : List Sh} {a b c e o : Expr} {es : List Expr} {m ma mb : Sl → R D} {pos p2 apos cpos px : Pos} {n k i : Nat}
/-! enumerate(tuple, start=k) -/
def enumD (k : Int) : List D → List D
  | [] => []
  | d :: ds => .tup [.int k, d] :: enumD (k + 1) ds
theorem enumD_at : ∀ {k : Int} {ds : List D} {i : Nat} {d : D}, ds[i]? = some d → (enumD k ds)[i]? = some (.tup [.int (k + ((i : Nat) : Int)), d])
  | k, d :: ds, 0, e, h => by simp at h; subst h; simp [enumD]
  | k, d :: ds, i + 1, e, h => by
    have := enumD_at (k := k + 1) (ds := ds) (i := i) (d := e) (by simpa using h)
    simp only [enumD, List.getElem?_cons_succ, this]
    have e1 : k + 1 + ((i : Nat) : Int) = k + ((i + 1 : Nat) : Int) := by omega
    rw [e1]
  | k, [], i, e, h => by simp at h
theorem enumD_len : ∀ (k : Int) (ds : List D), (enumD k ds).length = ds.length
  | _, [] => rfl
  | k, d :: ds => by simp only [enumD, List.length_cons, enumD_len (k + 1) ds]
theorem walks_enumT {K : PySem.W.Frag} {B : List Addr} {H : Hp} {p : Addr} {xs : List V} {ds : List D} {k : Int} (h : SqT K (hid B H) p xs) (r : RpA K B H xs ds) : Walks K B H (ItT K p k) (enumD k ds) := fun B' H2 e => by
  have h2 : SqT K (hid B' H2) p xs := ex_t e.hid h
  have r2 := r.my e
  have hl := r2.length
  rw [enumD_len]
  refine ⟨fun i hi => ?_, xs, ex_t (hid_ex B' H2) h2, hl⟩
  have hx : xs[i]? = some (xs[i]'(by omega)) := List.getElem?_eq_getElem _
  obtain ⟨d, hd, rd⟩ := r2.get' hx
  refine ⟨⟨xs, _, ex_t (hid_ex B' H2) h2, hx⟩, ?_⟩
  rintro v H3 ⟨T, x, rfl, hT, rfl, hget⟩
  have hx' := hget xs (ex_t (hid_ex B' H2) h2)
  rw [hx] at hx'
  cases hx'
  have kx : Kx B' H2 (upd H2 T (.tup [.int (k + (i : Nat)), xs[i]'(by omega)])) := Kx.new e.inB' hT
  exact ⟨kx, _, enumD_at hd, .tup (hid_new e.inB' hT) (.cons (.int _) (.cons (rd.mv kx) .nil))⟩
def enM (k : Int) (a : Sl → R D) : Sl → R (List D) := fun env => (a env).bind fun x => match x with
  | .tup ds => .ok (enumD k ds)
  | .ktup ds => .ok (enumD k ds)
  | _ => .bad
theorem mi_enum {elts : List Expr} {kk j : Nat} {p kp kp2 : Pos} {k : Int} (hk : -(2 ^ 63) ≤ k ∧ k < 2 ^ 63) (hg : Gl X "enumerate") (hm : X.mg "enumerate" = none) (ha : ME X W e ma)
    (hs : starEach [e] X.env = (false, eval e X.env) :: starEach [] X.env := by rfl)
    (he : backTo pos (starEach [e] X.env) = (false, eval e X.env) :: backTo pos (starEach [] X.env) := by rfl) (hpl : (backTo pos (starEach [e] X.env)).any (·.1) = false := by rfl) (hall : (backToKw pos (keywordEach [⟨some "start", .Constant (.int k) j kp2, kp⟩] X.env)).all (·.1.isSome) = true := by rfl) (hnone : (backToKw pos (keywordEach [⟨some "start", .Constant (.int k) j kp2, kp⟩] X.env)).any (·.1.isNone) = false := by rfl) (hks : (backToKw pos (keywordEach [⟨some "start", .Constant (.int k) j kp2, kp⟩] X.env)).filterMap (·.1) = [("start" : Str)] := by rfl) :
    MI X W (.Tuple elts kk p2) (.Call (.Name "enumerate" p) [e] [⟨some "start", .Constant (.int k) j kp2, kp⟩] pos) (enM k ma) := by
  obtain ⟨t, a1, a2⟩ := ha
  refine ⟨_, pi_enumT hg hm (pa_cons a1 pa_nil hs) (pk_cons pe_int pk_nil) he hpl hall hnone hks, fun env σ B H Q hs h => a2 env σ B H _ hs (Po.step h fun x _ v H1 e1 r1 q => ?_)⟩
  show ∃ a xs k', [v] = [V.ref a] ∧ [V.int k] = [V.int k'] ∧ SqT X.K H1 a xs ∧ -(2 ^ 63) ≤ k' ∧ k' < 2 ^ 63 ∧ Q (ItT X.K a k') H1
  cases r1 with
  | @tup p xs ds hp ra => exact ⟨p, xs, k, rfl, rfl, st_of (hid_some hp), hk.1, hk.2, q _ H1 (Kx.refl e1.inB') (walks_enumT (st_of hp) ra)⟩
  | @ktup p xs ds hp ra => exact ⟨p, xs, k, rfl, rfl, ex_t (hid_ex B H1) hp, hk.1, hk.2, q _ H1 (Kx.refl e1.inB') (walks_enumT hp ra)⟩
  | _ => exact q.elim
/-! reversed(list) -/
theorem walks_rev {K : PySem.W.Frag} {B : List Addr} {H : Hp} {p : Addr} {xs : List V} {ds : List D} (h : SqL K (hid B H) p xs) (r : RpA K B H xs ds) (inj : ∀ B' H2, Ky B H B' H2 → ∀ ys, SqL K H2 p ys → ys = xs) : Walks K B H (Itv K p xs.length) ds.reverse := fun B' H2 e => by
  have h2 : SqL K (hid B' H2) p xs := ex_l e.hid h
  have r2 := r.my e
  have hl := r2.length
  rw [List.length_reverse]
  refine ⟨fun i hi => ?_, Nat.le_of_eq hl⟩
  have hx : xs[xs.length - 1 - i]? = some (xs[xs.length - 1 - i]'(by omega)) := List.getElem?_eq_getElem _
  refine ⟨⟨by omega, xs, _, ex_l (hid_ex B' H2) h2, hx⟩, ?_⟩
  rintro v H3 ⟨rfl, hget⟩
  have hx' := hget xs (ex_l (hid_ex B' H3) h2)
  obtain ⟨d, hd, rd⟩ := r2.get' hx'
  refine ⟨Kx.refl e.inB', d, ?_, rd⟩
  rw [List.getElem?_reverse (by omega), ← hl]
  exact hd
def revM (a : Sl → R D) : Sl → R (List D) := fun env => (a env).bind fun x => match x with
  | .lst ds => .ok ds.reverse
  | _ => .bad
theorem mi_rev {tg : Expr} {p : Pos} (hg : Gl X "reversed") (hm : X.mg "reversed" = none) (ha : ME X W e ma) (hs : starEach [e] X.env = (false, eval e X.env) :: starEach [] X.env := by rfl) (hs2 : starEach [e] X.env = [(false, eval e X.env)] := by rfl) :
    MI X W tg (.Call (.Name "reversed" p) [e] [] pos) (revM ma) := by
  obtain ⟨t, a1, a2⟩ := ha
  refine ⟨_, pi_reversed hg hm (pa_cons a1 pa_nil hs) hs2, fun env σ B H Q hs h => a2 env σ B H _ hs (Po.step h fun x _ v H1 e1 r1 q => ?_)⟩
  show ∃ (a : Addr) (xs : List V), [v] = [V.ref a] ∧ SqL X.K H1 a xs ∧ Q (Itv X.K a xs.length) H1
  cases r1 with
  | @lst p xs ds hp ra =>
    refine ⟨p, xs, rfl, sq_of (hid_some hp), q _ H1 (Kx.refl e1.inB') fun B' H2 ky => ?_⟩
    have h2 : SqL X.K (hid B' H2) p xs := ex_l ky.hid (sq_of hp)
    have r2 := RpA0.my ra ky
    have hl := r2.length
    rw [List.length_reverse]
    refine ⟨fun i hi => ?_, Nat.le_of_eq hl⟩
    have hx : xs[xs.length - 1 - i]? = some (xs[xs.length - 1 - i]'(by omega)) := List.getElem?_eq_getElem _
    refine ⟨⟨by omega, xs, _, ex_l (hid_ex B' H2) h2, hx⟩, ?_⟩
    rintro v H3 ⟨rfl, hget⟩
    have hx' := hget xs (ex_l (hid_ex B' H3) h2)
    obtain ⟨d, hd, rd⟩ := r2.get' hx'
    refine ⟨Kx.refl ky.inB', d, ?_, rd⟩
    rw [List.getElem?_reverse (by omega), ← hl]
    exact hd
  | _ => exact q.elim
/-! reversed(range(n)) -/
def downD (n : Nat) : List D := (List.range n).map fun (i : Nat) => D.int ((n : Int) - 1 - (i : Int))
theorem walks_down {K : PySem.W.Frag} {B : List Addr} {H : Hp} {n : Nat} : Walks K B H (Itc ((n : Int) - 1) (-1) n) (downD n) := fun B' H2 e => by
  unfold downD
  rw [List.length_map, List.length_range]
  refine ⟨fun i hi => ⟨hi, ?_⟩, Nat.le_refl _⟩
  rintro x H3 ⟨rfl, rfl⟩
  refine ⟨Kx.refl e.inB', .int ((n : Int) - 1 - (i : Int)), ?_, ?_⟩
  · rw [List.getElem?_map, List.getElem?_range hi]
    rfl
  · have : (n : Int) - 1 + (i : Int) * (-1) = (n : Int) - 1 - (i : Int) := by omega
    rw [this]
    exact .int _
def downM (a : Sl → R D) : Sl → R (List D) := fun env => (a env).bind fun x => match x with
  | .int n => if 0 ≤ n ∧ n.toNat < 1000000 then .ok (downD n.toNat) else .bad
  | _ => .bad
theorem pi_down {tg : Expr} {p p3 : Pos} {te : TE} (hg : Gl X "reversed") (hm : X.mg "reversed" = none) (hg2 : Gl X "range") (hm2 : X.mg "range" = none) (ha : PE X e te) (hs : starEach [e] X.env = (false, eval e X.env) :: starEach [] X.env := by rfl) (hs2 : starEach [.Call (.Name "range" p3) [e] [] p2] X.env = (false, eval (.Call (.Name "range" p3) [e] [] p2) X.env) :: starEach [] X.env := by rfl) :
    PI X tg (.Call (.Name "reversed" p) [.Call (.Name "range" p3) [e] [] p2] [] pos) (iRevR (tRg1 te)) := pi_revR hg hm (prg_1 hg2 hm2 ha hs) hs2
theorem mi_down {tg : Expr} {p p3 : Pos} (hg : Gl X "reversed") (hm : X.mg "reversed" = none) (hg2 : Gl X "range") (hm2 : X.mg "range" = none) (ha : ME X W e ma) (hs : starEach [e] X.env = (false, eval e X.env) :: starEach [] X.env := by rfl) (hs2 : starEach [.Call (.Name "range" p3) [e] [] p2] X.env = (false, eval (.Call (.Name "range" p3) [e] [] p2) X.env) :: starEach [] X.env := by rfl) :
    MI X W tg (.Call (.Name "reversed" p) [.Call (.Name "range" p3) [e] [] p2] [] pos) (downM ma) := by
  obtain ⟨t, a1, a2⟩ := ha
  refine ⟨_, pi_down hg hm hg2 hm2 a1 hs hs2, fun env σ B H Q hs h => a2 env σ B H _ hs (Po.step h fun x _ v H1 e1 r1 q => ?_)⟩
  cases r1 with
  | int n =>
    by_cases hn : 0 ≤ n ∧ n.toNat < 1000000
    · simp only [if_pos hn] at q
      refine ⟨n, rfl, by omega, by omega, by omega, by omega, ?_⟩
      have e0 : (n - 0).toNat = n.toNat := by omega
      have e2 : (0 : Int) + ((n - 0).toNat : Int) - 1 = (n.toNat : Int) - 1 := by omega
      rw [e2, e0]
      exact q _ H1 (Kx.refl e1.inB') walks_down
    · simp only [if_neg hn] at q; exact q.elim
  | _ => exact q.elim
theorem mni_downV {tg : Expr} {p p3 : Pos} (hg : Gl X "reversed") (hm : X.mg "reversed" = none) (hg2 : Gl X "range") (hm2 : X.mg "range" = none) (ha : ME X W e ma) (hs : starEach [e] X.env = (false, eval e X.env) :: starEach [] X.env := by rfl) (hs2 : starEach [.Call (.Name "range" p3) [e] [] p2] X.env = (false, eval (.Call (.Name "range" p3) [e] [] p2) X.env) :: starEach [] X.env := by rfl) :
    MNI X W shs tg (.Call (.Name "reversed" p) [.Call (.Name "range" p3) [e] [] p2] [] pos) (downM ma) := by
  obtain ⟨t, a1, a2⟩ := ha
  refine ⟨_, pi_down hg hm hg2 hm2 a1 hs hs2, fun M B0 H0 ks B H σ env P pv pd Q r q => ?_⟩
  obtain ⟨os, r1, r2⟩ := r.rsV
  refine a2 env σ (viewB B os) H _ r1 ?_
  unfold downM at q
  cases hm : ma env with
  | ok x =>
    rw [hm] at q
    intro v H1 kx rx
    cases rx with
    | int n =>
      simp only [R.bind] at q
      by_cases hn : 0 ≤ n ∧ n.toNat < 1000000
      · simp only [if_pos hn] at q
        refine ⟨n, rfl, by omega, by omega, by omega, by omega, ?_⟩
        have e0 : (n - 0).toNat = n.toNat := by omega
        have e2 : (0 : Int) + ((n - 0).toNat : Int) - 1 = (n.toNat : Int) - 1 := by omega
        rw [e2, e0]
        exact q _ H1 (kx.unview r.kq.inB) walks_down
      · simp only [if_neg hn] at q; exact q.elim
    | _ => exact q.elim
  | err c => rw [hm] at q; exact q.elim
  | bad => rw [hm] at q; exact q.elim
/-! d[k] of the module's dict d -/
def kixM (tbl : List (Str × D)) (m : Sl → R D) : Sl → R D := fun env => (m env).bind fun x => match x with
  | .str z => R.of (tbl.lookup z)
  | _ => .bad
theorem est_get {K : PySem.W.Frag} {z : Str} {d : D} : ∀ {es : List DictEntry} {tbl : List (Str × D)}, EsT K es tbl → tbl.lookup z = some d → ∃ v u, RelV v u ∧ ((es.find? fun e => Value.isStrOf z e.key).map (·.val)) = some u ∧ ∀ B H, Rp K B H v d
  | _, _, .nil, h => by cases h
  | e :: es, p :: tbl, .cons ⟨⟨t, hk⟩, v, h1, h2⟩ r, h => by
    obtain ⟨k, d'⟩ := p
    by_cases hz : z = k
    · subst hz
      have e1 : Value.isStrOf z e.key = true := by rw [hk]; simp [Value.isStrOf]
      rw [List.find?_cons, e1]
      rw [List.lookup_cons_self] at h
      cases h
      exact ⟨v, e.val, h1, rfl, h2⟩
    · have e1 : Value.isStrOf z e.key = false := by
        rw [hk]
        simp only [Value.isStrOf]
        exact beq_eq_false_iff_ne.mpr (fun q => hz q.symm)
      rw [List.find?_cons, e1]
      have hb : (z == k) = false := beq_eq_false_iff_ne.mpr hz
      rw [List.lookup_cons, hb] at h
      exact est_get r h
def rKix (K : PySem.W.Frag) (d : Addr) (es : Array DictEntry) : R2 := fun x y H Q => ∃ z v u, x = .ref d ∧ y = .str z ∧ RelV v u ∧ ((es.toList.find? fun e => Value.isStrOf z e.key).map (·.val)) = some u ∧ Q v H
theorem me_kix {x : Str} {d : Addr} {es : Array DictEntry} {n : Nat} {tbl : List (Str × D)} (KD : KDict X.K X.w d es n) (T : EsT X.K es.toList tbl) (hg : Gl X x) (hm : X.mg x = some (.ref d)) (he : ME X W e ma) (hs : PlainIx e) (hdb : (x == ("__debug__" : Str)) = false := by decide) :
    ME X W (.Subscript (.Name x px) e pos) (kixM tbl ma) := by
  obtain ⟨t, a1, a2⟩ := he
  have hix : IxR X (rKix X.K d es) := by
    intro value slice pins s σ H x y v u Q I rx ry h hs
    obtain ⟨z, r, u0, rfl, rfl, ru, hf, q⟩ := h
    obtain rfl : v = Value.ref d := rx
    obtain ⟨t, rfl⟩ := ry
    have hm := PySem.W.mapOf_K (prog := X.prog) (w := X.w) I.kIn KD.at_ KD.lit
    refine tail_any hm.typeIs slot_dict_getitem.lookup (wpAny_getItem_of (strKind_is X.prog X.w z t) hm ?_ ⟨r, H, I.tok _, ru, q⟩) hs
    obtain ⟨l⟩ := es
    unfold findBy
    rw [List.find?_toArray]
    exact hf
  refine ⟨_, pe_ix hix (pe_glob (v := .ref d) hg hm rfl hdb) a1 hs, fun env σ B H Q hs h => ?_⟩
  show t σ H fun y H2 => rKix X.K d es (.ref d) y H2 Q
  refine a2 env σ B H _ hs (Po.step h fun x _ v H1 e1 r1 q => ?_)
  cases r1 with
  | str z =>
    cases hl : tbl.lookup z with
    | none => simp only [hl, R.of] at q; exact q.elim
    | some d0 =>
      simp only [hl, R.of] at q
      obtain ⟨v, u, g1, g2, g3⟩ := est_get T hl
      exact ⟨z, v, u, rfl, rfl, g1, g2, q v H1 (Kx.refl e1.inB') (g3 B H1)⟩
  | _ => exact q.elim
/-! k in d -/
def dinM (neg : Bool) (ma mb : Sl → R D) : Sl → R D := fun env => (ma env).bind fun x => (mb env).bind fun y => match x, y with
  | .str k, .dct kvs => .ok (.bl (if neg = true then !(kvs.lookup k).isSome else (kvs.lookup k).isSome))
  | _, _ => .bad
theorem valV_D {k : Str} {K : PySem.W.Frag} {H : Hp} : ∀ {xs : List (Key × V)} {kvs : List (Str × D)}, RpD0 K H xs kvs → (valV xs (Sum.inr k)).isSome = (kvs.lookup k).isSome
  | _, _, .nil => rfl
  | _, _, .cons (k := j) h r => by
    by_cases hj : k = j
    · subst hj
      rw [valV_pos rfl, List.lookup_cons_self]
      rfl
    · have hb : (k == j) = false := beq_eq_false_iff_ne.mpr hj
      rw [valV_neg (fun z => hj (Sum.inr.inj z).symm), List.lookup_cons, hb]
      exact valV_D r
theorem me_din (hu : X.A.units + 1 < cLine) (ha : ME X W a ma) (hb : ME X W b mb) (hm : behindInMarks .In b = false := by rfl) : ME X W (.Compare a [.In] [b] pos) (dinM false ma mb) := by
  obtain ⟨t, a1, a2⟩ := ha
  obtain ⟨u, b1, b2⟩ := hb
  refine ⟨_, pe_cmp (pc_din hu a1 b1) hm, fun env σ B H Q hs h => a2 env σ B H _ hs (Po.step h fun x _ v H1 e1 r1 q => b2 env σ B H1 _ (hs.mono e1) (Po.step q fun y _ w H2 e2 r2 q2 => ?_))⟩
  cases r1 with
  | str k =>
    cases r2 with
    | @dct p xs kvs hp rd =>
      refine ⟨p, valV xs (Sum.inr k), rfl, DGet.k (k := Sum.inr k) (hid_some hp), ?_⟩
      have e := valV_D (k := k) rd
      simp only [Bool.false_eq_true, if_false] at q2
      rw [e]
      exact q2 _ H2 (Kx.refl e2.inB') (.bl _)
    | _ => exact q2.elim
  | _ => exact q2.elim
theorem mt_din (hu : X.A.units + 1 < cLine) (ha : ME X W a ma) (hb : ME X W b mb) (hm : behindInMarks .In b = false := by rfl) : MT X W (.Compare a [.In] [b] pos) (asB (dinM false ma mb)) := by
  obtain ⟨t, a1, a2⟩ := ha
  obtain ⟨u, b1, b2⟩ := hb
  refine ⟨_, pt_cmp (pc_din hu a1 b1) hm, EvB.of (ma := dinM false ma mb) fun env σ B H Q hs h => a2 env σ B H _ hs (Po.step h fun x _ v H1 e1 r1 q => b2 env σ B H1 _ (hs.mono e1) (Po.step q fun y _ w H2 e2 r2 q2 => ?_))⟩
  cases r1 with
  | str k =>
    cases r2 with
    | @dct p xs kvs hp rd =>
      refine ⟨p, valV xs (Sum.inr k), rfl, DGet.k (k := Sum.inr k) (hid_some hp), ?_⟩
      have e := valV_D (k := k) rd
      simp only [Bool.false_eq_true, if_false] at q2
      rw [e]
      exact q2 _ H2 (Kx.refl e2.inB') (.bl _)
    | _ => exact q2.elim
  | _ => exact q2.elim
/-! o.f -/
def fldM (C : Str) (f : Str) (m : Sl → R D) : Sl → R D := fun env => (m env).bind fun x => match x with
  | .ins C' kvs => if C' = C then R.of (kvs.lookup f) else .bad
  | _ => .bad
theorem rpf_get {K : PySem.W.Frag} {H : Hp} {f : Str} {d : D} : ∀ {xs : List (Str × V)} {kvs : List (Str × D)}, RpF0 K H xs kvs → kvs.lookup f = some d → ∃ v, xs.lookup f = some v ∧ Rp0 K H v d
  | _, _, .nil, h => by cases h
  | _, _, .cons (k := j) (v := v) h r, e => by
    by_cases hj : f = j
    · subst hj
      rw [List.lookup_cons_self] at e
      cases e
      exact ⟨v, List.lookup_cons_self, h⟩
    · have hb : (f == j) = false := beq_eq_false_iff_ne.mpr hj
      rw [List.lookup_cons, hb] at e
      obtain ⟨w, h1, h2⟩ := rpf_get r e
      exact ⟨w, by rw [List.lookup_cons, hb]; exact h1, h2⟩
theorem me_fld {C : Addr} {cc f : Str} (cn : CN X.K C cc) (c : Cls X.K C) (nn : NoAttr X.K C f) (ha : ME X W e ma) (hb : attributeBase e f X.env (eval e X.env) = eval e X.env := by rfl) : ME X W (.Attribute e f pos) (fldM cc f ma) := by
  obtain ⟨t, a1, a2⟩ := ha
  refine ⟨_, pe_fld a1 hb, fun env σ B H Q hs h => a2 env σ B H _ hs (Po.step h fun x _ v H1 e1 r1 q => ?_)⟩
  cases r1 with
  | @ins p C' dx cc' xs kvs hcn hp rf =>
    simp only at q
    split at q
    · next hC =>
      subst hC
      have eC := hcn.inj cn
      subst eC
      cases hl : kvs.lookup f with
      | none => rw [hl] at q; exact q.elim
      | some d =>
        rw [hl] at q
        obtain ⟨w, h1, h2⟩ := rpf_get rf hl
        exact ⟨p, C', dx, xs, w, rfl, hid_some hp, c, nn, h1, q w H1 (Kx.refl e1.inB') h2⟩
    · exact q.elim
  | _ => exact q.elim
/-! a value as a test -/
def truM (m : Sl → R D) : Sl → R Bool := fun env => (m env).bind fun x => match x with
  | .lst ds => .ok (!ds.isEmpty)
  | .bl k => .ok k
  | _ => .bad
theorem mt_truth (ha : ME X W e ma) (he : ∀ whole, isTrue e X.env whole = (do let v ← whole; standAt e.pos; holding [v] (truthy v)) := by intro _; rfl) : MT X W e (truM ma) := by
  obtain ⟨t, a1, a2⟩ := ha
  refine ⟨_, pt_truth a1 he, fun env σ B H Q hs h => a2 env σ B H _ hs (Po.step h fun x _ v H1 e1 r1 q => ?_)⟩
  cases r1 with
  | bl k => exact ⟨k, rfl, q k H1 (Kx.refl e1.inB') rfl⟩
  | @lst p xs ds hp ra =>
    refine ⟨!xs.isEmpty, .inl ⟨xs, sq_of (hid_some hp), rfl⟩, ?_⟩
    have e0 : xs.isEmpty = ds.isEmpty := by cases ra <;> rfl
    rw [e0]
    exact q _ H1 (Kx.refl e1.inB') rfl
  | _ => exact q.elim
/-! {"k": e, ..}, plain -/
def dispM (ks : List Str) (m : Sl → R (List D)) : Sl → R D := fun env => (m env).bind fun ds => if ds.length = ks.length then .ok (.dct (ks.zip ds)) else .bad
theorem mn_plain {shs : List Sh} {f : List (Str × Sh)} {mq : Sl → R (D × Sl)} (h : MN X W shs e m) : MQ X W shs .pl e (qN m) := mq_n h
theorem me_dispP {keys : List (Option Expr)} {values : List Expr} {ks : List Str} {m : Sl → R (List D)} (he : MPs X W pos keys values ks m) (nd : ks.Nodup) (h15 : ks.length ≤ 15) (hall : keys.all (·.isSome) = true) (hl : keys.length = values.length) (h0 : keys ≠ []) (h16 : keys.length ≤ 15) : ME X W (.Dict keys values pos) (dispM ks m) := by
  obtain ⟨trs, k1, k2⟩ := he
  refine ⟨_, pe_disp k1 hall hl h0 h16, fun env σ B H Q hs h p hp => ?_⟩
  have hB := hs.inB
  have lay := Kq.lay (o := .dK []) hB hp
  have hs1 : RS X.K (p :: B) (upd H p (.dK [])) σ env := hs.my lay.ky
  refine k2 _ σ (p :: B) _ _ hs1 ?_
  unfold dispM at h
  cases hm : m env with
  | bad => rw [hm] at h; exact h.elim
  | err c =>
    rw [hm] at h
    intro H' e
    exact h H' ⟨fun a o z => e.ex a o (by rw [upd_ne (ne_of_none z hp)]; exact z), hB⟩
  | ok ds =>
    rw [hm] at h
    intro ps H' e1 r1
    obtain ⟨vs, rfl, hlv, ra⟩ := r1
    simp only [R.bind] at h
    have hpp : H' p = some (.dK []) := e1.ex _ _ upd_same
    have ld : ds.length = ks.length := by rw [← ra.length]; exact hlv
    rw [if_pos ld] at h
    have zk := zip_keys (ks := ks) (vs := vs) (ds := ds) hlv ld
    refine ⟨hpp, (ks.map fun k => (Sum.inr k : Key)).zip vs, ?_, ?_, ?_⟩
    · have : ∀ (ks : List Str) (vs : List V), (ks.map V.str).zip vs = ((ks.map fun k => (Sum.inr k : Key)).zip vs).map fun kv => (kV kv.1, kv.2) := by
        intro ks
        induction ks with
        | nil => intro vs; rfl
        | cons k ks ih => intro vs; cases vs with
          | nil => rfl
          | cons v vs => simp only [List.map_cons, List.zip_cons_cons, ih]; rfl
      exact this ks vs
    · rw [List.length_zip, List.length_map]; omega
    · rw [merge_new nd hlv]
      have kq : Kq [p] (p :: B) H' (p :: B) (upd H' p (.dK ((ks.map fun k => (Sum.inr k : Key)).zip vs))) := Kq.put e1.inB' List.mem_cons_self
      have kx : Kx B H (upd H' p (.dK ((ks.map fun k => (Sum.inr k : Key)).zip vs))) := ⟨fun a o z => by
        have hne : a ≠ p := ne_of_none z hp
        rw [upd_ne hne]
        exact e1.ex a o (by rw [upd_ne hne]; exact z), hB⟩
      refine h _ _ kx (.dct (hid_at upd_same fun z => hB p z hp) ?_)
      have r3 : RpA0 X.K (hid B (upd H' p (.dK ((ks.map fun k => (Sum.inr k : Key)).zip vs)))) vs ds := (ra.mono kq.ex).mono fun a o z => by
        have hn : a ∉ p :: B := fun w => by unfold hid at z; rw [if_pos w] at z; cases z
        exact hid_at (hid_some z) fun w => hn (List.mem_cons_of_mem _ w)
      exact merge_zip ks vs ds nd hlv r3
end
end Ask
namespace Ask
open PySem L2 Evl PyProof.Rows
section
variable {X : Cx} {W : WX} {ow : List Nat} {shs : List Sh} {rsh sh : Sh} {a b c e o : Expr} {es : List Expr} {m ma mb : Sl → R D} {mq : Sl → R (D × Sl)} {mr : Sl → R (List D × Sl)} {sm : Sl → R (Option Stp)} {pos p2 apos cpos px : Pos} {n k i : Nat}
/-! o[k], o a place -/
def ixP (shs : List Sh) (i : Nat) (sm : Sl → R (Option Stp)) (m : Sl → R D) : Sl → R D := fun env => (sm env).bind fun s => (m env).bind fun k => match env[i]?, shs[i]? with
  | some (some d), some sh => match chO sh d s, k with
    | some (.dct [], .dct kvs), .str x => R.of (kvs.lookup x)
    | some (.lst .pl, .lst zs), .int n => R.of (atI zs n)
    | _, _ => .bad
  | _, _ => .bad
theorem rpd_get {K : PySem.W.Frag} {H : Hp} {f : Str} {d : D} {xs : List (Key × V)} {kvs : List (Str × D)} (r : RpD0 K H xs kvs) (h : kvs.lookup f = some d) : ∃ v, valV xs (Sum.inr f) = some v ∧ Rp0 K H v d := RpD0.get r h
def ixD (shs : List Sh) (i : Nat) (sm : Sl → R (Option Stp)) (m : Sl → R D) : Sl → R D := fun env => match env[i]? with
  | some (some d) => (sm env).bind fun s => (match shs[i]? with
    | some sh => match chO sh d s with
      | some (.dct [], _) => ixP shs i sm m env
      | _ => .bad
    | none => .bad)
  | _ => .bad
def ixL (shs : List Sh) (i : Nat) (sm : Sl → R (Option Stp)) (m : Sl → R D) : Sl → R D := fun env => match env[i]? with
  | some (some d) => (sm env).bind fun s => (match shs[i]? with
    | some sh => match chO sh d s with
      | some (.lst .pl, _) => ixP shs i sm m env
      | _ => .bad
    | none => .bad)
  | _ => .bad
theorem mn_ixD (hu : X.A.units + 1 < cLine) (ho : MPl X W shs i o sm) (hk : MN X W shs e m) (hns : NoSl e) : MN X W shs (.Subscript o e pos) (ixD shs i sm m) := by
  obtain ⟨t, a1, a2⟩ := ho
  obtain ⟨u, b1, b2⟩ := hk
  refine ⟨_, pe_dget hu a1 b1 hns, fun M B0 H0 ks B H σ env P pv pd Q r q => a2 M B0 H0 ks B H σ env P pv pd _ r ?_⟩
  unfold ixD at q
  split at q
  · next d he =>
    cases hs : sm env with
    | ok s =>
      rw [hs] at q
      simp only [R.bind] at q
      intro v H1 kx fo
      obtain ⟨rv, g2, g3⟩ := fo
      have r1 := r.mono kx
      split at q
      · next sh hsh =>
        split at q
        · next dd hc =>
          unfold ixP at q
          rw [hs, he, hsh] at q
          simp only [R.bind] at q
          cases hm : m env with
          | ok k =>
            rw [hm, hc] at q
            simp only at q
            refine b2 M B0 H0 ks B H1 σ env P pv pd _ r1 ?_
            rw [hm]
            intro w H2 kx2 rw_
            have r2 := r1.mono kx2
            cases dd with
            | dct kvs =>
              cases k with
              | str x =>
                cases rw_
                obtain ⟨p, xs, rfl, hp, hpB, ra, _⟩ := r2.flatD he hsh hc g2 (g3.mono kx2.ex)
                cases hl : kvs.lookup x with
                | none => simp only [hl, R.of] at q; exact q.elim
                | some d0 =>
                  simp only [hl, R.of] at q
                  obtain ⟨y, y1, y2⟩ := rpd_get ra hl
                  exact ⟨p, y, rfl, by rw [← y1]; exact DGet.k (k := Sum.inr x) hp, q y H2 (kx.trans kx2) y2⟩
              | _ => exact q.elim
            | _ => cases k <;> exact q.elim
          | err c => rw [hm] at q; exact q.elim
          | bad => rw [hm] at q; exact q.elim
        · exact q.elim
      · exact q.elim
    | err c => rw [hs] at q; exact q.elim
    | bad => rw [hs] at q; exact q.elim
  · exact q.elim
theorem mn_ixL (ho : MPl X W shs i o sm) (hk : MN X W shs e m) (hs : PlainIx e) : MN X W shs (.Subscript o e pos) (ixL shs i sm m) := by
  obtain ⟨t, a1, a2⟩ := ho
  obtain ⟨u, b1, b2⟩ := hk
  refine ⟨_, pe_ix ix_list a1 b1 hs, fun M B0 H0 ks B H σ env P pv pd Q r q => a2 M B0 H0 ks B H σ env P pv pd _ r ?_⟩
  unfold ixL at q
  split at q
  · next d he =>
    cases hs : sm env with
    | ok s =>
      rw [hs] at q
      simp only [R.bind] at q
      intro v H1 kx fo
      obtain ⟨rv, g2, g3⟩ := fo
      have r1 := r.mono kx
      split at q
      · next sh hsh =>
        split at q
        · next dd hc =>
          unfold ixP at q
          rw [hs, he, hsh] at q
          simp only [R.bind] at q
          cases hm : m env with
          | ok k =>
            rw [hm, hc] at q
            simp only at q
            refine b2 M B0 H0 ks B H1 σ env P pv pd _ r1 ?_
            rw [hm]
            intro w H2 kx2 rw_
            have r2 := r1.mono kx2
            cases dd with
            | lst zs =>
              cases k with
              | int nn =>
                cases rw_
                obtain ⟨p, xs, rfl, hp, ra, _⟩ := r2.flatL he hsh hc g2 (g3.mono kx2.ex)
                cases hl : atI zs nn with
                | none => simp only [hl, R.of] at q; exact q.elim
                | some d0 =>
                  simp only [hl, R.of] at q
                  obtain ⟨y, y1, y2⟩ := atI_rp ra hl
                  exact ⟨p, xs, nn, y, rfl, rfl, sq_of hp, y1, q y H2 (kx.trans kx2) y2⟩
              | _ => exact q.elim
            | _ => cases k <;> exact q.elim
          | err c => rw [hm] at q; exact q.elim
          | bad => rw [hm] at q; exact q.elim
        · exact q.elim
      · exact q.elim
    | err c => rw [hs] at q; exact q.elim
    | bad => rw [hs] at q; exact q.elim
  · exact q.elim
/-! comprehensions over pairs -/
theorem tg2_wipe {i j : Nat} (hij : i ≠ j) {K : PySem.W.Frag} {v : V} {σ : L2.St} {H : Hp} {Q : L2.St → Hp → Prop} {t : TGs} (ht : t = fun xs σ H Q => ∃ x rest, xs = x :: rest ∧ gName i x σ H fun σ1 H1 => ∃ y rest2, rest = y :: rest2 ∧ gName j y σ1 H1 fun σ2 H2 => rest2 = [] ∧ Q σ2 H2)
    (h : gTup K 2 t v (wipe σ [i, j]) H Q) : gTup K 2 t v (wipe σ [i, j]) H fun σ2 H2 => wipe σ2 [i, j] = wipe σ [i, j] ∧ Q σ2 H2 := by
  subst ht
  obtain ⟨a, xs, e1, e2, e3, x, rest, e4, y, rest2, e5, e6, q⟩ := h
  refine ⟨a, xs, e1, e2, e3, x, rest, e4, y, rest2, e5, e6, ?_, q⟩
  show ((((((σ.set j none).set i none).set i (some x)).set j (some y)).set j none).set i none) = ((σ.set j none).set i none)
  apply List.ext_getElem?
  intro l
  simp only [List.getElem?_set, List.length_set]
  by_cases h1 : i = l
  · subst h1; simp
  · by_cases h2 : j = l
    · subst h2; simp [h1]
    · simp [h1, h2]
theorem me_lcIf2 (i j : Nat) (hij : i ≠ j) {elt iter c : Expr} {x y : Str} {px py : Pos} {kk : Nat} {scope : Scope} {mi : Sl → R (List D)} {m : Sl → R D} {mt : Sl → R Bool} (hc : X.calm = true) (hN : X.N.Nodup) (hi : MI X W (.Tuple [.Name x px, .Name y py] kk p2) iter mi) (ok : BlkOk X.N X.env.scope scope [(x, i), (y, j)])
    (hg1 : Blk X scope fun Y => PG Y (.Tuple [.Name x px, .Name y py] kk p2) (gTup X.K 2 fun xs σ H Q => ∃ x rest, xs = x :: rest ∧ gName i x σ H fun σ1 H1 => ∃ y rest2, rest = y :: rest2 ∧ gName j y σ1 H1 fun σ2 H2 => rest2 = [] ∧ Q σ2 H2)) (ht : Blk X scope fun Y => MT Y W0 c mt) (he : Blk X scope fun Y => ME Y W0 elt m) (hs : ∀ x, foldedSetIterable iter X.env x = pure x := by intro _; rfl) :
    ME X W (.ListComp elt [⟨.Tuple [.Name x px, .Name y py] kk p2, iter, [c], 0⟩] scope pos) (lcM mi [i, j] (tg2 (tgN i) (tgN j)) mt m) := by
  obtain ⟨wi, i1, i2⟩ := hi
  refine ⟨_, pe_lc (own := [(x, i), (y, j)]) hc hN i1 ok hg1 (fun s H C cl fp => pts_one (show PT _ c (tbOf X.K X.mg W0 mt) from (ht s H C cl fp).pt)) (fun s H C cl fp => (show PE _ elt (teOf X.K X.mg W0 m) from (he s H C cl fp).pe)) hs, EvLc (bi := tg2 (tgN i) (tgN j)) i2 (fun env env' σ B H v d Q hs r h q => ?_) tbOf_ev teOf_ev fun v σ H Q h => tg2_wipe hij rfl h⟩
  unfold tg2 at h
  split at h
  · next x y hd =>
    split at h
    · next hT =>
      obtain ⟨p, xs, rfl, ra, k⟩ := r.seqT hd
      rcases k with ⟨_, k⟩ | ⟨t, _⟩
      · cases ra with
        | cons r1 ra =>
          cases ra with
          | cons r2 ra =>
            cases ra
            cases h
            exact ⟨p, _, rfl, ex_t (hid_ex B H) k, rfl, _, _, rfl, _, _, rfl, rfl, q _ ((hs.set r1).set r2)⟩
      · rw [t] at hT; cases hT
    · cases h
  · cases h
/-! a, b = e -/
def unpM (g : D → Sl → Option Sl) (m : Sl → R D) : Sl → O := fun env => toO (m env) fun d => match g d env with
  | some e => .nx e
  | none => .bad
theorem ms_unp {tg : Expr} {g : D → Sl → Option Sl} (he : ME X W e ma) (hg : MG X tg g) (hs : swapsWithSole [tg] e pos.line X.env = pure false := by rfl) (hw : swappedStores [tg] e X.env = pure none := by rfl)
    (h1 : (assignEach [tg] X.env).map (·.2) = [assign tg X.env] := by rfl) : MS X W (.Assign [tg] e pos) (unpM g ma) := by
  obtain ⟨t, a1, a2⟩ := he
  obtain ⟨u, b1, b2⟩ := hg
  refine ⟨_, ps_asg a1 b1 hs hw h1, fun env σ B H E hs h => a2 env σ B H _ hs (Po.toO h fun d _ v H1 e1 r q => ?_)⟩
  cases hg2 : g d env with
  | none => rw [hg2] at q; exact q.elim
  | some e2 =>
    rw [hg2] at q
    exact b2 env e2 σ B H1 v d _ (hs.mono e1) r hg2 fun σ' hs' => q σ' H1 (Kx.refl e1.inB') hs'
end
/-! two arguments are changed -/
def spQ2 (K : PySem.W.Frag) (s1 s2 : Sh) (n : Nat) (m : D → D → List D → R (D × D × D)) : Sp := fun vs H Q _ => ∃ (B fp : List Addr) (v1 v2 : V) (d1 d2 : D) (vs' : List V) (ds : List D), InB B H ∧ vs = vs' ++ [v1, v2] ∧ ds.length = n ∧ OwL K B H [s1, s2] fp [v1, v2] [d1, d2] ∧ fp.Nodup ∧ (∀ a ∈ fp, a ∈ B) ∧ RpA K B H vs' ds ∧
  match m d1 d2 ds with
  | .ok (d, d1', d2') => ∀ v H' B' fp', Kq fp B H B' H' → OwL K B' H' [s1, s2] fp' [v1, v2] [d1', d2'] → Rp K B' H' v d → fp'.Nodup → (∀ a ∈ fp', a ∈ B' ∧ (a ∈ fp ∨ H a = none)) → Q v H'
  | _ => False
def FnQ2 (P : Program) (w : World) (K : PySem.W.Frag) (mg : Str → Option Value) (base : Heap) (x : Str) (k : Nat) (s1 s2 : Sh) (n : Nat) (m : D → D → List D → R (D × D × D)) : Prop :=
  ∃ (f : Addr) (fd : FuncData) (ps : List Str), ps.length = n + 2 ∧ mg x = some (.ref f) ∧ PySem.W.keepIn K (.ref f) = true ∧ Binds K fd ps [] ∧ FnOk P w K mg base (L2.CX P w) k f fd ps (spQ2 K s1 s2 n m)
theorem FnQ2.mono {P : Program} {w : World} {K : PySem.W.Frag} {mg : Str → Option Value} {base : Heap} {x : Str} {j k n : Nat} {s1 s2 : Sh} {m : D → D → List D → R (D × D × D)} (F : FnQ2 P w K mg base x j s1 s2 n m) (h : j ≤ k) : FnQ2 P w K mg base x k s1 s2 n m := by
  obtain ⟨f, fd, ps, hl, h1, h2, h3, h4⟩ := F
  exact ⟨f, fd, ps, hl, h1, h2, h3, h4.mono h⟩
def MQO2 (X : Cx) (W : WX) (shs : List Sh) (i j n : Nat) (es : List Expr) (m : Sl → R (List D × Sl)) : Prop := ∃ ta, PA X es ta ∧ ∀ (M B0 : List Addr) (H0 : Hp) (ks : List (List Addr × Hp)) (B : List Addr) (H : Hp) (σ : L2.St) (env : Sl) (P : List Sh) (pv : List V) (pd : List D) (Q : List V → Hp → Prop), RQ X.K M B0 H0 ks B H shs σ env P pv pd →
  (match m env with
  | .ok (ds, env') => ∀ r r2 vs B' H', σ[i]? = some (some r) → σ[j]? = some (some r2) → ds.length = n → vs.length = n → RQ X.K M B0 H0 ks B' H' shs σ env' (P ++ List.replicate n .pl) (pv ++ vs) (pd ++ ds) → Q (vs ++ [r, r2]) H'
  | _ => False) → ta σ H Q
def ownL2 (i j : Nat) : Sl → R (List D × Sl) := fun env => match env[i]?, env[j]? with
  | some (some _), some (some _) => .ok ([], env)
  | _, _ => .bad
def qCallO2 (i j n : Nat) (f : D → D → List D → R (D × D × D)) (m : Sl → R (List D × Sl)) : Sl → R (D × Sl) := fun env => (m env).bind fun p => match p.2[i]?, p.2[j]? with
  | some (some d1), some (some d2) => (noErr (f d1 d2 p.1)).bind fun q => .ok (q.1, (p.2.set i (some q.2.1)).set j (some q.2.2))
  | _, _ => .bad
section
variable {X : Cx} {W : WX} {shs : List Sh} {rsh sh s1 s2 : Sh} {a b c e o : Expr} {es : List Expr} {m ma mb : Sl → R D} {mq : Sl → R (D × Sl)} {mr : Sl → R (List D × Sl)} {pos p2 pp : Pos} {n k i j : Nat}
theorem mqo2_last (i j : Nat) {x y : Str} (hN : X.N[i]? = some x := by rfl) (hN2 : X.N[j]? = some y := by rfl) (hv : Vis X.env.scope x := by first | exact Or.inl rfl | exact Or.inr (Or.inl rfl) | exact Or.inr (Or.inr rfl)) (hv2 : Vis X.env.scope y := by first | exact Or.inl rfl | exact Or.inr (Or.inl rfl) | exact Or.inr (Or.inr rfl)) (hd : (x == ("__debug__" : Str)) = false := by decide) (hd2 : (y == ("__debug__" : Str)) = false := by decide)
    (hcd : (x == ("__classdict__" : Str)) = false := by decide) (hcd2 : (y == ("__classdict__" : Str)) = false := by decide) (hs : starEach [.Name x pos, .Name y pp] X.env = (false, eval (.Name x pos) X.env) :: starEach [.Name y pp] X.env := by rfl) (hs2 : starEach [.Name y pp] X.env = (false, eval (.Name y pp) X.env) :: starEach [] X.env := by rfl) : MQO2 X W shs i j 0 [.Name x pos, .Name y pp] (ownL2 i j) := by
  refine ⟨_, pa_cons (pe_var (i := i) hN hv hd hcd) (pa_cons (pe_var (i := j) hN2 hv2 hd2 hcd2) pa_nil hs2) hs, fun M B0 H0 ks B H σ env P pv pd Q r q => ?_⟩
  unfold ownL2 at q
  split at q
  · next ds env' h =>
    split at h
    · next d d' he he' =>
      cases h
      obtain ⟨sh, v, fp, _, h2, _⟩ := r.at he
      obtain ⟨sh', v', fp', _, h2', _⟩ := r.at he'
      exact ⟨v, h2, v', h2', q v v' [] B H h2 h2' rfl rfl (by simpa only [List.append_nil, List.replicate] using r)⟩
    · cases h
  · exact q.elim
theorem mqo2_cons (h : MQ X W shs .pl e mq) (k : MQO2 X W shs i j n es mr) (hs : starEach (e :: es) X.env = (false, eval e X.env) :: starEach es X.env := by rfl) : MQO2 X W shs i j (n + 1) (e :: es) (qCons mq mr) := by
  obtain ⟨t, a1, a2⟩ := h
  obtain ⟨u, b1, b2⟩ := k
  refine ⟨_, pa_cons a1 b1 hs, fun M B0 H0 ks B H σ env P pv pd Q r q => a2 M B0 H0 ks B H σ env P pv pd _ r ?_⟩
  unfold qCons at q
  cases hm : mq env with
  | ok p =>
    obtain ⟨d, env1⟩ := p
    rw [hm] at q
    intro v B1 H1 r1
    refine b2 M B0 H0 ks B1 H1 σ env1 _ _ _ _ r1 ?_
    simp only [R.bind] at q
    cases hr : mr env1 with
    | ok p2 =>
      obtain ⟨ds, env2⟩ := p2
      rw [hr] at q
      intro rv rv2 vs B2 H2 l0 l0' l1 l2 r2
      refine q rv rv2 (v :: vs) B2 H2 l0 l0' (by simp [l1]) (by simp [l2]) ?_
      simpa only [List.append_assoc, List.singleton_append, List.replicate_succ] using r2
    | err c => rw [hr] at q; exact q.elim
    | bad => rw [hr] at q; exact q.elim
  | err c => rw [hm] at q; exact q.elim
  | bad => rw [hm] at q; exact q.elim
theorem mq_callO2 {x : Str} {p : Pos} {f : D → D → List D → R (D × D × D)} (hij : i ≠ j) (hs : shs[i]? = some s1) (hs2 : shs[j]? = some s2) (F : FnQ2 X.prog X.w X.K X.mg X.base x k s1 s2 n f) (hr : Room k X.A) (hg : Gl X x)
    (ha : MQO2 X W shs i j n (e :: es) mr) (hdb : (x == ("__debug__" : Str)) = false := by decide) (he : starEach (e :: es) X.env = (false, eval e X.env) :: starEach es X.env := by rfl) (hpl : (backTo pos (starEach es X.env)).any (·.1) = false := by rfl) :
    MQ X W shs .pl (.Call (.Name x p) (e :: es) [] pos) (qCallO2 i j n f mr) := by
  obtain ⟨g, fd, ps, hl, hm, hk, hb, G⟩ := F
  obtain ⟨ta, a1, a2⟩ := ha
  refine ⟨_, pe_call G hr hg hm hk hb .nil (passE0 (X := X)) a1 hdb he hpl, fun M B0 H0 ks B H σ env P pv pd Q r q => a2 M B0 H0 ks B H σ env P pv pd _ r ?_⟩
  unfold qCallO2 at q
  cases hm2 : mr env with
  | ok pp =>
    obtain ⟨ds, env1⟩ := pp
    rw [hm2] at q
    intro rv rv2 vs B1 H1 l0 l0' l1 l2 r1
    simp only [R.bind] at q
    obtain ⟨ra, r2⟩ := r1.plain l2 l1
    split at q
    · next d1 d2 hd1 hd2 =>
      obtain ⟨w1, e1, m1⟩ := r2.move hd1 hs
      rw [l0] at e1
      cases e1
      have hd2' : (env1.set i none)[j]? = some (some d2) := by rw [List.getElem?_set_ne hij]; exact hd2
      obtain ⟨w2, e2, m2⟩ := m1.move hd2' hs2
      rw [l0'] at e2
      cases e2
      have m3 : RQ X.K M B0 H0 ks B1 H1 shs σ ((env1.set i none).set j none) (P ++ [s1, s2]) (pv ++ [rv, rv2]) (pd ++ [d1, d2]) := by simpa only [List.append_assoc, List.singleton_append] using m2
      obtain ⟨mm, ol, nd, hin, back, _⟩ := m3.pend rfl rfl
      rw [List.append_nil]
      refine ⟨B1, mm, rv, rv2, d1, d2, vs, ds, r1.kq.inB, rfl, l1, ol, nd, fun a ha => (hin a ha).1, ra, ?_⟩
      cases hf : f d1 d2 ds with
      | ok qq =>
        obtain ⟨dr, d1', d2'⟩ := qq
        rw [hf] at q
        intro v H' B' fp' kq o1 o2 nd' hf'
        have k1 := back B' H' fp' [.pl, s1, s2] [v, rv, rv2] [dr, d1', d2'] kq (by
          have := OwL.cons (Ow.pl o2) o1
          simpa using this) nd' hf'
        have k2 : RQ X.K M B0 H0 ks B' H' shs σ ((env1.set i none).set j none) ((P ++ [.pl, s1]) ++ [s2]) ((pv ++ [v, rv]) ++ [rv2]) ((pd ++ [dr, d1']) ++ [d2']) := by simpa only [List.append_assoc, List.cons_append, List.nil_append] using k1
        have lj : j < ((env1.set i none).set j none).length := by
          simp only [List.length_set]
          have := r2.len.1
          by_cases hh : j < env1.length
          · exact hh
          · rw [List.getElem?_eq_none (by omega)] at hd2; cases hd2
        have li : i < ((env1.set i none).set j none).length := by
          simp only [List.length_set]
          by_cases hh : i < env1.length
          · exact hh
          · rw [List.getElem?_eq_none (by omega)] at hd1; cases hd1
        obtain ⟨m4, ol4, nd4, hin4, _, set4⟩ := RQ.pend k2 rfl rfl
        cases ol4 with
        | cons c1 c2 =>
          cases c2
          rw [List.append_nil] at nd4 hin4 set4
          have k3 := set4 B' H' j s2 _ rv2 d2' hs2 lj ((Kq.refl k2.kq.inB).more (fun _ z => by cases z) fun x hx => (hin4 x hx).1) c1 nd4 (fun a ha => ⟨(hin4 a ha).1, .inl ha⟩)
          rw [set_same l0'] at k3
          have k4 : RQ X.K M B0 H0 ks B' H' shs σ (((env1.set i none).set j none).set j (some d2')) ((P ++ [.pl]) ++ [s1]) ((pv ++ [v]) ++ [rv]) ((pd ++ [dr]) ++ [d1']) := by simpa only [List.append_assoc, List.cons_append, List.nil_append] using k3
          obtain ⟨m5, ol5, nd5, hin5, _, set5⟩ := RQ.pend k4 rfl rfl
          cases ol5 with
          | cons c3 c4 =>
            cases c4
            rw [List.append_nil] at nd5 hin5 set5
            have k5 := set5 B' H' i s1 _ rv d1' hs (by simpa using li) ((Kq.refl k4.kq.inB).more (fun _ z => by cases z) fun x hx => (hin5 x hx).1) c3 nd5 (fun a ha => ⟨(hin5 a ha).1, .inl ha⟩)
            rw [set_same l0] at k5
            have ee : ((((env1.set i none).set j none).set j (some d2')).set i (some d1')) = ((env1.set i (some d1')).set j (some d2')) := by
              rw [List.set_set, List.set_comm _ _ hij, List.set_set, List.set_comm _ _ (Ne.symm hij)]
            rw [ee] at k5
            exact q v B' H' k5
      | err c => rw [hf] at q; exact q.elim
      | bad => rw [hf] at q; exact q.elim
    · exact q.elim
  | err c => rw [hm2] at q; exact q.elim
  | bad => rw [hm2] at q; exact q.elim
end
def fnQ2 (n nl : Nat) (body : Sl → OQ) : D → D → List D → R (D × D × D) := fun d1 d2 ds => if ds.length = n then match body ((ds ++ [d1, d2]).map some ++ List.replicate nl none) with
    | .rt d env => match env[n]?, env[n + 1]? with
      | some (some a), some (some b) => .ok (d, a, b)
      | _, _ => .bad
    | _ => .bad else .bad
section
variable {P : Program} {w : World} {K : PySem.W.Frag} {mg : Str → Option Value} {base : Heap} {x qual : Str} {st : Stmt} {f : Addr} {fd : FuncData} {N ps : List Str} {k n nl : Nat} {mb : Sl → OQ} {s1 s2 : Sh} {L : List Sh}
theorem fnq2_none (F : Fun K x qual st f fd) (hn : ps.length = n + 2) (hm : mg x = some (.ref f))
    (hbd : ∀ (kV doc pm : Value) (an : Option Addr) (cdv ct : Value) (us : List Value), us.length = ps.length → bindArgs (PySem.W.fnOf x qual (defArgs st) (defBody st) (defScope st) .none kV doc pm an cdv ct) ⟨us, []⟩ = pure (ps.zip us)) : FnQ2 P w K mg base x k s1 s2 n (fun _ _ _ => .bad) := by
  refine ⟨f, fd, ps, hn, hm, F.kp, F.binds hbd, fun vs H Q E h => ?_, fun A outer s H args us vs Q E _ _ _ _ h => ?_⟩
  · obtain ⟨_, _, _, _, _, _, _, _, _, _, _, _, _, _, _, q⟩ := h
    exact q.elim
  · obtain ⟨_, _, _, _, _, _, _, _, _, _, _, _, _, _, _, q⟩ := h
    exact q.elim
theorem fn_q2R (F : Fun K x qual st f fd) (S : FnScope N ps (defScope st)) (hn : ps.length = n + 2) (hnl : N.length = n + 2 + nl) (hL : L.length = nl)
    (body : ∀ (cdv : Value) (A : Around) (outer : List Env) (s : Shared) (H : Hp) (E : XK), Room k (A.deeper (PyProof.Rows.envOfC qual (defScope st) s.heap.objs.size f cdv)) →
      QSs (cxOf (L2.CX P w) P w K mg base N qual (defScope st) f cdv A outer s H E) (fun cls d _ H' => E cls d H') [n, n + 1] (List.replicate n .pl ++ [s1, s2] ++ L) .pl (defBody st) mb) : FnOk P w K mg base (L2.CX P w) (k + 1) f fd ps (spQ2 K s1 s2 n (fnQ2 n nl mb)) := by
  refine F.okX S (fun vs H Q E h => ?_) fun cdv A outer s H vs Q E hr h => ?_
  · obtain ⟨B, fp, v1, v2, d1, d2, vs', ds, hB, rfl, hl, o, nd, hM, ra, q⟩ := h
    have := ra.length
    simp
    omega
  · obtain ⟨B, fp, v1, v2, d1, d2, vs', ds, hB, rfl, hl, o, nd, hM, ra, q⟩ := h
    obtain ⟨t, t1, t2⟩ := body cdv A outer s H E hr
    have hlv := ra.length
    have ol : OwL K B H (List.replicate n .pl ++ [s1, s2]) fp (vs' ++ [v1, v2]) (ds ++ [d1, d2]) := by
      have pl := OwL.plain ra
      rw [hl] at pl
      simpa using pl.app o
    have r0 := RQ.start (K := K) (nl := nl) hL hB ol nd hM
    have es : L2.start N (vs' ++ [v1, v2]) = (vs' ++ [v1, v2]).map some ++ List.replicate nl none := by
      unfold L2.start
      have : N.length - (vs' ++ [v1, v2]).length = nl := by simp; omega
      rw [this]
    refine ⟨t, t1, ?_⟩
    rw [es]
    have fx0 : Fx [n, n + 1] (fun i => if i = n then v1 else v2) ((vs' ++ [v1, v2]).map some ++ List.replicate nl none) := fun i hi => by
      simp only [List.mem_cons, List.not_mem_nil, or_false] at hi
      rcases hi with rfl | rfl
      · simp [List.getElem?_append, hlv, hl]
      · simp [List.getElem?_append, hlv, hl]
    have g1 : (List.replicate n Sh.pl ++ [s1, s2] ++ L)[n]? = some s1 := by simp [List.getElem?_append]
    have g2 : (List.replicate n Sh.pl ++ [s1, s2] ++ L)[n + 1]? = some s2 := by simp [List.getElem?_append]
    refine t2 _ fp B H [] B H _ _ _ r0 fx0 ?_
    unfold fnQ2 at q
    rw [if_pos hl] at q
    show PoSq K _ (fun i => if i = n then v1 else v2) fp B H [] _ _ { nx := fun _ H' => Q .non H', rt := Q } (mb ((ds ++ [d1, d2]).map some ++ List.replicate nl none))
    cases hb : mb ((ds ++ [d1, d2]).map some ++ List.replicate nl none) with
    | nx e => rw [hb] at q; exact q.elim
    | rt d e =>
      rw [hb] at q
      intro v σ' B' H' r f'
      simp only at q
      split at q
      · next dd d1' d2' h1 =>
        split at h1
        · next a b ha hb' =>
          cases h1
          obtain ⟨rv, r2⟩ := RQ.plain1 (P := []) (pv := []) (pd := []) r
          obtain ⟨w1, x1, m1⟩ := r2.move ha g1
          have y1 := f' n (by simp)
          simp only [if_true] at y1
          rw [y1] at x1
          cases x1
          have hb2 : (e.set n none)[n + 1]? = some (some d2') := by rw [List.getElem?_set_ne (by omega)]; exact hb'
          obtain ⟨w2, x2, m2⟩ := m1.move hb2 g2
          have y2 := f' (n + 1) (by simp)
          simp only [Nat.add_eq_left, Nat.one_ne_zero, if_false] at y2
          rw [y2] at x2
          cases x2
          have m3 : RQ K fp B H [] B' H' (List.replicate n .pl ++ [s1, s2] ++ L) σ' ((e.set n none).set (n + 1) none) ([] ++ [s1, s2]) ([] ++ [v1, v2]) ([] ++ [d1', d2']) := m2
          obtain ⟨mm, oo, nd', hin, _, _⟩ := m3.pend rfl rfl
          exact q v H' B' mm r.kq oo rv nd' hin
        · cases h1
      · exact q.elim
    | bk e => rw [hb] at q; exact q.elim
    | ct e => rw [hb] at q; exact q.elim
    | bad => rw [hb] at q; exact q.elim
theorem fn_q2 (F : Fun K x qual st f fd) (S : FnScope N ps (defScope st)) (hn : ps.length = n + 2) (hnl : N.length = n + 2 + nl) (hL : L.length = nl) (hm : mg x = some (.ref f))
    (hbd : ∀ (kV doc pm : Value) (an : Option Addr) (cdv ct : Value) (us : List Value), us.length = ps.length → bindArgs (PySem.W.fnOf x qual (defArgs st) (defBody st) (defScope st) .none kV doc pm an cdv ct) ⟨us, []⟩ = pure (ps.zip us))
    (body : ∀ (cdv : Value) (A : Around) (outer : List Env) (s : Shared) (H : Hp) (E : XK), Room k (A.deeper (PyProof.Rows.envOfC qual (defScope st) s.heap.objs.size f cdv)) →
      QSs (cxOf (L2.CX P w) P w K mg base N qual (defScope st) f cdv A outer s H E) (fun cls d _ H' => E cls d H') [n, n + 1] (List.replicate n .pl ++ [s1, s2] ++ L) .pl (defBody st) mb) : FnQ2 P w K mg base x (k + 1) s1 s2 n (fnQ2 n nl mb) :=
  ⟨f, fd, ps, hn, hm, F.kp, F.binds hbd, fn_q2R F S hn hnl hL body⟩
end
/-! the end of a law whose own def changes what is its own -/
theorem walk_lawF {l : PySem.W.OpenLaw} {k : Nat} {q : Program} {loose : List Str} {XP : (Str → Option Value) → Heap → Prop} {YP : World → Heap → Prop} {d : DefRec} {K : Params → PySem.W.Frag} {x : Str} {m : List D → R D} (hn : l.most = some 63) (hdf : d.params.defaults = []) (hr : Room k callerA)
    (hY : ∀ (w : World) (h : Heap), YP w h → (K w.params).In h)
    (F : ∀ (w : World) (mg : Str → Option Value) (fa : Addr) (h : Heap), (K w.params).In h → h.Ns mainGlobals mg → mg d.name = some (.ref fa) →
      ∃ fd : FuncData, (∀ (s : Shared) (u : Value), BindsTo s fd ⟨[u], []⟩ [(x, u)]) ∧ ∀ base : Heap, (K w.params).In base → base.Ns mainGlobals mg → FnOk l.prog w (K w.params) mg base (L2.CX l.prog w) k fa fd [x] (spR (K w.params) .pl 1 m))
    (hm : ∀ ns : List Int, ns.length ≤ 63 → m [.klst (ns.map D.int)] = .ok (.bl true)) : PySem.W.WalkO q loose XP YP l.row.toRowW d [] (fun f vs => PySem.call f vs) := by
  refine L2.walk_of (n := 63) (k := k) (x := x) (CX := fun w => L2.CX l.prog w) (sp := fun w => spT (K w.params)) hn (by decide) hdf hr hY (fun w mg fa h h1 h2 h3 => ?_) (fun w H a ns hl _ hS => ⟨a, ns, rfl, hl, hS, fun _ => rfl⟩) fun w H s e s' c => ?_
  · obtain ⟨fd, hb, hF⟩ := F w mg fa h h1 h2 h3
    refine ⟨fd, hb, fun base b1 b2 => (hF base b1 b2).imp fun vs H Q E hq => ?_⟩
    obtain ⟨a, ns, rfl, hl, hS, hq⟩ := hq
    refine ⟨[], [.klst (ns.map D.int)], (fun _ z => by cases z), rfl, .cons (.klst ?_ (RpA0.ints ns)) .nil, ?_⟩
    · have e : hid [] H = H := by funext a; unfold hid; rw [if_neg (by simp)]
      rw [e]; exact hS
    · rw [hm ns hl]
      intro v H' B' fr _ o _ _
      cases o with
      | pl r =>
        cases r
        exact hq H'
  · obtain ⟨_, _, _, _, _, _, _, _, _, _, _, _, z⟩ := c
    exact z
end Ask
/-! {**d, k: e} -/
namespace PySem
section
variable {prog : Program} {w : World} {A : Around} {E : Value → Shared → Prop} {s : Shared}
theorem wpAny_putPairs {K : Type} [DecidableEq K] {knd : KeyKind prog w K} {d : Addr} {kvs : List (K × Value)} {k : K} {key v : Value} {Q : Unit → Shared → Prop} (hkey : knd.is k key = true) (hm : s.heap.DictOf knd d kvs)
    (hQ : ∀ h', h'.DictOf knd d (stored kvs k v) → Heap.SameBut d s.heap h' → Q () { s with heap := h' })
    (hsz : kvs.length ≤ sizeLine) :
    wpAny (model prog w) A (dictPut d (knd.hash k) key v) Q E s := by
  obtain ⟨o, es, ep, ho, hc, hd, hk, hp, hn⟩ := hm
  have hes : es.size ≤ sizeLine := by have e1 := hp.length; have e2 : es.toList.length = es.size := by simp
                                      omega
  unfold dictPut
  refine wpAny_bind (wpAny_dictFind_of hkey ho hd hk ?_)
  have hidx : (es.findIdx? fun e => knd.is k e.key) = kvs.findIdx? fun kv => decide (kv.1 = k) := by
    rw [← hp.findIdx k]; obtain ⟨l⟩ := es; simp
  cases hi : es.findIdx? fun e => knd.is k e.key with
  | some i =>
    refine wpAny_updateDict ho hd (hQ _ ⟨_, _, ep, Heap.get?_update_self _ ho (Obj.isFreed_of_dict (Obj.data_mapDict hd _)),
      hc.mapDict _, Obj.data_mapDict hd _, hk.modify _ _, ?_, ?_⟩ (Heap.SameBut.update ..))
    · rw [stored, if_pos (any_of_findIdx_some (hidx ▸ hi))]
      have hl : (es.toList.findIdx? fun e => knd.is k e.key) = some i := by rw [← hi]; obtain ⟨l⟩ := es; simp
      have := hp.modify hn hl v
      obtain ⟨l⟩ := es
      simpa using this
    · rw [stored, if_pos (any_of_findIdx_some (hidx ▸ hi)), keys_map_store]; exact hn
  | none =>
    have hnot : k ∉ kvs.map (·.1) := not_mem_of_findIdx_none (hidx ▸ hi)
    have hany : ¬ (kvs.any fun kv => decide (kv.1 = k)) = true := by
      rw [List.any_eq_true]; rintro ⟨kv, hkv, he⟩
      exact hnot (List.mem_map.mpr ⟨kv, hkv, of_decide_eq_true he⟩)
    refine wpAny_updateDictKeys (hz := hes) ho hd (hQ _ ⟨_, _, ep + 1, Heap.get?_update_self _ ho (Obj.isFreed_of_dict (Obj.data_mapDictKeys hd _)),
      hc.mapDictKeys _, Obj.data_mapDictKeys hd _, hk.push hkey _, ?_, ?_⟩ (Heap.SameBut.update ..))
    · rw [stored, if_neg hany]
      have := hp.append hkey (knd.hash k) v
      obtain ⟨l⟩ := es
      simpa using this
    · rw [stored, if_neg hany, List.map_append, List.nodup_append]
      refine ⟨hn, by simp, ?_⟩
      intro a ha b hb
      simp only [List.map_cons, List.map_nil, List.mem_singleton] at hb
      subst hb
      exact fun e => hnot (e ▸ ha)
theorem wpAny_merging {d o : Addr} {kvs more : List (L2.Key × Value)} {Q : Unit → Shared → Prop} (hdo : d ≠ o) (hoS : (o == sysModules) = false)
    (hd : s.heap.DictOf (L2.mixKind prog w) d kvs) (ho : s.heap.DictOf (L2.mixKind prog w) o more)
    (hQ : ∀ h', h'.DictOf (L2.mixKind prog w) d (merged kvs more) → h'.DictOf (L2.mixKind prog w) o more → Heap.SameBut d s.heap h' → Q () { s with heap := h' })
    (hsz : kvs.length + more.length ≤ sizeLine) :
    wpAny (model prog w) A (mergeMapping d (.ref o) false) Q E s := by
  obtain ⟨od, esd, epd, hod, hcd, hdd, hkd, hpd, hnd⟩ := id hd
  obtain ⟨oo, eso, epo, hoo, hco, hdo', hko, hpo, hno⟩ := id ho
  have hlen : more.length = eso.size := by rw [← hpo.length]; simp
  have rest : ∀ (s' : Shared) (_ : s' = s), wpAny (model prog w) A (do
      let size := (← dictEntries o).size
      let epoch ← dictEpoch o
      for i in List.range size do
        match (← dictEntries o)[i]? with
        | some e => do
          holding [e.key, e.val] (dictPut d e.hash e.key e.val)
          if (← dictEpoch o) != epoch then unsupported "dict.changed-during-merge"
        | _ => unsupported "dict.changed-during-merge") Q E s' := by
    rintro s' rfl
    refine wpAny_bind (wpAny_dictEntries hoo hdo' ?_)
    dsimp only
    refine wpAny_bind (wpAny_dictEpoch hoo hdo' ?_)
    rw [List.range_eq_range']
    refine wpAny_bind ?_
    refine wpAny_forIn_list _
      (fun rest _ s2 => ∃ h' i, s2 = { s' with heap := h' } ∧ rest = List.range' i (eso.size - i) ∧ i ≤ eso.size ∧ h'.DictOf (L2.mixKind prog w) d (merged kvs (more.take i)) ∧ h'.get? o = some oo ∧ Heap.SameBut d s'.heap h')
      _ ?_ ?_ _ _ ⟨s'.heap, 0, rfl, by simp, Nat.zero_le _, by simpa [merged] using hd, hoo, Heap.SameBut.refl _ _⟩
    · rintro x rest b s2 ⟨h', i, rfl, hr, hi, hd', hoo', hs'⟩
      have hlt : i < eso.size := by
        rcases Nat.lt_or_ge i eso.size with h | h
        · exact h
        · rw [Nat.sub_eq_zero_of_le h] at hr; simp at hr
      obtain ⟨rfl, hrest⟩ : x = i ∧ rest = List.range' (i + 1) (eso.size - (i + 1)) := by
        have e : eso.size - i = (eso.size - (i + 1)) + 1 := by omega
        rw [e, List.range'_succ] at hr
        injection hr with h1 h2
        exact ⟨h1, h2⟩
      refine wpAny_bind (wpAny_dictEntries hoo' hdo' ?_)
      rw [Array.getElem?_eq_getElem hlt]
      obtain ⟨kv, hkv⟩ : ∃ kv, more[x]? = some kv := ⟨more[x]'(by rw [hlen]; exact hlt), List.getElem?_eq_getElem _⟩
      obtain ⟨k, v⟩ := kv
      obtain ⟨hkey, hval⟩ := hpo.get? (e := eso[x]) (by simp [hlt]) hkv
      obtain ⟨k', hkey', hhash⟩ := hko eso[x] (Array.getElem_mem hlt)
      obtain rfl : k' = k := (L2.mixKind prog w).inj _ _ _ hkey' hkey
      show wpAny _ _ (holding [eso[x].key, eso[x].val] (dictPut d eso[x].hash eso[x].key eso[x].val) >>= _) _ _ _
      rw [hhash, hval]
      have hmx : (merged kvs (more.take x)).length ≤ sizeLine := by
        have e1 := merged_length_le kvs (more.take x)
        have e2 : (more.take x).length ≤ more.length := by rw [List.length_take]; omega
        omega
      refine wpAny_bind (wpAny_holding (wpAny_putPairs (hsz := hmx) hkey hd' fun h'' hd'' hs'' => ?_))
      have hoo'' : h''.get? o = some oo := (hs''.2 o (Ne.symm hdo)).trans hoo'
      refine wpAny_bind (wpAny_dictEpoch hoo'' hdo' ?_)
      rw [if_neg (by simp)]
      exact wpAny_pure ⟨h'', x + 1, rfl, hrest, hlt, by rw [merged_take_succ kvs more x (k', v) hkv]; exact hd'', hoo'', hs'.trans hs''⟩
    · rintro b s2 ⟨h', i, rfl, hr, hi, hd', hoo', hs'⟩
      have hin : i = eso.size := by
        rcases Nat.lt_or_ge i eso.size with h | h
        · have e : eso.size - i = (eso.size - (i + 1)) + 1 := by omega
          rw [e, List.range'_succ] at hr; exact nomatch hr
        · exact Nat.le_antisymm hi h
      refine wpAny_pure (hQ h' ?_ ⟨oo, eso, epo, hoo', hco, hdo', hko, hpo, hno⟩ hs')
      rw [hin, ← hlen, List.take_length] at hd'; exact hd'
  unfold mergeMapping
  refine wpAny_bind (wpAny_isInstance ho.typeIs isSubtype_dict_dict ?_)
  simp only [if_true, Bool.false_eq_true, if_false]
  refine wpAny_bind (wpAny_specialOf ho.typeIs F.slot_dict_iter.lookup ?_)
  refine wpAny_bind (wpAny_pure ?_)
  simp only [beq_self_eq_true]
  rw [if_neg (by rw [hoS]; exact Bool.false_ne_true)]
  refine wpAny_bind (wpAny_dictEntries hod hdd ?_)
  split
  · refine wpAny_bind (wpAny_dictEntries hoo hdo' ?_)
    refine wpAny_bind ?_
    refine wpAny_forIn_array' _ (fun rest _ s2 => s2 = s ∧ ∀ e ∈ rest, e ∈ eso.toList) _ ?_ ?_ _ _ ⟨rfl, fun e h => h⟩
    · rintro e rest b s2 ⟨rfl, hall⟩
      obtain ⟨k, hkey, _⟩ := hko e (Array.mem_toList_iff.mp (hall e List.mem_cons_self))
      rcases L2.keyIs_shape hkey with ⟨i, t, rfl, hh⟩ | ⟨x, t, rfl, hh⟩
      · rw [hh]
        exact wpAny_pure ⟨rfl, fun e h => hall e (List.mem_cons_of_mem _ h)⟩
      · rw [hh]
        exact wpAny_pure ⟨rfl, fun e h => hall e (List.mem_cons_of_mem _ h)⟩
    · rintro b s2 ⟨rfl, _⟩
      exact rest s2 rfl
  · exact rest s rfl
theorem wpAny_star {te tk tv : Sem Value} {Q : Value → Shared → Prop}
    (h : wpAny (model prog w) A te (fun m s1 => ∃ o more, m = .ref o ∧ s.heap.objs.size ≠ o ∧ (o == sysModules) = false ∧ s1.heap.DictOf (L2.mixKind prog w) s.heap.objs.size [] ∧ s1.heap.DictOf (L2.mixKind prog w) o more ∧ more.length ≤ sizeLine ∧
      ∀ h', h'.DictOf (L2.mixKind prog w) s.heap.objs.size (merged [] more) → h'.DictOf (L2.mixKind prog w) o more → Heap.SameBut s.heap.objs.size s1.heap h' →
        wpAny (model prog w) A (evalPairs [(tk, tv)]) (fun vs s2 => ∃ kvs, Carries (L2.mixKind prog w) vs kvs ∧ s2.heap.DictOf (L2.mixKind prog w) h'.objs.size [] ∧
          ∀ h2, h2.DictOf (L2.mixKind prog w) h'.objs.size (merged [] kvs) → Heap.SameBut h'.objs.size s2.heap h2 →
            ∃ base, h2.DictOf (L2.mixKind prog w) s.heap.objs.size base ∧ s.heap.objs.size ≠ h'.objs.size ∧ (h'.objs.size == sysModules) = false ∧ base.length + (merged [] kvs).length ≤ sizeLine ∧
              ∀ h3, h3.DictOf (L2.mixKind prog w) s.heap.objs.size (merged base (merged [] kvs)) → h3.DictOf (L2.mixKind prog w) h'.objs.size (merged [] kvs) → Heap.SameBut s.heap.objs.size h2 h3 →
                Q (.ref s.heap.objs.size) { s2 with heap := h3, toks := s2.toks + vs.length }) E
          { s1 with heap := h'.push { cls := .type "dict", data := .dict #[] } }) E
      { s with heap := s.heap.push { cls := .type "dict", data := .dict #[] } }) :
    wpAny (model prog w) A (dictDisplay [(none, te), (some tk, tv)]) Q E s := by
  unfold dictDisplay
  dsimp only
  simp only [List.forIn_cons, List.forIn_nil, bind_assoc, pure_bind, List.isEmpty_nil, if_true, List.nil_append, List.length_cons, List.length_nil]
  refine wpAny_bind (wpAny_alloc ?_)
  refine wpAny_bind (wpAny_holding (wpAny_mono h (fun m s1 h1 => ?_) fun _ _ e => e))
  obtain ⟨o, more, rfl, hdo, hoS, hd, ho, hz, h1⟩ := h1
  refine wpAny_bind (wpAny_onRaise (wpAny_tryCatch (wpAny_onRaise (wpAny_holding (wpAny_merging hdo hoS hd ho (fun h' hd' ho' hs' => ?_) (by simpa using hz))))))
  have h2 := h1 h' hd' ho' hs'
  rw [if_neg (by decide)]
  refine wpAny_bind (wpAny_pure ?_)
  refine wpAny_bind (wpAny_pure ?_)
  dsimp only
  rw [if_neg (by simp)]
  refine wpAny_bind ?_
  refine wpAny_bind (wpAny_holding (wpAny_subDict (knd := L2.mixKind prog w) (pairs := [(tk, tv)]) (by simp) ?_))
  refine wpAny_mono h2 (fun vs s2 hh => ?_) fun _ _ e => e
  obtain ⟨kvs, c, dd, hh⟩ := hh
  refine ⟨kvs, c, dd, fun h2' d2 hs2 => ?_⟩
  obtain ⟨base, b1, b2, b3, b4, b5⟩ := hh h2' d2 hs2
  refine wpAny_bind (wpAny_onRaise (wpAny_holding (wpAny_merging b2 b3 b1 d2 (fun h3 d3 d4 hs3 => ?_) b4)))
  exact wpAny_pure (wpAny_pure (b5 h3 d3 d4 hs3))
end
end PySem
namespace Ask
open PySem L2 Evl
def tStar (te tk tv : TE) : TE := fun σ H Q => ∀ p, H p = none → te σ (upd H p (.dK [])) fun x H1 => H1 p = some (.dK []) ∧ ∃ a xs, x = .ref a ∧ p ≠ a ∧ H1 a = some (.dK xs) ∧ xs.length + 1 ≤ sizeLine ∧
  ∀ p2, upd H1 p (.dK (mergeK [] xs)) p2 = none → tk σ (upd (upd H1 p (.dK (mergeK [] xs))) p2 (.dK [])) fun y H2 => tv σ H2 fun z H3 => H3 p2 = some (.dK []) ∧ H3 p = some (.dK (mergeK [] xs)) ∧ ∃ key, y = kV key ∧ Q (.ref p) (upd (upd H3 p2 (.dK [(key, z)])) p (.dK (putK (mergeK [] xs) key z)))
theorem pe_dstar {X : Cx} {pos : Pos} {k e v : Expr} {te tk tv : TE} (he : PE X e te) (hk : PE X k tk) (hv : PE X v tv) : PE X (.Dict [none, some k] [e, v] pos) (tStar te tk tv) := by
  refine ⟨fun pins s σ H Q I q => ?_⟩
  have hn := I.hok.fresh (Nat.le_refl s.heap.objs.size)
  have I1 := I.laid (a := s.heap.objs.size) (o := .dK []) (h' := s.heap.push { cls := .type "dict", data := .dict #[] }) (t' := s.toks) (fun _ _ q => Heap.get?_push_of_some _ q) (Nat.le_refl _) (dk_empty s.heap I.big)
  rw [arm_eval_Dict]
  refine wpAny_bind (wpAny_standAt ?_)
  show wpAny (model X.prog X.w) X.A (dictDisplay [(none, do let x ← eval e X.env; standAt pos; pure x), (some (eval k X.env), do let x ← eval v X.env; standAt pos; pure x)]) _ _ _
  refine wpAny_star ?_
  refine wpAny_bind (thn (he.run pins _ σ _ _ I1 (q _ hn)) fun u s1 ⟨x, H1, I1, rx, q1⟩ => wpAny_bind (wpAny_standAt (wpAny_pure ?_)))
  obtain ⟨e0, a, xs, rfl, hpa, ea, hz, q1⟩ := q1
  cases (show u = Value.ref a from rx)
  obtain ⟨z0, hd0, vs0, r0, dd0⟩ := dk_of I1.hok e0
  cases r0
  obtain ⟨za, hda, vsa, ra, dda⟩ := dk_of I1.hok ea
  refine ⟨a, vsa, rfl, hpa, hda, dd0, dda, by rw [← ra.length]; exact za, fun h' dd' dda' hs => ?_⟩
  have hl : (mergeK [] xs).length ≤ sizeLine := by
    have := length_mergeK xs []
    rw [List.length_nil] at this
    omega
  have heq : ∃ q, h'.get? s.heap.objs.size = some q := let ⟨q, _, _, hq, _⟩ := dd'; ⟨q, hq⟩
  have I2 := d_write (t' := s1.toks) I1 (by rw [e0]; exact True.intro) hs heq (dk_new (H' := upd H1 s.heap.objs.size (.dK (mergeK [] xs))) hl hd0 (ra.merge .nil) dd')
  have hn2 := I2.hok.fresh (Nat.le_refl h'.objs.size)
  have I3 := I2.laid (a := h'.objs.size) (o := .dK []) (h' := h'.push { cls := .type "dict", data := .dict #[] }) (t' := s1.toks) (fun _ _ q => Heap.get?_push_of_some _ q) (Nat.le_refl _) (dk_empty h' I2.big)
  refine pairTrees_cons_walk (k := k) (v := v) (ks := []) (vs := []) (env := X.env) (pos := pos) (thn (hk.run pins _ σ _ _ I3 (q1 _ hn2)) fun u2 s2 ⟨y, H2, I4, ry, q2⟩ => thn (hv.run pins s2 σ H2 _ I4 q2) fun w2 s3 ⟨z, H3, I5, rz, q3⟩ => pairTrees_nil_walk ?_)
  obtain ⟨e3, e4, key, rfl, q3⟩ := q3
  obtain ⟨z5, hd5, vs5, r5, dd5⟩ := dk_of I5.hok e3
  cases r5
  refine ⟨[(key, w2)], ⟨kV_is ry, rfl, True.intro⟩, dd5, fun h2 d2 hs2 => ?_⟩
  have r6 : KV [(key, z)] (merged [] [(key, w2)]) := .cons ⟨rfl, rz⟩ .nil
  have heq2 : ∃ q, h2.get? h'.objs.size = some q := let ⟨q, _, _, hq, _⟩ := d2; ⟨q, hq⟩
  have I6 := d_write (t' := s3.toks + 1) I5 (by rw [e3]; exact True.intro) hs2 heq2 (dk_new (H' := upd H3 h'.objs.size (.dK [(key, z)])) (by rw [sizeLine_eq]; simp) hd5 r6 d2)
  have hne : s.heap.objs.size ≠ h'.objs.size := fun w => by
    rw [← w, upd_same] at hn2
    cases hn2
  have e6 : upd H3 h'.objs.size (.dK [(key, z)]) s.heap.objs.size = some (.dK (mergeK [] xs)) := by rw [upd_ne hne]; exact e4
  obtain ⟨z7, hd7, vs7, r7, dd7⟩ := dk_of I6.hok e6
  have hb : vs7.length + (merged [] [(key, w2)]).length ≤ sizeLine := by
    have h1 := length_mergeK xs []
    rw [List.length_nil] at h1
    have h2 := r7.length
    have h3 : (merged [] [(key, w2)]).length = 1 := rfl
    omega
  refine ⟨vs7, dd7, hne, hd5, hb, fun h3 d3 d4 hs3 => ?_⟩
  have heq3 : ∃ q, h3.get? s.heap.objs.size = some q := let ⟨q, _, _, hq, _⟩ := d3; ⟨q, hq⟩
  have hl3 : (putK (mergeK [] xs) key z).length ≤ sizeLine := by
    have h1 := length_mergeK xs []
    rw [List.length_nil] at h1
    have h2 := length_putK (mergeK [] xs) key z
    omega
  have I7 := d_write (t' := s3.toks + 1) I6 (by rw [e6]; exact True.intro) hs3 heq3 (dk_new (H' := upd (upd H3 h'.objs.size (.dK [(key, z)])) s.heap.objs.size (.dK (putK (mergeK [] xs) key z))) hl3 hd7 (KV.merge r6 r7) d3)
  exact ⟨.ref s.heap.objs.size, _, I7, rfl, q3⟩
end Ask
namespace Ask
open PySem L2 Evl
/-- {**d, k: e}; none of the three ends with an error -/
def dstM (m1 m2 m3 : Sl → R D) : Sl → R D := fun env => match m1 env with
  | .ok (.dct kvs) => if kvs.length ≤ 100000 then match m2 env with
    | .ok (.str k) => match m3 env with
      | .ok z => .ok (.dct (putD (mergeD [] kvs) k z))
      | _ => .bad
    | _ => .bad
    else .bad
  | _ => .bad
section
variable {X : Cx} {W : WX} {shs : List Sh} {pos : Pos} {k e v : Expr} {m1 m2 m3 : Sl → R D}
theorem me_dstar (he : ME X W e m1) (hk : ME X W k m2) (hv : ME X W v m3) : ME X W (.Dict [none, some k] [e, v] pos) (dstM m1 m2 m3) := by
  obtain ⟨t1, a1, a2⟩ := he
  obtain ⟨t2, b1, b2⟩ := hk
  obtain ⟨t3, c1, c2⟩ := hv
  refine ⟨_, pe_dstar a1 b1 c1, fun env σ B H Q hs h p hp => ?_⟩
  have hB := hs.inB
  have lay := Kq.lay (o := .dK []) hB hp
  have hs1 : RS X.K (p :: B) (upd H p (.dK [])) σ env := hs.my lay.ky
  refine a2 env σ (p :: B) _ _ hs1 ?_
  unfold dstM at h
  split at h
  · next kvs h1 =>
    split at h
    · next hl =>
      split at h
      · next ks h2 =>
        split at h
        · next z h3 =>
          rw [h1]
          intro va H1 e1 r1
          have e0 : H1 p = some (.dK []) := e1.ex _ _ upd_same
          have pe : p ∈ p :: B := List.mem_cons_self
          cases r1 with
          | @dct a xs _ ha rd =>
            have han : a ∉ p :: B := fun w => by unfold hid at ha; rw [if_pos w] at ha; cases ha
            have hpa : p ≠ a := fun w => han (by rw [← w]; exact pe)
            have hle := rd.length
            refine ⟨e0, a, xs, rfl, hpa, hid_some ha, by rw [sizeLine_eq]; omega, fun p2 hp2 => ?_⟩
            have hne : p ≠ p2 := fun w => by rw [← w, upd_same] at hp2; cases hp2
            have put1 := Kq.put (o := .dK (mergeK [] xs)) e1.inB' pe
            have lay2 := Kq.lay (o := .dK []) put1.inB hp2
            have hs2 := ((hs1.mono e1).my put1.ky).my lay2.ky
            refine b2 env σ _ _ _ hs2 ?_
            rw [h2]
            intro vy H2 e2 r2
            cases r2
            refine c2 env σ _ _ _ (hs2.mono e2) ?_
            rw [h3]
            intro vz H3 e3 r3
            have f2 : H3 p2 = some (.dK []) := e3.ex _ _ (e2.ex _ _ upd_same)
            have f1 : H3 p = some (.dK (mergeK [] xs)) := e3.ex _ _ (e2.ex _ _ (by rw [upd_ne hne]; exact upd_same))
            refine ⟨f2, f1, Sum.inr ks, rfl, ?_⟩
            have put2 := Kq.put (o := .dK [(Sum.inr ks, vz)]) (p := p2) e3.inB' List.mem_cons_self
            have put3 := Kq.put (o := .dK (putK (mergeK [] xs) (Sum.inr ks) vz)) (p := p) put2.inB (List.mem_cons_of_mem _ List.mem_cons_self)
            have k1 : Kq [] B H (p :: B) H1 := lay.then_ (Kq.ofKx e1) (fun x w => by cases w)
            have k2 := k1.then_ put1 (fun x w => .inr (by rw [List.mem_singleton.mp w]; exact hp))
            have k3 := k2.then_ lay2 (fun x w => by cases w)
            have hp2n : H p2 = none := k2.fresh hp2
            have k4 := (k3.then_ (Kq.ofKx e2) (fun x w => by cases w)).then_ (Kq.ofKx e3) (fun x w => by cases w)
            have k5 := (k4.then_ put2 (fun x w => .inr (by rw [List.mem_singleton.mp w]; exact hp2n))).then_ put3 (fun x w => .inr (by rw [List.mem_singleton.mp w]; exact hp))
            have hpB : p ∉ B := fun w => hB p w hp
            refine h _ _ k5.kx (.dct (hid_at upd_same hpB) (RpD0.put (r3.mono fun b o w => ?_) (RpD0.merge (rd.mono fun b o w => ?_) .nil)))
            · have hb := hid_some w
              have hbn : b ∉ p2 :: p :: B := fun w2 => by unfold hid at w; rw [if_pos w2] at w; cases w
              simp only [List.mem_cons, not_or] at hbn
              refine hid_at ?_ hbn.2.2
              rw [upd_ne hbn.2.1, upd_ne hbn.1]
              exact hb
            · have hb := hid_some w
              have hbn : b ∉ p :: B := fun w2 => by unfold hid at w; rw [if_pos w2] at w; cases w
              simp only [List.mem_cons, not_or] at hbn
              have hb2 : b ≠ p2 := fun w2 => by
                subst w2
                rw [upd_ne hbn.1] at hp2
                rw [hb] at hp2
                cases hp2
              refine hid_at ?_ hbn.2
              rw [upd_ne hbn.1, upd_ne hb2]
              exact e3.ex _ _ (e2.ex _ _ (by rw [upd_ne hb2, upd_ne hbn.1]; exact hb))
        · exact h.elim
      · exact h.elim
    · exact h.elim
  · exact h.elim
end
end Ask
namespace Ask
open PySem L2 Evl
section
variable {X : Cx} {W : WX} {shs : List Sh} {a o e tg : Expr} {es : List Expr} {ma m1 m2 : Sl → R D} {pos p2 : Pos}
/-- range(e), with all that the slots hold -/
theorem mni_rngV {p : Pos} {m : Sl → R (List D)} (hg : Gl X "range") (hm : X.mg "range" = none) (ha : MA X W [a] m) (hs : starEach [a] X.env = [(false, eval a X.env)] := by rfl) : MNI X W shs tg (.Call (.Name "range" p) [a] [] pos) (rngM m) := by
  obtain ⟨ta, a1, a2⟩ := ha
  refine ⟨_, pi_range1 hg hm a1 hs, fun M B0 H0 ks B H σ env P pv pd Q r q => ?_⟩
  obtain ⟨os, r1, r2⟩ := r.rsV
  refine a2 env σ (viewB B os) H _ r1 ?_
  unfold rngM at q
  cases hm2 : m env with
  | ok xs =>
    rw [hm2] at q
    intro vs H1 kx rx
    simp only [R.bind] at q
    split at q
    · split at q
      · next n hn =>
        cases rx with
        | cons r3 r4 =>
          cases r4
          cases r3
          exact ⟨_, rfl, by omega, by omega, q _ H1 (kx.unview r.kq.inB) walks_range⟩
      · exact q.elim
    · exact q.elim
  | err c => rw [hm2] at q; exact q.elim
  | bad => rw [hm2] at q; exact q.elim
/-- o[e] of a dict, o read otherwise -/
theorem mn_dix (hu : X.A.units + 1 < cLine) (ho : MN X W shs o m1) (hk : MN X W shs e m2) (hs : NoSl e) : MN X W shs (.Subscript o e pos) (op2 D.dix m1 m2) := by
  obtain ⟨ta, a1, a2⟩ := ho
  obtain ⟨tb, b1, b2⟩ := hk
  refine ⟨_, pe_dget hu a1 b1 hs, fun M B0 H0 ks B H σ env P pv pd Q r q => a2 M B0 H0 ks B H σ env P pv pd _ r ?_⟩
  unfold op2 at q
  cases hm1 : m1 env with
  | ok x =>
    rw [hm1] at q
    intro v H1 e1 r1
    simp only [R.bind] at q
    refine b2 M B0 H0 ks B H1 σ env P pv pd _ (r.mono e1) ?_
    cases hm2 : m2 env with
    | ok y =>
      rw [hm2] at q
      intro u H2 e2 r2
      simp only [R.bind] at q
      cases hz : D.dix x y with
      | none => rw [hz] at q; exact q.elim
      | some z =>
        rw [hz] at q
        cases r1.mv e2 with
        | dct hp rd =>
          cases r2 with
          | str k =>
            obtain ⟨v, hv, rv⟩ := rd.get (show _ = some z from hz)
            exact ⟨_, v, rfl, by rw [← hv]; exact DGet.k (k := Sum.inr k) (hid_some hp), q v H2 (e1.trans e2) rv⟩
          | _ => cases hz
        | _ => cases hz
    | err c => rw [hm2] at q; exact q.elim
    | bad => rw [hm2] at q; exact q.elim
  | err c => rw [hm1] at q; exact q.elim
  | bad => rw [hm1] at q; exact q.elim
theorem evq_lc (i : Nat) {mi : Sl → R (List D)} {m : Sl → R D} {wi : TI} (i2 : EvI X.K X.mg W wi mi) : EvQ X.K shs (.lst .pl) (tLc wi (gName i) tYes (teOf X.K X.mg W0 m) [i]) (qLc (lcM mi [i] (tgN i) yesM m)) := by
  intro M B0 H0 ks B H σ env P pv pd Q r q
  obtain ⟨os, r1, r2⟩ := r.rsV
  refine EvLcF (W := W) (mg := X.mg) (bi := tgN i) (mt := yesM) i2 (fun env env' σ B H v d Q hs r h q => ?_) (fun env σ B H Q hs h => ?_) teOf_ev (fun v σ H Q h => wipe_one h) env σ (viewB B os) H Q r1 ?_
  · cases h; exact q _ (hs.set r)
  · exact h true H (Kx.refl hs.inB) rfl
  · unfold qLc at q
    cases hm : lcM mi [i] (tgN i) yesM m env with
    | ok d =>
      rw [hm] at q
      simp only [R.bind] at q
      split at q
      · next ys =>
        split at q
        · next hk =>
          intro p H' acc kx hp hp' ky ra
          have hB := r.kq.inB
          have hx : Ex H H' := kx.ex
          have k : Kq [] B H (p :: B) H' := {
            keep := fun a o e _ => hx a o e
            gr := fun a e w => by
              cases z : H a with
              | none => exact e z
              | some o => rw [hx a o z] at w; cases w
            sub := fun a z => List.mem_cons_of_mem _ z
            new := fun a z => by
              rcases List.mem_cons.mp z with e | e
              · exact .inr (by rw [e]; exact hp)
              · exact .inl e
            inB0 := hB
            inB := fun a z w => by
              rcases List.mem_cons.mp z with e | e
              · rw [e, hp'] at w; cases w
              · cases z2 : H a with
                | none => exact hB a e z2
                | some o => rw [hx a o z2] at w; cases w
            mB := fun _ z => by cases z }
          refine q (.ref p) (p :: B) H' (r.fresh k (ow_mkL hp' (rpa_unviewG (fun a ha => ?_) hk ra)) (by simp) fun a ha => ?_)
          · rcases List.mem_cons.mp ha with e | e
            · exact .inl (by rw [e]; exact List.mem_cons_self)
            · by_cases hos : a ∈ os
              · exact .inr ((r2 a hos e).mono hx)
              · exact .inl (List.mem_cons_of_mem _ (viewB_mem.mpr ⟨e, hos⟩))
          · rw [List.mem_singleton.mp ha]
            exact ⟨List.mem_cons_self, hp⟩
        · exact q.elim
      · exact q.elim
    | err c => rw [hm] at q; exact q.elim
    | bad => rw [hm] at q; exact q.elim
theorem mq_lc (i : Nat) {elt iter : Expr} {x : Str} {px : Pos} {scope : Scope} {mi : Sl → R (List D)} {m : Sl → R D} (hc : X.calm = true) (hN : X.N.Nodup) (hi : MI X W (.Name x px) iter mi) (ok : BlkOk X.N X.env.scope scope [(x, i)])
    (hg1 : Blk X scope fun Y => PG Y (.Name x px) (gName i)) (he : Blk X scope fun Y => ME Y W0 elt m) (hs : ∀ x, foldedSetIterable iter X.env x = pure x := by intro _; rfl) :
    MQ X W shs (.lst .pl) (.ListComp elt [⟨.Name x px, iter, [], 0⟩] scope pos) (qLc (lcM mi [i] (tgN i) yesM m)) := by
  obtain ⟨wi, i1, i2⟩ := hi
  exact ⟨_, pe_lc (own := [(x, i)]) hc hN i1 ok hg1 (fun _ _ _ _ _ => pts_nil) (fun s H C cl fp => (show PE _ elt (teOf X.K X.mg W0 m) from (he s H C cl fp).pe)) hs, evq_lc i i2⟩
/-- y = [..], a comprehension whose list is one's own -/
theorem qs_setLcO {ow : List Nat} {rsh : Sh} (i j : Nat) {elt iter : Expr} {x y : Str} {px py spos : Pos} {scope : Scope} {mi : Sl → R (List D)} {m : Sl → R D} (hj2 : j ∉ ow) (hsh : shs[j]? = some (.lst .pl)) (hc : X.calm = true) (hN : X.N.Nodup) (hy : X.N[j]? = some y) (hyl : X.env.scope.names.lookup y = some .local)
    (hsw : swapsWith (.ListComp elt [⟨.Name x px, iter, [], 0⟩] scope pos) (some (.Name y py)) spos.line X.env = pure true) (hi : MI X W (.Name x px) iter mi) (ok : BlkOk X.N X.env.scope scope [(x, i)])
    (hg1 : Blk X scope fun Y => PG Y (.Name x px) (gName i)) (he : Blk X scope fun Y => ME Y W0 elt m) (hs : ∀ x, foldedSetIterable iter X.env x = pure x := by intro _; rfl) :
    QS X W ow shs rsh (.Assign [.Name y py] (.ListComp elt [⟨.Name x px, iter, [], 0⟩] scope pos) spos) (asgQ j (qLc (lcM mi [i] (tgN i) yesM m))) := by
  obtain ⟨wi, i1, i2⟩ := hi
  refine ⟨_, ps_setLc (own := [(x, i)]) hc hN hy hyl hsw i1 ok hg1 (fun _ _ _ _ _ => pts_nil) (fun s H C cl fp => (show PE _ elt (teOf X.K X.mg W0 m) from (he s H C cl fp).pe)) hs, fun v0 M B0 H0 ks B H σ env E r f h => evq_lc i i2 M B0 H0 ks B H σ env [] [] [] _ r ?_⟩
  unfold asgQ toQ at h
  cases hm : qLc (lcM mi [i] (tgN i) yesM m) env with
  | ok p =>
    obtain ⟨d, e⟩ := p
    rw [hm] at h
    intro v B' H' r'
    obtain ⟨mm, w1, w2, w3, _, w5⟩ := RQ.pend (P := []) (pv := []) (pd := []) r' rfl rfl
    have hil : j < e.length := by
      have hl := r'.len
      by_cases hh : j < shs.length
      · omega
      · rw [List.getElem?_eq_none (by omega)] at hsh; cases hsh
    cases w1 with
    | cons o1 o2 =>
      cases o2
      rw [List.append_nil] at w2 w3 w5
      exact h _ B' H' (w5 B' H' j (.lst .pl) _ v d hsh hil ((Kq.refl r'.kq.inB).more (fun _ z => by cases z) fun x hx => (w3 x hx).1) o1 w2 fun a ha => ⟨(w3 a ha).1, .inl ha⟩) (fx_set hj2 f)
  | err c => rw [hm] at h; exact h.elim
  | bad => rw [hm] at h; exact h.elim
end
end Ask
namespace Ask
open PySem L2 Evl
/-! a call that changes one thing of one's own; its other arguments are read with all that the other slots hold -/
section
variable {K : PySem.W.Frag} {M B0 B B' : List Addr} {H0 H H' : Hp} {ks : List (List Addr × Hp)} {shs : List Sh}
theorem OwS.focus2 : ∀ {sh : List Sh} {fp : List Addr} {σ : List (Option V)} {env : List (Option D)} {n : Nat}, OwS K B H sh fp σ env → n < env.length →
    ∃ s l m r, sh[n]? = some s ∧ fp = l ++ m ++ r ∧ (∀ d, env[n]? = some (some d) → ∃ v, σ[n]? = some (some v) ∧ Ow K B H s m v d) ∧ OwS K B H sh (l ++ r) σ (env.set n none) ∧
      ∀ (B' : List Addr) (H' : Hp) (s' : Sh) (m' : List Addr) (v' : V) (d' : D), Ex (hid B H) (hid B' H') → (∀ a ∈ l ++ r, H' a = H a) → Ow K B' H' s' m' v' d' → OwS K B' H' (sh.set n s') (l ++ m' ++ r) (σ.set n (some v')) (env.set n (some d'))
  | _, _, _, _, 0, .non (sh := sh) (fps := fps) r, e => by
    refine ⟨sh, [], [], fps, rfl, rfl, (fun d z => by simp at z), .non r, fun B' H' s' m' v' d' x k o => ?_⟩
    exact .som o (OwS.mono x (fun a ha => k a ha) r)
  | _, _, _, _, 0, .som (sh := sh) (fp := fp) (fps := fps) (v := v) h r, e => by
    refine ⟨sh, [], fp, fps, rfl, rfl, (fun d z => by simp at z; subst z; exact ⟨v, rfl, h⟩), .non r, fun B' H' s' m' v' d' x k o => ?_⟩
    exact .som o (OwS.mono x (fun a ha => k a ha) r)
  | _, _, _, _, n + 1, .non (fps := fps) r, e => by
    obtain ⟨s, l, m, q, e1, rfl, g, g0, k⟩ := OwS.focus2 r (n := n) (by simpa using e)
    refine ⟨s, l, m, q, by simpa using e1, rfl, fun d z => ?_, .non g0, fun B' H' s' m' v' d' x j o' => ?_⟩
    · obtain ⟨v, e2, o⟩ := g d (by simpa using z)
      exact ⟨v, by simpa using e2, o⟩
    · exact .non (k B' H' s' m' v' d' x j o')
  | _, _, _, _, n + 1, .som (fp := fp) (fps := fps) h r, e => by
    obtain ⟨s, l, m, q, e1, rfl, g, g0, k⟩ := OwS.focus2 r (n := n) (by simpa using e)
    refine ⟨s, fp ++ l, m, q, by simpa using e1, by simp, fun d z => ?_, ?_, fun B' H' s' m' v' d' x j o' => ?_⟩
    · obtain ⟨v, e2, o⟩ := g d (by simpa using z)
      exact ⟨v, by simpa using e2, o⟩
    · have c := OwS.som h g0
      simpa only [List.append_assoc, List.set_cons_succ] using c
    · have g := k B' H' s' m' v' d' x (fun a ha => j a (by simp only [List.append_assoc, List.mem_append] at ha ⊢; exact .inr ha)) o'
      have c := OwS.som (Ow.mono x (fun a ha => j a (by simp only [List.append_assoc, List.mem_append]; exact .inl ha)) h) g
      simpa only [List.append_assoc, List.set_cons_succ] using c
theorem RQ.slotV {i : Nat} {d : D} {sh : Sh} {v : V} {σ : L2.St} {env : Sl} {P : List Sh} {pv : List V} {pd : List D} (h : RQ K M B0 H0 ks B H shs σ env P pv pd) (hi : env[i]? = some (some d)) (hs : shs[i]? = some sh) (hσ : σ[i]? = some (some v)) :
    ∃ m os, Ow K B H sh m v d ∧ m.Nodup ∧ (∀ a ∈ m, a ∈ B) ∧ (∀ a ∈ m, a ∉ os) ∧ RS K (viewB B os) H σ (env.set i none) ∧ (∀ a ∈ os, a ∈ B → Mo H a) ∧
      ∀ (B' : List Addr) (H' : Hp) (m' : List Addr) (d'' : D) (vr : V) (dr : D), Kq m B H B' H' → Ow K B' H' sh m' v d'' → Rp K B' H' vr dr → m'.Nodup → (∀ a ∈ m', a ∈ B' ∧ (a ∈ m ∨ H a = none)) →
        RQ K M B0 H0 ks B' H' shs σ (env.set i (some d'')) (P ++ [.pl]) (pv ++ [vr]) (pd ++ [dr]) := by
  obtain ⟨f1, f2, a1, a2, a3, a4⟩ := h.own
  have hil : i < env.length := by
    by_cases hh : i < env.length
    · exact hh
    · rw [List.getElem?_eq_none (by omega)] at hi; cases hi
  obtain ⟨sh0, L, m, R, b1, rfl, b3, b4, b5⟩ := a1.focus2 hil
  rw [hs] at b1
  cases b1
  obtain ⟨r0, c1, e1⟩ := b3 d hi
  rw [hσ] at c1
  cases c1
  have mem : ∀ a ∈ m, a ∈ B ∧ (a ∈ M ∨ H0 a = none) := fun a ha => a4 a (by simp only [List.mem_append]; exact .inl (.inl (.inr ha)))
  have ndm : m.Nodup := by
    simp only [List.nodup_append] at a3
    exact a3.1.1.2.1
  have hsep : ∀ a ∈ m, a ∉ L ++ R := fun a ha hb => by
    simp only [List.nodup_append, List.mem_append] at a3 hb
    rcases hb with hb | hb
    · exact a3.1.1.2.2 a hb a ha rfl
    · exact a3.1.2.2 a (.inr ha) a hb rfl
  refine ⟨m, L ++ R, e1, ndm, fun a ha => (mem a ha).1, hsep, ⟨fun a ha => h.kq.inB a (viewB_mem.mp ha).1, by rw [List.length_set]; exact a1.len.1, fun j dj ej => ?_⟩, fun a ha _ => b4.mo a ha, fun B' H' m' d'' vr dr k o' rv nd' fr' => ?_⟩
  · exact b4.view (fun a ha => (viewB_mem.mp ha).1) j dj (fun a ha z => (viewB_mem.mp z).2 ha) ej
  have off : ∀ a, a ∈ L ∨ a ∈ R ∨ a ∈ f2 → H' a = H a ∧ H a ≠ none := fun a ha => by
    have hB : a ∈ B := (a4 a (by simp only [List.mem_append] at ha ⊢; grind)).1
    refine ⟨k.same (h.kq.inB a hB) fun z => ?_, h.kq.inB a hB⟩
    simp only [List.nodup_append, List.mem_append] at a3
    grind
  have g1 := b5 B' H' sh m' v d'' k.ex (fun a ha => (off a (by simp only [List.mem_append] at ha ⊢; grind)).1) o'
  rw [set_same hs, set_same hσ] at g1
  refine h.chg k (fun a ha => (mem a ha).2) ⟨_, f2 ++ [], g1, (a2.mono k.ex fun a ha => (off a (.inr (.inr ha))).1).app (OwL.one (.pl rv)), ?_, fun a ha => ?_⟩
  · have hd : ∀ a ∈ m', a ∈ m ∨ (a ∉ L ∧ a ∉ R ∧ a ∉ f2) := fun a ha => by
      rcases (fr' a ha).2 with z | z
      · exact .inl z
      · exact .inr ⟨fun w => (off a (.inl w)).2 z, fun w => (off a (.inr (.inl w))).2 z, fun w => (off a (.inr (.inr w))).2 z⟩
    have g2 := nodup_mid (m' := m') (l := L) (m := m) (q := R) (f := f2) a3 nd' hd
    simpa only [List.append_nil] using g2
  · rw [List.append_nil] at ha
    by_cases hin : a ∈ m'
    · obtain ⟨z1, z2⟩ := fr' a hin
      refine ⟨z1, ?_⟩
      rcases z2 with z | z
      · exact (mem a z).2
      · exact .inr (h.kq.fresh z)
    · have hold : a ∈ (L ++ m ++ R) ++ f2 := by
        simp only [List.mem_append] at ha hin ⊢
        grind
      obtain ⟨z1, z2⟩ := a4 a hold
      exact ⟨k.sub a z1, z2⟩
end
section
variable {X : Cx} {W : WX} {shs : List Sh} {i k n : Nat} {e : Expr} {es : List Expr} {pos : Pos} {m1 : Sl → R D} {mr : Sl → R (List D)}
def MVO (X : Cx) (W : WX) (i n : Nat) (es : List Expr) (m : Sl → R (List D)) : Prop := ∃ ta, PA X es ta ∧ ∀ (B : List Addr) (H : Hp) (σ : L2.St) (env : Sl) (r : V) (Q : List V → Hp → Prop), RS X.K B H σ env → σ[i]? = some (some r) →
  (match m env with
  | .ok ds => ∀ vs H', ds.length = n → vs.length = n → Kx B H H' → RpA X.K B H' vs ds → Q (vs ++ [r]) H'
  | _ => False) → ta σ H Q
def nilV : Sl → R (List D) := fun _ => .ok []
def consV (m1 : Sl → R D) (mr : Sl → R (List D)) : Sl → R (List D) := fun env => (noErr (m1 env)).bind fun d => (mr env).bind fun ds => .ok (d :: ds)
theorem mvo_last (i : Nat) {x : Str} (hN : X.N[i]? = some x := by rfl) (hv : Vis X.env.scope x := by first | exact Or.inl rfl | exact Or.inr (Or.inl rfl) | exact Or.inr (Or.inr rfl)) (hd : (x == ("__debug__" : Str)) = false := by decide)
    (hcd : (x == ("__classdict__" : Str)) = false := by decide) (hs : starEach [.Name x pos] X.env = (false, eval (.Name x pos) X.env) :: starEach [] X.env := by rfl) : MVO X W i 0 [.Name x pos] nilV := by
  refine ⟨_, pa_cons (pe_var (i := i) hN hv hd hcd) pa_nil hs, fun B H σ env r Q hs hr q => ?_⟩
  exact ⟨r, hr, q [] H rfl rfl (Kx.refl hs.inB) .nil⟩
theorem mvo_cons (h : ME X W e m1) (k : MVO X W i n es mr) (hs : starEach (e :: es) X.env = (false, eval e X.env) :: starEach es X.env := by rfl) : MVO X W i (n + 1) (e :: es) (consV m1 mr) := by
  obtain ⟨t, a1, a2⟩ := h
  obtain ⟨u, b1, b2⟩ := k
  refine ⟨_, pa_cons a1 b1 hs, fun B H σ env r Q hs hr q => a2 env σ B H _ hs ?_⟩
  unfold consV at q
  cases hm : m1 env with
  | ok d =>
    rw [hm] at q
    intro v H1 e1 r1
    refine b2 B H1 σ env r _ (hs.mono e1) hr ?_
    simp only [noErr, R.bind] at q
    cases hr2 : mr env with
    | ok ds =>
      rw [hr2] at q
      intro vs H2 l1 l2 e2 ra
      exact q (v :: vs) H2 (by simp [l1]) (by simp [l2]) (e1.trans e2) (.cons (r1.mv e2) ra)
    | err c => rw [hr2] at q; exact q.elim
    | bad => rw [hr2] at q; exact q.elim
  | err c => rw [hm] at q; exact q.elim
  | bad => rw [hm] at q; exact q.elim
/-- what comes back, and what the list holds afterwards, holds no list and no dict -/
def qCallOV (i n : Nat) (f : D → List D → R (D × D)) (m : Sl → R (List D)) : Sl → R (D × Sl) := fun env => match env[i]? with
  | some (some d0) => (m (env.set i none)).bind fun ds => (noErr (f d0 ds)).bind fun q => match q.2 with
    | .lst ys => if noKs ys = true ∧ noK q.1 = true then .ok (q.1, env.set i (some (.lst ys))) else .bad
    | _ => .bad
  | _ => .bad
theorem mq_callOV {x : Str} {p : Pos} {f : D → List D → R (D × D)} (hs : shs[i]? = some (.lst .pl)) (F : FnQ X.prog X.w X.K X.mg X.base x k (.lst .pl) .pl n f) (hr : Room k X.A) (hg : Gl X x)
    (ha : MVO X W i n (e :: es) mr) (hdb : (x == ("__debug__" : Str)) = false := by decide) (he : starEach (e :: es) X.env = (false, eval e X.env) :: starEach es X.env := by rfl) (hpl : (backTo pos (starEach es X.env)).any (·.1) = false := by rfl) :
    MQ X W shs .pl (.Call (.Name x p) (e :: es) [] pos) (qCallOV i n f mr) := by
  obtain ⟨g, fd, ps, hl, hm, hk, hb, G⟩ := F
  obtain ⟨ta, a1, a2⟩ := ha
  refine ⟨_, pe_call G hr hg hm hk hb .nil (passE0 (X := X)) a1 hdb he hpl, fun M B0 H0 ks B H σ env P pv pd Q r q => ?_⟩
  unfold qCallOV at q
  split at q
  · next d0 hd0 =>
    obtain ⟨sh', v0, fp0, z1, l0, _⟩ := r.at hd0
    rw [hs] at z1
    cases z1
    obtain ⟨mm, os, o1, nd, hin, sep, rs, mo, back⟩ := r.slotV hd0 hs l0
    refine a2 (viewB B os) H σ _ v0 _ rs l0 ?_
    cases hm2 : mr (env.set i none) with
    | ok ds =>
      rw [hm2] at q
      simp only [R.bind] at q
      intro vs H1 l1 l2 kx ra
      rw [List.append_nil]
      have hinV : ∀ a ∈ mm, a ∈ viewB B os := fun a ha => viewB_mem.mpr ⟨hin a ha, sep a ha⟩
      have o1' : Ow X.K (viewB B os) H1 (.lst .pl) mm v0 d0 := o1.mono (fun a o w => by
        have hb := hid_some w
        have hn : a ∉ B := fun w2 => by unfold hid at w; rw [if_pos w2] at w; cases w
        exact hid_at (kx.ex _ _ hb) fun w2 => hn (viewB_mem.mp w2).1) fun a ha => by
          cases z : H a with
          | none => exact absurd z (r.kq.inB a (hin a ha))
          | some o => exact kx.ex _ _ z
      refine ⟨viewB B os, mm, v0, d0, vs, ds, kx.inB', rfl, l1, o1', nd, hinV, ra, ?_⟩
      cases hf : f d0 ds with
      | ok qq =>
        obtain ⟨dr, d1⟩ := qq
        rw [hf] at q
        simp only [noErr, R.bind] at q
        split at q
        · next ys =>
          split at q
          · next hno =>
            intro v H' B' fp' fr kq ow2 rv nd' hf'
            have hHn : ∀ a, H1 a = none → H a = none := fun a w => by
              cases z : H a with
              | none => rfl
              | some o => rw [kx.ex _ _ z] at w; cases w
            have hB2 : ∀ a, a ∈ B → H a ≠ none := r.kq.inB
            have kq2 : Kq mm B H (B' ++ B) H' := {
              keep := fun a o w1 w2 => kq.keep a o (kx.ex _ _ w1) w2
              gr := fun a w => kq.gr a (fun z => w (hHn a z))
              sub := fun a w => List.mem_append_right _ w
              new := fun a w => by
                rcases List.mem_append.mp w with w | w
                · rcases kq.new a w with z | z
                  · exact .inl (viewB_mem.mp z).1
                  · exact .inr (hHn a z)
                · exact .inl w
              inB0 := r.kq.inB
              inB := fun a w => by
                rcases List.mem_append.mp w with w | w
                · exact kq.inB a w
                · exact kq.gr a (fun z => hB2 a w (hHn a z))
              mB := hin }
            have hcov : ∀ a ∈ B' ++ B, a ∈ B' ∨ Mo H' a := fun a w => by
              rcases List.mem_append.mp w with w | w
              · exact .inl w
              · by_cases hos : a ∈ os
                · right
                  have hmo := mo a hos w
                  have hne : a ∉ mm := fun z => sep a z hos
                  have e1 : H' a = H a := by
                    cases z : H a with
                    | none => exact absurd z (hB2 a w)
                    | some o => exact kq.keep a o (kx.ex _ _ z) hne
                  rcases hmo with ⟨_, e⟩ | ⟨_, e⟩ | ⟨_, _, _, e⟩ | ⟨_, e⟩
                  · exact .inl ⟨_, e1.trans e⟩
                  · exact .inr (.inl ⟨_, e1.trans e⟩)
                  · exact .inr (.inr (.inl ⟨_, _, _, e1.trans e⟩))
                  · exact .inr (.inr (.inr ⟨_, e1.trans e⟩))
                · exact .inl (kq.sub a (viewB_mem.mpr ⟨w, hos⟩))
            cases rv with
            | pl rv =>
              rw [List.append_nil] at nd' hf'
              obtain ⟨p2, xs2, rfl, rfl, hp2, ra2⟩ := ow_flatL ow2
              refine q v (B' ++ B) H' (back (B' ++ B) H' [p2] _ v dr kq2 (ow_mkL hp2 (rpa_unviewG hcov hno.1 ra2)) (rp_unviewG hcov hno.2 rv) nd' fun a ha => ?_)
              obtain ⟨z1, z2⟩ := hf' a ha
              refine ⟨List.mem_append_left _ z1, ?_⟩
              rcases z2 with z | z
              · exact .inl z
              · exact .inr (hHn a z)
          · exact q.elim
        · exact q.elim
      | err c => rw [hf] at q; exact q.elim
      | bad => rw [hf] at q; exact q.elim
    | err c => rw [hm2] at q; exact q.elim
    | bad => rw [hm2] at q; exact q.elim
  · exact q.elim
end
section
variable {X : Cx} {W : WX} {ow : List Nat} {shs : List Sh} {rsh : Sh} {a b : Expr} {xs ys : List Stmt} {mq mq2 : Sl → R (D × Sl)} {na nb : Sl → OQ} {pos p2 : Pos}
/-- if a == b, where a or b change what is one's own -/
theorem qs_ifC {op : CmpOp} {g : D → D → Option D} (ho : OpM X (compareOp op) g) (hca : MQ X W shs .pl a mq) (hcb : MQ X W shs .pl b mq2) (ha : QSs X W ow shs rsh xs na) (hb : QSs X W ow shs rsh ys nb) (hm : behindInMarks op b = false := by rfl) : QS X W ow shs rsh (.If (.Compare a [op] [b] p2) xs ys pos) (ifQe (q2 g mq mq2) na nb) := by
  obtain ⟨r, h1, h2⟩ := ho
  obtain ⟨t1, k1, k2⟩ := hca
  obtain ⟨t2, j1, j2⟩ := hcb
  obtain ⟨ta, a1, a2⟩ := ha
  obtain ⟨tb, b1, b2⟩ := hb
  refine ⟨_, ps_if (pt_cmpR h1 k1 j1 hm) a1 b1, fun v0 M B0 H0 ks B H σ env E r f h => evq_op2 h2 k2 j2 M B0 H0 ks B H σ env [] [] [] _ r ?_⟩
  unfold ifQe toQ at h
  cases hm : q2 g mq mq2 env with
  | ok p =>
    obtain ⟨d, e⟩ := p
    rw [hm] at h
    intro v B' H' r'
    obtain ⟨rv, r2⟩ := RQ.plain1 (P := []) (pv := []) (pd := []) r'
    simp only at h
    split at h
    · next k =>
      cases rv
      refine ⟨k, rfl, ?_⟩
      cases k with
      | true => exact iteT (a2 v0 M B0 H0 ks B' H' σ e E r2 f h)
      | false => exact iteF (b2 v0 M B0 H0 ks B' H' σ e E r2 f h)
    · exact h.elim
  | err c => rw [hm] at h; exact h.elim
  | bad => rw [hm] at h; exact h.elim
end
end Ask
/-! Pieces, what they come to, and the run by steps: the theory, without the program. -/
namespace Th
open PySem
inductive Pc where
  | num (n : Int) | name (x : Str) | sum (a b : Pc) | let_ (x : Str) (a b : Pc) | choose (a b c : Pc) | ask (k : Str) (a : Pc) | hand (k x : Str) (a b : Pc)
def Pc.isNum : Pc → Bool
  | .num _ => true
  | _ => false
def putIn (x : Str) (n : Int) : Pc → Pc
  | .num m => .num m
  | .name y => if y = x then .num n else .name y
  | .sum a b => .sum (putIn x n a) (putIn x n b)
  | .let_ y a b => .let_ y (putIn x n a) (if y = x then b else putIn x n b)
  | .choose a b c => .choose (putIn x n a) (putIn x n b) (putIn x n c)
  | .ask k a => .ask k (putIn x n a)
  | .hand k y a b => .hand k y (if y = x then a else putIn x n a) (putIn x n b)
def namesIn : Pc → List Str
  | .num _ => []
  | .name x => [x]
  | .sum a b => namesIn a ++ namesIn b
  | .let_ x a b => x :: (namesIn a ++ namesIn b)
  | .choose a b c => namesIn a ++ (namesIn b ++ namesIn c)
  | .ask _ a => namesIn a
  | .hand _ x a b => x :: (namesIn a ++ namesIn b)
/-- a piece in the place of the ask that is next -/
def fill (q : Pc) : Pc → Pc
  | .num n => .num n
  | .name x => .name x
  | .sum a b => if a.isNum = true then .sum a (fill q b) else .sum (fill q a) b
  | .let_ x a b => .let_ x (fill q a) b
  | .choose a b c => .choose (fill q a) b c
  | .ask k a => if a.isNum = true then q else .ask k (fill q a)
  | .hand k x a b => .hand k x a (fill q b)
inductive St where
  | num (n : Int) | go (p : Pc) | ask (k : Str) (n : Int) | stuck
/-- texts of figures: what is told first, and is in no such row -/
def firstNat (fg : Nat → Str) (l : List Str) : Nat := ((List.range (l.length + 1)).find? fun i => !l.contains (fg i)).getD 0
def fr (fg : Nat → Str) (p : Pc) : Str := fg (firstNat fg (namesIn p))
def stp (fg : Nat → Str) : Pc → St
  | .num n => .num n
  | .name _ => .stuck
  | .sum a b => match stp fg a with
    | .num m => match stp fg b with
      | .num n => .go (.num ((m + n) % 1000))
      | .go b' => .go (.sum a b')
      | .ask k n => .ask k n
      | .stuck => .stuck
    | .go a' => .go (.sum a' b)
    | .ask k n => .ask k n
    | .stuck => .stuck
  | .let_ x a b => match stp fg a with
    | .num n => .go (putIn x n b)
    | .go a' => .go (.let_ x a' b)
    | .ask k n => .ask k n
    | .stuck => .stuck
  | .choose a b c => match stp fg a with
    | .num n => .go (if n = 0 then c else b)
    | .go a' => .go (.choose a' b c)
    | .ask k n => .ask k n
    | .stuck => .stuck
  | .ask k a => match stp fg a with
    | .num n => .ask k n
    | .go a' => .go (.ask k a')
    | .ask k n => .ask k n
    | .stuck => .stuck
  | .hand k x a b => match stp fg b with
    | .num n => .go (.num n)
    | .go b' => .go (.hand k x a b')
    | .ask k' n => if k' = k then .go (if k = "fail" then putIn x n a else .let_ (fr fg (.hand k x a b)) (putIn x n a) (.hand k x a (fill (.name (fr fg (.hand k x a b))) b))) else .ask k' n
    | .stuck => .stuck
/-- what a piece comes to, the asks told one by one -/
inductive Tree where
  | ret (n : Int) | ask (k : Str) (n : Int) (c : Int → Tree)
def Tree.bind : Tree → (Int → Tree) → Tree
  | .ret n, f => f n
  | .ask k n c, f => .ask k n fun v => (c v).bind f
def Tree.handle (k : Str) (A : Int → Tree) : Tree → Tree
  | .ret n => .ret n
  | .ask k' n c => if k' = k then (if k = "fail" then A n else (A n).bind fun v => (c v).handle k A) else .ask k' n fun v => (c v).handle k A
def up (e : Str → Int) (x : Str) (n : Int) : Str → Int := fun y => if y = x then n else e y
def den (e : Str → Int) : Pc → Tree
  | .num n => .ret n
  | .name x => .ret (e x)
  | .sum a b => (den e a).bind fun m => (den e b).bind fun n => .ret ((m + n) % 1000)
  | .let_ x a b => (den e a).bind fun n => den (up e x n) b
  | .choose a b c => (den e a).bind fun n => if n = 0 then den e c else den e b
  | .ask k a => (den e a).bind fun n => .ask k n .ret
  | .hand k x a b => (den e b).handle k fun n => den (up e x n) a
section
variable {fg : Nat → Str}
theorem firstNat_is (inj : ∀ i j, fg i = fg j → i = j) (l : List Str) : fg (firstNat fg l) ∉ l := by
  unfold firstNat
  cases h : (List.range (l.length + 1)).find? fun i => !l.contains (fg i) with
  | some i =>
    have := List.find?_some h
    simpa using this
  | none =>
    exfalso
    have hall : ∀ i ∈ List.range (l.length + 1), fg i ∈ l := fun i hi => by
      have := List.find?_eq_none.mp h i hi
      simpa using this
    have nd : ((List.range (l.length + 1)).map fg).Nodup := by
      refine List.Pairwise.map fg (fun i j hij z => hij (inj i j z)) List.nodup_range
    have sub : (List.range (l.length + 1)).map fg ⊆ l := fun z hz => by
      obtain ⟨i, hi, rfl⟩ := List.mem_map.mp hz
      exact hall i hi
    have len := nd.length_le_of_subset sub
    rw [List.length_map, List.length_range] at len
    omega
theorem fr_is (inj : ∀ i j, fg i = fg j → i = j) (p : Pc) : fr fg p ∉ namesIn p := firstNat_is inj _
theorem stp_num {p : Pc} {n : Int} (h : stp fg p = .num n) : p = .num n := by
  cases p with
  | num m => cases h; rfl
  | name x => cases h
  | sum a b => unfold stp at h; split at h <;> first | (cases h; done) | (split at h <;> cases h)
  | let_ x a b => unfold stp at h; split at h <;> cases h
  | choose a b c => unfold stp at h; split at h <;> cases h
  | ask k a => unfold stp at h; split at h <;> cases h
  | hand k x a b => unfold stp at h; split at h <;> first | (cases h; done) | (split at h <;> cases h)
theorem isNum_not {p : Pc} (h : ∀ n, p ≠ .num n) : p.isNum = false := by
  cases p <;> first | rfl | exact absurd rfl (h _)
theorem not_num_ask {p : Pc} {k : Str} {n : Int} (h : stp fg p = .ask k n) : p.isNum = false := isNum_not fun m e => by rw [e] at h; cases h
inductive Steps (fg : Nat → Str) : Pc → Pc → Prop
  | refl (p : Pc) : Steps fg p p
  | step {p q r : Pc} : stp fg p = .go q → Steps fg q r → Steps fg p r
theorem Steps.trans {p q r : Pc} (h : Steps fg p q) (k : Steps fg q r) : Steps fg p r := by
  induction h with
  | refl => exact k
  | step h1 _ ih => exact .step h1 (ih k)
/-- a place that is next -/
structure Frame (fg : Nat → Str) (F : Pc → Pc) : Prop where
  go : ∀ {a b : Pc}, stp fg a = .go b → stp fg (F a) = .go (F b)
  ask : ∀ {a : Pc} {k : Str} {n : Int}, stp fg a = .ask k n → stp fg (F a) = .ask k n
  fill : ∀ {a : Pc} {k : Str} {n : Int} (q : Pc), stp fg a = .ask k n → Th.fill q (F a) = F (Th.fill q a)
theorem Frame.steps {F : Pc → Pc} (f : Frame fg F) {a b : Pc} (h : Steps fg a b) : Steps fg (F a) (F b) := by
  induction h with
  | refl => exact .refl _
  | step h1 _ ih => exact .step (f.go h1) ih
theorem frame_sum1 (b : Pc) : Frame fg (fun a => .sum a b) := ⟨fun h => by simp only [stp, h], fun h => by simp only [stp, h], fun q h => by simp only [Th.fill, not_num_ask h]; rfl⟩
theorem frame_sum2 (m : Int) : Frame fg (fun b => .sum (.num m) b) := ⟨fun h => by simp only [stp, h], fun h => by simp only [stp, h], fun q h => by simp only [Th.fill, Pc.isNum]; rfl⟩
theorem frame_let (x : Str) (b : Pc) : Frame fg (fun a => .let_ x a b) := ⟨fun h => by simp only [stp, h], fun h => by simp only [stp, h], fun q h => rfl⟩
theorem frame_choose (b c : Pc) : Frame fg (fun a => .choose a b c) := ⟨fun h => by simp only [stp, h], fun h => by simp only [stp, h], fun q h => rfl⟩
theorem frame_ask (k : Str) : Frame fg (fun a => .ask k a) := ⟨fun h => by simp only [stp, h], fun h => by simp only [stp, h], fun q h => by simp only [Th.fill, not_num_ask h]; rfl⟩
/-- a piece does what a tree tells -/
def Sim (fg : Nat → Str) : Tree → Pc → Prop
  | .ret n, p => Steps fg p (.num n)
  | .ask k n c, p => ∃ p', Steps fg p p' ∧ stp fg p' = .ask k n ∧ (k ≠ "fail" → ∀ v, Sim fg (c v) (fill (.num v) p'))
theorem Sim.back {t : Tree} {p q : Pc} (s : Steps fg p q) (h : Sim fg t q) : Sim fg t p := by
  cases t with
  | ret n => exact s.trans h
  | ask k n c => obtain ⟨p', h1, h2, h3⟩ := h; exact ⟨p', s.trans h1, h2, h3⟩
theorem Sim.frame {F : Pc → Pc} (f : Frame fg F) {g : Int → Tree} : ∀ {t : Tree} {a : Pc}, Sim fg t a → (∀ n, Sim fg (g n) (F (.num n))) → Sim fg (t.bind g) (F a)
  | .ret n, a, h, k => Sim.back (f.steps h) (k n)
  | .ask k' n c, a, h, k => by
    obtain ⟨p', h1, h2, h3⟩ := h
    refine ⟨F p', f.steps h1, f.ask h2, fun hf v => ?_⟩
    rw [f.fill _ h2]
    exact Sim.frame f (h3 hf v) k
theorem putIn_fresh {x : Str} {n : Int} : ∀ {p : Pc}, x ∉ namesIn p → putIn x n p = p
  | .num _, _ => rfl
  | .name y, h => by
    have : y ≠ x := fun e => h (by rw [e]; exact List.mem_singleton.mpr rfl)
    simp only [putIn, if_neg this]
  | .sum a b, h => by
    simp only [namesIn, List.mem_append, not_or] at h
    simp only [putIn, putIn_fresh h.1, putIn_fresh h.2]
  | .let_ y a b, h => by
    simp only [namesIn, List.mem_cons, List.mem_append, not_or] at h
    simp only [putIn, putIn_fresh h.2.1, putIn_fresh h.2.2, ite_self]
  | .choose a b c, h => by
    simp only [namesIn, List.mem_append, not_or] at h
    simp only [putIn, putIn_fresh h.1, putIn_fresh h.2.1, putIn_fresh h.2.2]
  | .ask k a, h => by
    simp only [namesIn] at h
    simp only [putIn, putIn_fresh h]
  | .hand k y a b, h => by
    simp only [namesIn, List.mem_cons, List.mem_append, not_or] at h
    simp only [putIn, putIn_fresh h.2.1, putIn_fresh h.2.2, ite_self]
theorem putIn_fill {r : Str} {v : Int} : ∀ {p : Pc}, r ∉ namesIn p → putIn r v (fill (.name r) p) = fill (.num v) p
  | .num _, _ => rfl
  | .name y, h => putIn_fresh h
  | .sum a b, h => by
    simp only [namesIn, List.mem_append, not_or] at h
    unfold fill
    by_cases ha : a.isNum = true
    · rw [if_pos ha, if_pos ha]; simp only [putIn, putIn_fresh h.1, putIn_fill h.2]
    · rw [if_neg ha, if_neg ha]; simp only [putIn, putIn_fresh h.2, putIn_fill h.1]
  | .let_ y a b, h => by
    simp only [namesIn, List.mem_cons, List.mem_append, not_or] at h
    simp only [fill, putIn, putIn_fill h.2.1, putIn_fresh h.2.2, ite_self]
  | .choose a b c, h => by
    simp only [namesIn, List.mem_append, not_or] at h
    simp only [fill, putIn, putIn_fill h.1, putIn_fresh h.2.1, putIn_fresh h.2.2]
  | .ask k a, h => by
    simp only [namesIn] at h
    unfold fill
    by_cases ha : a.isNum = true
    · rw [if_pos ha, if_pos ha]; simp only [putIn, if_true]
    · rw [if_neg ha, if_neg ha]; simp only [putIn, putIn_fill h]
  | .hand k y a b, h => by
    simp only [namesIn, List.mem_cons, List.mem_append, not_or] at h
    simp only [fill, putIn, putIn_fill h.2.2, putIn_fresh h.2.1, ite_self]
theorem frame_hand (k x : Str) (a : Pc) {p q : Pc} (h : Steps fg p q) : Steps fg (.hand k x a p) (.hand k x a q) := by
  induction h with
  | refl => exact .refl _
  | step h1 _ ih => exact .step (by simp only [stp, h1]) ih
theorem sim_hand (inj : ∀ i j, fg i = fg j → i = j) {k x : Str} {a : Pc} {A : Int → Tree} (hA : ∀ n, Sim fg (A n) (putIn x n a)) : ∀ {t : Tree} {b : Pc}, Sim fg t b → Sim fg (t.handle k A) (.hand k x a b)
  | .ret n, b, h => (frame_hand k x a h).trans (.step (by simp only [stp]) (.refl _))
  | .ask k' n c, b, h => by
    obtain ⟨p', h1, h2, h3⟩ := h
    unfold Tree.handle
    by_cases hk : k' = k
    · subst hk
      rw [if_pos rfl]
      by_cases hf : k' = "fail"
      · rw [if_pos hf]
        refine Sim.back ((frame_hand k' x a h1).trans (.step ?_ (.refl _))) (hA n)
        simp only [stp, h2, if_true, if_pos hf]
      · rw [if_neg hf]
        refine Sim.back ((frame_hand k' x a h1).trans (.step (q := .let_ (fr fg (.hand k' x a p')) (putIn x n a) (.hand k' x a (fill (.name (fr fg (.hand k' x a p'))) p'))) ?_ (.refl _))) (Sim.frame (frame_let _ _) (hA n) fun v => ?_)
        · simp only [stp, h2, if_true, if_neg hf]
        · refine Sim.back (.step (q := .hand k' x a (fill (.num v) p')) ?_ (.refl _)) (sim_hand inj hA (h3 hf v))
          have fresh := fr_is inj (.hand k' x a p')
          have e := putIn_fill (v := v) fresh
          simp only [fill] at e
          simp only [stp]
          rw [e]
    · rw [if_neg hk]
      refine ⟨.hand k x a p', frame_hand k x a h1, by simp only [stp, h2, if_neg hk], fun hf v => ?_⟩
      exact sim_hand inj hA (h3 hf v)
/-- names put in, all at once -/
def less (ρ : Str → Option Int) (x : Str) : Str → Option Int := fun y => if y = x then none else ρ y
def plus (ρ : Str → Option Int) (x : Str) (n : Int) : Str → Option Int := fun y => if y = x then some n else ρ y
def sub (ρ : Str → Option Int) : Pc → Pc
  | .num m => .num m
  | .name y => match ρ y with
    | some n => .num n
    | none => .name y
  | .sum a b => .sum (sub ρ a) (sub ρ b)
  | .let_ y a b => .let_ y (sub ρ a) (sub (less ρ y) b)
  | .choose a b c => .choose (sub ρ a) (sub ρ b) (sub ρ c)
  | .ask k a => .ask k (sub ρ a)
  | .hand k y a b => .hand k y (sub (less ρ y) a) (sub ρ b)
theorem less_less (ρ : Str → Option Int) (x : Str) (n : Int) : less (less ρ x) x = less (plus ρ x n) x := by
  funext y; unfold less plus; split <;> rfl
theorem less_comm (ρ : Str → Option Int) (x y : Str) : less (less ρ x) y = less (less ρ y) x := by
  funext z; unfold less; split <;> split <;> rfl
theorem less_plus (ρ : Str → Option Int) {x y : Str} (n : Int) (h : y ≠ x) : less (plus ρ x n) y = plus (less ρ y) x n := by
  funext z
  show (if z = y then none else (if z = x then some n else ρ z)) = (if z = x then some n else (if z = y then none else ρ z))
  by_cases h1 : z = y
  · rw [if_pos h1, if_neg (fun e => h (h1.symm.trans e)), if_pos h1]
  · rw [if_neg h1, if_neg h1]
theorem put_sub (x : Str) (n : Int) : ∀ (p : Pc) (ρ : Str → Option Int), putIn x n (sub (less ρ x) p) = sub (plus ρ x n) p
  | .num _, _ => rfl
  | .name y, ρ => by
    by_cases h : y = x
    · have e1 : less ρ x y = none := by unfold less; rw [if_pos h]
      have e2 : plus ρ x n y = some n := by unfold plus; rw [if_pos h]
      simp only [sub, e1, e2, putIn, if_pos h]
    · have e1 : less ρ x y = ρ y := by unfold less; rw [if_neg h]
      have e2 : plus ρ x n y = ρ y := by unfold plus; rw [if_neg h]
      simp only [sub, e1, e2]
      cases ρ y with
      | none => simp only [putIn, if_neg h]
      | some m => rfl
  | .sum a b, ρ => by simp only [sub, putIn, put_sub x n a, put_sub x n b]
  | .let_ y a b, ρ => by
    by_cases h : y = x
    · subst h; simp only [sub, putIn, put_sub y n a, if_true, less_less ρ y n]
    · simp only [sub, putIn, put_sub x n a, if_neg h, less_comm ρ x y, put_sub x n b, less_plus ρ n h]
  | .choose a b c, ρ => by simp only [sub, putIn, put_sub x n a, put_sub x n b, put_sub x n c]
  | .ask k a, ρ => by simp only [sub, putIn, put_sub x n a]
  | .hand k y a b, ρ => by
    by_cases h : y = x
    · subst h; simp only [sub, putIn, put_sub y n b, if_true, less_less ρ y n]
    · simp only [sub, putIn, put_sub x n b, if_neg h, less_comm ρ x y, put_sub x n a, less_plus ρ n h]
theorem sub_none : ∀ (p : Pc), sub (fun _ => none) p = p
  | .num _ => rfl
  | .name y => rfl
  | .sum a b => by simp only [sub, sub_none a, sub_none b]
  | .let_ y a b => by
    have : less (fun _ => none) y = fun _ => none := by funext z; unfold less; split <;> rfl
    simp only [sub, sub_none a, this, sub_none b]
  | .choose a b c => by simp only [sub, sub_none a, sub_none b, sub_none c]
  | .ask k a => by simp only [sub, sub_none a]
  | .hand k y a b => by
    have : less (fun _ => none) y = fun _ => none := by funext z; unfold less; split <;> rfl
    simp only [sub, sub_none b, this, sub_none a]
/-- each name is told -/
def Told : Pc → (Str → Prop) → Prop
  | .num _, _ => True
  | .name x, T => T x
  | .sum a b, T => Told a T ∧ Told b T
  | .let_ x a b, T => Told a T ∧ Told b (fun y => y = x ∨ T y)
  | .choose a b c, T => Told a T ∧ Told b T ∧ Told c T
  | .ask _ a, T => Told a T
  | .hand _ x a b, T => Told a (fun y => y = x ∨ T y) ∧ Told b T
theorem Told.imp : ∀ {p : Pc} {T U : Str → Prop}, (∀ x, T x → U x) → Told p T → Told p U
  | .num _, _, _, _, _ => True.intro
  | .name x, _, _, h, t => h x t
  | .sum a b, _, _, h, t => ⟨Told.imp h t.1, Told.imp h t.2⟩
  | .let_ x a b, _, _, h, t => ⟨Told.imp h t.1, Told.imp (fun y z => z.imp id (h y)) t.2⟩
  | .choose a b c, _, _, h, t => ⟨Told.imp h t.1, Told.imp h t.2.1, Told.imp h t.2.2⟩
  | .ask _ a, _, _, h, t => Told.imp (p := a) h t
  | .hand _ x a b, _, _, h, t => ⟨Told.imp (fun y z => z.imp id (h y)) t.1, Told.imp h t.2⟩
theorem fund (inj : ∀ i j, fg i = fg j → i = j) : ∀ (p : Pc) (ρ : Str → Option Int) (e : Str → Int), Told p (fun x => ρ x = some (e x)) → Sim fg (den e p) (sub ρ p)
  | .num n, _, _, _ => Steps.refl _
  | .name x, ρ, e, h => by
    have h' : ρ x = some (e x) := h
    simp only [sub, h']
    exact Steps.refl _
  | .sum a b, ρ, e, h => Sim.frame (frame_sum1 _) (fund inj a ρ e h.1) fun m => Sim.frame (frame_sum2 m) (fund inj b ρ e h.2) fun n => .step (by simp only [stp]) (.refl _)
  | .let_ x a b, ρ, e, h => Sim.frame (frame_let _ _) (fund inj a ρ e h.1) fun n => by
    refine Sim.back (.step (q := sub (plus ρ x n) b) ?_ (.refl _)) (fund inj b _ _ (h.2.imp fun y z => ?_))
    · simp only [stp, put_sub]
    · unfold plus up
      by_cases hy : y = x
      · rw [if_pos hy, if_pos hy]
      · rw [if_neg hy, if_neg hy]; exact z.resolve_left hy
  | .choose a b c, ρ, e, h => Sim.frame (frame_choose _ _) (fund inj a ρ e h.1) fun n => by
    refine Sim.back (.step (q := if n = 0 then sub ρ c else sub ρ b) (by simp only [stp]) (.refl _)) ?_
    by_cases hn : n = 0
    · rw [if_pos hn, if_pos hn]; exact fund inj c ρ e h.2.2
    · rw [if_neg hn, if_neg hn]; exact fund inj b ρ e h.2.1
  | .ask k a, ρ, e, h => Sim.frame (frame_ask k) (fund inj a ρ e h) fun n => ⟨.ask k (.num n), .refl _, by simp only [stp], fun _ v => by simp only [Th.fill, Pc.isNum, if_true]; exact Steps.refl _⟩
  | .hand k x a b, ρ, e, h => sim_hand inj (fun n => by
    rw [put_sub]
    refine fund inj a _ _ (h.1.imp fun y z => ?_)
    unfold plus up
    by_cases hy : y = x
    · rw [if_pos hy, if_pos hy]
    · rw [if_neg hy, if_neg hy]; exact z.resolve_left hy) (fund inj b ρ e h.2)
/-- a piece in which all is told does what it comes to -/
theorem sim_ok (inj : ∀ i j, fg i = fg j → i = j) (p : Pc) (h : Told p fun _ => False) (e : Str → Int) : Sim fg (den e p) p := by
  have := fund inj p (fun _ => none) e (h.imp fun _ z => z.elim)
  rw [sub_none] at this
  exact this
end
end Th
namespace Th
open PySem
abbrev Rows := List Int × List Int
def take (k : Str) (W : Rows) : Int × Rows :=
  if k = "line" then (match W.1 with
    | [] => (0, W)
    | v :: r => (v, (r, W.2)))
  else match W.2 with
    | [] => (0, W)
    | v :: r => (v, (W.1, r))
structure Out where
  word : Str
  number : Int
  asks : List (Str × Int)
def runT : Tree → Rows → List (Str × Int) → Out
  | .ret n, _, as => ⟨"value", n, as⟩
  | .ask k n c, W, as => if k = "fail" then ⟨"fail", n, as ++ [(k, n)]⟩ else runT (c (take k W).1) (take k W).2 (as ++ [(k, n)])
/-- a run by steps -/
inductive Runs (fg : Nat → Str) : Pc → Rows → List (Str × Int) → Out → Prop
  | num (n : Int) (W : Rows) (as : List (Str × Int)) : Runs fg (.num n) W as ⟨"value", n, as⟩
  | go {p q : Pc} {W : Rows} {as : List (Str × Int)} {o : Out} : stp fg p = .go q → Runs fg q W as o → Runs fg p W as o
  | fail {p : Pc} {n : Int} (W : Rows) (as : List (Str × Int)) : stp fg p = .ask "fail" n → Runs fg p W as ⟨"fail", n, as ++ [(("fail" : Str), n)]⟩
  | ask {p : Pc} {k : Str} {n : Int} {W : Rows} {as : List (Str × Int)} {o : Out} : stp fg p = .ask k n → k ≠ "fail" → Runs fg (fill (.num (take k W).1) p) (take k W).2 (as ++ [(k, n)]) o → Runs fg p W as o
section
variable {fg : Nat → Str}
theorem Runs.back {p q : Pc} {W : Rows} {as : List (Str × Int)} {o : Out} (s : Steps fg p q) (h : Runs fg q W as o) : Runs fg p W as o := by
  induction s with
  | refl => exact h
  | step h1 _ ih => exact .go h1 (ih h)
theorem runs_sim : ∀ {t : Tree} {p : Pc} {W : Rows} {as : List (Str × Int)}, Sim fg t p → Runs fg p W as (runT t W as)
  | .ret n, p, W, as, h => Runs.back h (.num n W as)
  | .ask k n c, p, W, as, h => by
    obtain ⟨p', h1, h2, h3⟩ := h
    refine Runs.back h1 ?_
    unfold runT
    by_cases hf : k = "fail"
    · subst hf; rw [if_pos rfl]; exact .fail W as h2
    · rw [if_neg hf]; exact .ask h2 hf (runs_sim (h3 hf _))
theorem runs_ok (inj : ∀ i j, fg i = fg j → i = j) (p : Pc) (h : Told p fun _ => False) (e : Str → Int) (W : Rows) (as : List (Str × Int)) : Runs fg p W as (runT (den e p) W as) := runs_sim (sim_ok inj p h e)
end
/-! marks -/
def Mk : Pc → Str → Bool
  | .num _, _ => false
  | .name _, _ => false
  | .sum a b, k => Mk a k || Mk b k
  | .let_ _ a b, k => Mk a k || Mk b k
  | .choose a b c, k => Mk a k || (Mk b k || Mk c k)
  | .ask k' a, k => decide (k' = k) || Mk a k
  | .hand k' _ a b, k => (Mk b k && !decide (k' = k)) || (Mk b k' && Mk a k)
def Occ (k : Str) : Tree → Prop
  | .ret _ => False
  | .ask k' _ c => k' = k ∨ ∃ v, Occ k (c v)
theorem occ_bind {k : Str} {f : Int → Tree} : ∀ {t : Tree}, Occ k (t.bind f) → Occ k t ∨ ∃ n, Occ k (f n)
  | .ret n, h => .inr ⟨n, h⟩
  | .ask k' n c, h => by
    rcases h with h | ⟨v, h⟩
    · exact .inl (.inl h)
    · rcases occ_bind h with h | h
      · exact .inl (.inr ⟨v, h⟩)
      · exact .inr h
theorem occ_handle {k k' : Str} {A : Int → Tree} : ∀ {t : Tree}, Occ k (t.handle k' A) → (Occ k t ∧ k' ≠ k) ∨ (Occ k' t ∧ ∃ n, Occ k (A n))
  | .ret n, h => h.elim
  | .ask k2 n c, h => by
    unfold Tree.handle at h
    by_cases hk : k2 = k'
    · rw [if_pos hk] at h
      by_cases hf : k' = "fail"
      · rw [if_pos hf] at h; exact .inr ⟨.inl hk, n, h⟩
      · rw [if_neg hf] at h
        rcases occ_bind h with h | ⟨v, h⟩
        · exact .inr ⟨.inl hk, n, h⟩
        · rcases occ_handle h with ⟨h1, h2⟩ | ⟨h1, h2⟩
          · exact .inl ⟨.inr ⟨v, h1⟩, h2⟩
          · exact .inr ⟨.inl hk, h2⟩
    · rw [if_neg hk] at h
      rcases h with h | ⟨v, h⟩
      · exact .inl ⟨.inl h, fun e => hk (h.trans e.symm)⟩
      · rcases occ_handle h with ⟨h1, h2⟩ | ⟨h1, h2⟩
        · exact .inl ⟨.inr ⟨v, h1⟩, h2⟩
        · exact .inr ⟨.inr ⟨v, h1⟩, h2⟩
theorem den_marks {k : Str} : ∀ {p : Pc} {e : Str → Int}, Occ k (den e p) → Mk p k = true
  | .num n, e, h => h.elim
  | .name x, e, h => h.elim
  | .sum a b, e, h => by
    unfold Mk
    rcases occ_bind h with h | ⟨m, h⟩
    · rw [den_marks h]; rfl
    · rcases occ_bind h with h | ⟨_, h⟩
      · rw [den_marks h, Bool.or_true]
      · exact h.elim
  | .let_ x a b, e, h => by
    unfold Mk
    rcases occ_bind h with h | ⟨m, h⟩
    · rw [den_marks h]; rfl
    · rw [den_marks h, Bool.or_true]
  | .choose a b c, e, h => by
    unfold Mk
    rcases occ_bind h with h | ⟨m, h⟩
    · rw [den_marks h]; rfl
    · split at h
      · rw [den_marks h, Bool.or_true, Bool.or_true]
      · rw [den_marks h, Bool.true_or, Bool.or_true]
  | .ask k' a, e, h => by
    unfold Mk
    rcases occ_bind h with h | ⟨m, h⟩
    · rw [den_marks h, Bool.or_true]
    · rcases h with h | ⟨_, h⟩
      · rw [decide_eq_true h]; rfl
      · exact h.elim
  | .hand k' x a b, e, h => by
    unfold Mk
    rcases occ_handle h with ⟨h1, h2⟩ | ⟨h1, n, h2⟩
    · rw [den_marks h1, decide_eq_false h2]; rfl
    · rw [den_marks h1, den_marks h2, Bool.and_true, Bool.or_true]
/-- the asks that came to the world -/
theorem run_asks : ∀ {t : Tree} {W : Rows} {as : List (Str × Int)} (x : Str × Int), x ∈ (runT t W as).asks → x ∈ as ∨ Occ x.1 t
  | .ret n, W, as, x, h => .inl h
  | .ask k n c, W, as, x, h => by
    unfold runT at h
    by_cases hf : k = "fail"
    · rw [if_pos hf] at h
      rcases List.mem_append.mp h with h | h
      · exact .inl h
      · rw [List.mem_singleton.mp h]; exact .inr (.inl rfl)
    · rw [if_neg hf] at h
      rcases run_asks x h with h | h
      · rcases List.mem_append.mp h with h | h
        · exact .inl h
        · rw [List.mem_singleton.mp h]; exact .inr (.inl rfl)
      · exact .inr (.inr ⟨_, h⟩)
theorem run_pre : ∀ {t : Tree} {W : Rows} {as : List (Str × Int)} (x : Str × Int), x ∈ as → x ∈ (runT t W as).asks
  | .ret n, W, as, x, h => h
  | .ask k n c, W, as, x, h => by
    unfold runT
    by_cases hf : k = "fail"
    · rw [if_pos hf]; exact List.mem_append_left _ h
    · rw [if_neg hf]; exact run_pre x (List.mem_append_left _ h)
theorem run_word : ∀ {t : Tree} {W : Rows} {as : List (Str × Int)}, ((runT t W as).word = "value") ∨ ((runT t W as).word = "fail" ∧ Occ "fail" t)
  | .ret n, W, as => .inl rfl
  | .ask k n c, W, as => by
    unfold runT
    by_cases hf : k = "fail"
    · rw [if_pos hf]; exact .inr ⟨rfl, .inl hf⟩
    · rw [if_neg hf]
      rcases run_word (t := c (take k W).1) (W := (take k W).2) (as := as ++ [(k, n)]) with h | ⟨h, h2⟩
      · exact .inl h
      · exact .inr ⟨h, .inr ⟨_, h2⟩⟩
/-- rows of other kinds change nothing -/
theorem run_other : ∀ {t : Tree} {W W' : Rows} {as : List (Str × Int)}, (Occ "line" t → W.1 = W'.1) → ((∃ k : Str, k ≠ "line" ∧ k ≠ "fail" ∧ Occ k t) → W.2 = W'.2) → runT t W as = runT t W' as
  | .ret n, W, W', as, _, _ => rfl
  | .ask k n c, W, W', as, h1, h2 => by
    unfold runT
    by_cases hf : k = "fail"
    · rw [if_pos hf, if_pos hf]
    · rw [if_neg hf, if_neg hf]
      have e : (take k W).1 = (take k W').1 ∧ (Occ "line" (c (take k W).1) → (take k W).2.1 = (take k W').2.1) ∧ ((∃ k' : Str, k' ≠ "line" ∧ k' ≠ "fail" ∧ Occ k' (c (take k W).1)) → (take k W).2.2 = (take k W').2.2) := by
        unfold take
        by_cases hl : k = "line"
        · have w1 := h1 (.inl hl)
          simp only [if_pos hl, w1]
          cases hw : W'.1 with
          | nil => exact ⟨rfl, fun _ => (by simpa [hw] using w1), fun ⟨k', a, b, z⟩ => h2 ⟨k', a, b, .inr ⟨_, z⟩⟩⟩
          | cons v r => exact ⟨rfl, fun _ => rfl, fun ⟨k', a, b, z⟩ => h2 ⟨k', a, b, .inr ⟨_, z⟩⟩⟩
        · have w2 := h2 ⟨k, hl, hf, .inl rfl⟩
          simp only [if_neg hl, w2]
          cases hw : W'.2 with
          | nil => exact ⟨rfl, fun z => h1 (.inr ⟨_, z⟩), fun _ => (by simpa [hw] using w2)⟩
          | cons v r => exact ⟨rfl, fun z => h1 (.inr ⟨_, z⟩), fun _ => rfl⟩
      obtain ⟨e1, e2, e3⟩ := e
      rw [← e1]
      exact run_other e2 e3
/-! a hand that hands on; a hand that shuts -/
theorem run_on (k : Str) : ∀ {t : Tree} {W : Rows} {as : List (Str × Int)}, runT (t.handle k fun n => .ask k n .ret) W as = runT t W as
  | .ret n, W, as => rfl
  | .ask k' n c, W, as => by
    unfold Tree.handle
    by_cases hk : k' = k
    · subst hk
      rw [if_pos rfl]
      by_cases hf : k' = "fail"
      · rw [if_pos hf]; simp only [runT, if_pos hf]
      · rw [if_neg hf]
        simp only [Tree.bind, runT, if_neg hf]
        exact run_on k'
    · rw [if_neg hk]
      simp only [runT]
      by_cases hf : k' = "fail"
      · rw [if_pos hf, if_pos hf]
      · rw [if_neg hf, if_neg hf]; exact run_on k
theorem occ_shut (k : Str) (m : Int) {t : Tree} : ¬ Occ k (t.handle k fun _ => .ret m) := fun h => by
  rcases occ_handle h with ⟨_, h2⟩ | ⟨_, _, h2⟩
  · exact h2 rfl
  · exact h2
theorem run_shut (k : Str) (m : Int) : ∀ {t : Tree} {W : Rows} {as : List (Str × Int)}, (∀ x ∈ (runT t W as).asks, x.1 ≠ k) → runT (t.handle k fun _ => .ret m) W as = runT t W as
  | .ret n, W, as, _ => rfl
  | .ask k' n c, W, as, h => by
    unfold runT at h
    unfold Tree.handle
    by_cases hf : k' = "fail"
    · rw [if_pos hf] at h
      have hk : k' ≠ k := h (k', n) (List.mem_append_right _ (List.mem_singleton.mpr rfl))
      rw [if_neg hk]
      simp only [runT, if_pos hf]
    · rw [if_neg hf] at h
      have hk : k' ≠ k := h (k', n) (run_pre _ (List.mem_append_right _ (List.mem_singleton.mpr rfl)))
      rw [if_neg hk]
      simp only [runT, if_neg hf]
      exact run_shut k m h
theorem mk_on (k x : Str) (b : Pc) (k' : Str) : Mk (.hand k x (.ask k (.name x)) b) k' = Mk b k' := by
  simp only [Mk, Bool.or_false]
  by_cases h : k = k'
  · subst h; simp
  · simp [h]
theorem mk_shut (k x : Str) (m : Int) (b : Pc) : Mk (.hand k x (.num m) b) k = false := by simp [Mk]
theorem den_on (e : Str → Int) (k x : Str) (b : Pc) : den e (.hand k x (.ask k (.name x)) b) = (den e b).handle k fun n => .ask k n .ret := by
  simp [den, Tree.bind, up]
theorem den_shut (e : Str → Int) (k x : Str) (m : Int) (b : Pc) : den e (.hand k x (.num m) b) = (den e b).handle k fun _ => .ret m := rfl
/-! marks never grow -/
section
variable {fg : Nat → Str} {k : Str}
theorem mk_put (x : Str) (n : Int) : ∀ (p : Pc) (k : Str), Mk (putIn x n p) k = Mk p k
  | .num _, _ => rfl
  | .name y, _ => by unfold putIn; split <;> rfl
  | .sum a b, k => by simp only [putIn, Mk, mk_put x n a, mk_put x n b]
  | .let_ y a b, k => by simp only [putIn, Mk, mk_put x n a]; split <;> simp only [mk_put x n b]
  | .choose a b c, k => by simp only [putIn, Mk, mk_put x n a, mk_put x n b, mk_put x n c]
  | .ask k' a, k => by simp only [putIn, Mk, mk_put x n a]
  | .hand k' y a b, k => by simp only [putIn, Mk, mk_put x n b]; split <;> simp only [mk_put x n a]
/-- a piece that has no marks, in the place of the ask -/
theorem mk_fill (q : Pc) : ∀ (p : Pc) (k : Str), (∀ k', Mk q k' = false) → Mk (fill q p) k = true → Mk p k = true
  | .num _, k, hq, h => h
  | .name y, k, hq, h => h
  | .sum a b, k, hq, h => by
    unfold fill at h
    by_cases ha : a.isNum = true
    · rw [if_pos ha] at h
      simp only [Mk, Bool.or_eq_true] at h ⊢
      exact h.imp id (mk_fill q b k hq)
    · rw [if_neg ha] at h
      simp only [Mk, Bool.or_eq_true] at h ⊢
      exact h.imp (mk_fill q a k hq) id
  | .let_ y a b, k, hq, h => by
    simp only [fill, Mk, Bool.or_eq_true] at h ⊢
    exact h.imp (mk_fill q a k hq) id
  | .choose a b c, k, hq, h => by
    simp only [fill, Mk, Bool.or_eq_true] at h ⊢
    exact h.imp (mk_fill q a k hq) id
  | .ask k' a, k, hq, h => by
    unfold fill at h
    by_cases ha : a.isNum = true
    · rw [if_pos ha, hq] at h; cases h
    · rw [if_neg ha] at h
      simp only [Mk, Bool.or_eq_true] at h ⊢
      exact h.imp id (mk_fill q a k hq)
  | .hand k' y a b, k, hq, h => by
    simp only [fill, Mk, Bool.or_eq_true, Bool.and_eq_true] at h ⊢
    rcases h with ⟨h1, h2⟩ | ⟨h1, h2⟩
    · exact .inl ⟨mk_fill q b k hq h1, h2⟩
    · exact .inr ⟨mk_fill q b k' hq h1, h2⟩
theorem mk_ask : ∀ {p : Pc} {k : Str} {n : Int}, stp fg p = .ask k n → Mk p k = true
  | .num _, k, n, h => by cases h
  | .name y, k, n, h => by cases h
  | .sum a b, k, n, h => by
    unfold stp at h
    split at h
    · split at h <;> first | (cases h; done) | skip
      next h2 => cases h; simp only [Mk, mk_ask h2, Bool.or_true]
    · cases h
    · next h1 => cases h; simp only [Mk, mk_ask h1, Bool.true_or]
    · cases h
  | .let_ y a b, k, n, h => by
    unfold stp at h
    split at h <;> first | (cases h; done) | skip
    next h1 => cases h; simp only [Mk, mk_ask h1, Bool.true_or]
  | .choose a b c, k, n, h => by
    unfold stp at h
    split at h <;> first | (cases h; done) | skip
    next h1 => cases h; simp only [Mk, mk_ask h1, Bool.true_or]
  | .ask k' a, k, n, h => by
    unfold stp at h
    split at h
    · cases h; simp [Mk]
    · cases h
    · next h1 => cases h; simp only [Mk, mk_ask h1, Bool.or_true]
    · cases h
  | .hand k' y a b, k, n, h => by
    unfold stp at h
    split at h <;> first | (cases h; done) | skip
    next h1 =>
      split at h
      · cases h
      · next hk =>
        cases h
        simp only [Mk, mk_ask h1]
        simp [Ne.symm hk]
theorem mk_step : ∀ {p q : Pc} {k : Str}, stp fg p = .go q → Mk q k = true → Mk p k = true
  | .num _, q, k, h, _ => by cases h
  | .name y, q, k, h, _ => by cases h
  | .sum a b, q, k, h, hq => by
    unfold stp at h
    split at h
    · split at h
      · cases h; cases hq
      · next h2 => cases h; simp only [Mk, Bool.or_eq_true] at hq ⊢; exact hq.imp id (mk_step h2)
      · cases h
      · cases h
    · next h1 => cases h; simp only [Mk, Bool.or_eq_true] at hq ⊢; exact hq.imp (mk_step h1) id
    · cases h
    · cases h
  | .let_ y a b, q, k, h, hq => by
    unfold stp at h
    split at h
    · cases h; rw [mk_put] at hq; simp only [Mk, hq, Bool.or_true]
    · next h1 => cases h; simp only [Mk, Bool.or_eq_true] at hq ⊢; exact hq.imp (mk_step h1) id
    · cases h
    · cases h
  | .choose a b c, q, k, h, hq => by
    unfold stp at h
    split at h
    · cases h
      simp only [Mk, Bool.or_eq_true]
      split at hq
      · exact .inr (.inr hq)
      · exact .inr (.inl hq)
    · next h1 => cases h; simp only [Mk, Bool.or_eq_true] at hq ⊢; exact hq.imp (mk_step h1) id
    · cases h
    · cases h
  | .ask k' a, q, k, h, hq => by
    unfold stp at h
    split at h
    · cases h
    · next h1 => cases h; simp only [Mk, Bool.or_eq_true] at hq ⊢; exact hq.imp id (mk_step h1)
    · cases h
    · cases h
  | .hand k' y a b, q, k, h, hq => by
    unfold stp at h
    split at h
    · cases h; cases hq
    · next h1 =>
      cases h
      simp only [Mk, Bool.or_eq_true, Bool.and_eq_true] at hq ⊢
      rcases hq with ⟨g1, g2⟩ | ⟨g1, g2⟩
      · exact .inl ⟨mk_step h1 g1, g2⟩
      · exact .inr ⟨mk_step h1 g1, g2⟩
    · next k2 n h1 =>
      split at h
      · next hk =>
        subst hk
        cases h
        split at hq
        · rw [mk_put] at hq
          simp only [Mk, mk_ask h1, hq, Bool.and_true, Bool.or_true]
        · simp only [Mk, Bool.or_eq_true, Bool.and_eq_true, mk_put] at hq ⊢
          rcases hq with g | ⟨g1, g2⟩ | ⟨g1, g2⟩
          · exact .inr ⟨mk_ask h1, g⟩
          · exact .inl ⟨mk_fill _ b k (fun _ => rfl) g1, g2⟩
          · exact .inr ⟨mk_ask h1, g2⟩
      · cases h
    · cases h
end
end Th
namespace Th
open PySem
/-! a going through the piece, which keeps a row of the hands that stand round (the nearest first) -/
inductive Rs where
  | num (n : Int) | fail (at_ n : Int)
structure Wd where
  rows : Rows
  asked : List (Str × Int)
def exec (ans : Str → Int → Wd → Rs × Wd) : Tree → Wd → Rs × Wd
  | .ret n, w => (.num n, w)
  | .ask k n c, w => match ans k n w with
    | (.num v, w') => exec ans (c v) w'
    | (.fail i m, w') => (.fail i m, w')
def ansH : List (Str × (Int → Tree)) → Str → Int → Wd → Rs × Wd
  | [], k, n, w => if k = "fail" then (.fail (-1) n, ⟨w.rows, w.asked ++ [(k, n)]⟩) else (.num (take k w.rows).1, ⟨(take k w.rows).2, w.asked ++ [(k, n)]⟩)
  | h :: hs, k, n, w => if h.1 = k then (if k = "fail" then (.fail (hs.length : Int) n, w) else exec (ansH hs) (h.2 n) w) else ansH hs k n w
def then_ (r : Rs × Wd) (f : Int → Wd → Rs × Wd) : Rs × Wd := match r with
  | (.num v, w) => f v w
  | (.fail i m, w) => (.fail i m, w)
theorem exec_bind (ans : Str → Int → Wd → Rs × Wd) (f : Int → Tree) : ∀ (t : Tree) (w : Wd), exec ans (t.bind f) w = then_ (exec ans t w) fun v w' => exec ans (f v) w'
  | .ret n, w => rfl
  | .ask k n c, w => by
    simp only [Tree.bind, exec]
    cases h : ans k n w with
    | mk r w' => cases r with
      | num v => simp only [exec_bind ans f (c v) w']
      | fail i m => rfl
/-- the failing's place is that of a hand further out -/
theorem exec_lt {ans : Str → Int → Wd → Rs × Wd} {b : Int} (ha : ∀ k n w i m w', ans k n w = (.fail i m, w') → i < b) : ∀ (t : Tree) (w : Wd) {i m : Int} {w' : Wd}, exec ans t w = (.fail i m, w') → i < b
  | .ret n, w, i, m, w', h => by cases h
  | .ask k n c, w, i, m, w', h => by
    unfold exec at h
    cases ha2 : ans k n w with
    | mk r w2 => cases r with
      | num v => rw [ha2] at h; exact exec_lt ha (c v) w2 h
      | fail i2 m2 => rw [ha2] at h; cases h; exact ha _ _ _ _ _ _ ha2
theorem ansH_lt : ∀ (hs : List (Str × (Int → Tree))) (k : Str) (n : Int) (w : Wd) (i m : Int) (w' : Wd), ansH hs k n w = (.fail i m, w') → i < (hs.length : Int)
  | [], k, n, w, i, m, w', h => by
    unfold ansH at h
    split at h
    · cases h; decide
    · cases h
  | hd :: hs, k, n, w, i, m, w', h => by
    have e : ((hd :: hs).length : Int) = (hs.length : Int) + 1 := by simp
    unfold ansH at h
    split at h
    · split at h
      · cases h; omega
      · have := exec_lt (ansH_lt hs) _ _ h; omega
    · have := ansH_lt hs _ _ _ _ _ _ h; omega
/-- a hand's own fail -/
def catch_ (l : Int) (r : Rs × Wd) (f : Int → Wd → Rs × Wd) : Rs × Wd := match r with
  | (.num v, w) => (.num v, w)
  | (.fail i m, w) => if i = l then f m w else (.fail i m, w)
theorem catch_lt {l : Int} {r : Rs × Wd} {f : Int → Wd → Rs × Wd} (h : ∀ i m w, r = (.fail i m, w) → i < l) : catch_ l r f = r := by
  obtain ⟨r, w⟩ := r
  cases r with
  | num v => rfl
  | fail i m =>
    have := h i m w rfl
    simp only [catch_]
    rw [if_neg (by omega)]
theorem exec_handle (hs : List (Str × (Int → Tree))) (k : Str) (A : Int → Tree) : ∀ (t : Tree) (w : Wd), exec (ansH hs) (t.handle k A) w = catch_ hs.length (exec (ansH ((k, A) :: hs)) t w) fun m w' => exec (ansH hs) (A m) w'
  | .ret n, w => rfl
  | .ask k' n c, w => by
    unfold Tree.handle
    by_cases hk : k' = k
    · subst hk
      rw [if_pos rfl]
      by_cases hf : k' = "fail"
      · rw [if_pos hf]
        simp only [exec, ansH, if_true, if_pos hf, catch_]
      · rw [if_neg hf, exec_bind]
        have e1 : ansH ((k', A) :: hs) k' n w = exec (ansH hs) (A n) w := by unfold ansH; simp only [if_true, if_neg hf]
        simp only [exec]
        rw [e1]
        cases h : exec (ansH hs) (A n) w with
        | mk r w' => cases r with
          | num v => simp only [then_, exec_handle hs k' A (c v) w']
          | fail i m =>
            have := exec_lt (ansH_lt hs) _ _ h
            simp only [then_, catch_]
            rw [if_neg (by omega)]
    · rw [if_neg hk]
      have hk2 : ¬ k = k' := fun e => hk e.symm
      have e1 : ansH ((k, A) :: hs) k' n w = ansH hs k' n w := by rw [ansH]; simp only [if_neg hk2]
      simp only [exec]
      rw [e1]
      cases h : ansH hs k' n w with
      | mk r w' => cases r with
        | num v => simp only [exec_handle hs k A (c v) w']
        | fail i m =>
          have := ansH_lt hs _ _ _ _ _ _ h
          simp only [catch_]
          rw [if_neg (by omega)]
/-- what the world's run tells -/
def outOf (r : Rs × Wd) : Out := match r with
  | (.num n, w) => ⟨"value", n, w.asked⟩
  | (.fail _ n, w) => ⟨"fail", n, w.asked⟩
theorem exec_run : ∀ (t : Tree) (w : Wd), outOf (exec (ansH []) t w) = runT t w.rows w.asked
  | .ret n, w => rfl
  | .ask k n c, w => by
    unfold runT
    by_cases hf : k = "fail"
    · rw [if_pos hf]; simp only [exec, ansH, if_pos hf, outOf]
    · rw [if_neg hf]
      simp only [exec, ansH, if_neg hf]
      exact exec_run (c (take k w.rows).1) ⟨(take k w.rows).2, w.asked ++ [(k, n)]⟩
/-! the going itself, with as much of it as is needed -/
structure Hd where
  k : Str
  x : Str
  a : Pc
  e : Str → Int
def Hd.den (h : Hd) : Str × (Int → Tree) := (h.k, fun n => Th.den (up h.e h.x n) h.a)
def size : Pc → Nat
  | .num _ => 1
  | .name _ => 1
  | .sum a b => 1 + (size a + size b)
  | .let_ _ a b => 1 + (size a + size b)
  | .choose a b c => 1 + (size a + (size b + size c))
  | .ask _ a => 1 + size a
  | .hand _ _ a b => 1 + (size a + size b)
def sizes : List Hd → Nat
  | [] => 0
  | h :: hs => size h.a + sizes hs
/-- an ask, by a going that is handed in -/
def asked (go : Pc → (Str → Int) → List Hd → Wd → Option (Rs × Wd)) : List Hd → Str → Int → Wd → Option (Rs × Wd)
  | [], k, n, w => some (if k = "fail" then (.fail (-1) n, ⟨w.rows, w.asked ++ [(k, n)]⟩) else (.num (take k w.rows).1, ⟨(take k w.rows).2, w.asked ++ [(k, n)]⟩))
  | h :: hs, k, n, w => if h.k = k then (if k = "fail" then some (.fail (hs.length : Int) n, w) else go h.a (up h.e h.x n) hs w) else asked go hs k n w
def thenO (r : Option (Rs × Wd)) (f : Int → Wd → Option (Rs × Wd)) : Option (Rs × Wd) := match r with
  | some (.num v, w) => f v w
  | some (.fail i m, w) => some (.fail i m, w)
  | none => none
def worth : Nat → Pc → (Str → Int) → List Hd → Wd → Option (Rs × Wd)
  | 0, _, _, _, _ => none
  | f + 1, p, e, hs, w => match p with
    | .num n => some (.num n, w)
    | .name x => some (.num (e x), w)
    | .hand k x a b => match worth f b e (⟨k, x, a, e⟩ :: hs) w with
      | some (.fail i m, w') => if i = (hs.length : Int) then worth f a (up e x m) hs w' else some (.fail i m, w')
      | r => r
    | .ask k a => thenO (worth f a e hs w) fun v w' => asked (worth f) hs k v w'
    | .let_ x a b => thenO (worth f a e hs w) fun v w' => worth f b (up e x v) hs w'
    | .choose a b c => thenO (worth f a e hs w) fun v w' => if v = 0 then worth f c e hs w' else worth f b e hs w'
    | .sum a b => thenO (worth f a e hs w) fun v w' => thenO (worth f b e hs w') fun v2 w2 => some (.num ((v + v2) % 1000), w2)
theorem thenO_some {r : Rs × Wd} {f : Int → Wd → Option (Rs × Wd)} {g : Int → Wd → Rs × Wd} (h : ∀ v w, f v w = some (g v w)) : thenO (some r) f = some (then_ r g) := by
  obtain ⟨r, w⟩ := r
  cases r with
  | num v => exact h v w
  | fail i m => rfl
theorem asked_is {go : Pc → (Str → Int) → List Hd → Wd → Option (Rs × Wd)} : ∀ (hs : List Hd) (k : Str) (n : Int) (w : Wd),
    (∀ (h : Hd) (hs' : List Hd) (w' : Wd), size h.a + sizes hs' ≤ sizes hs → go h.a (up h.e h.x n) hs' w' = some (exec (ansH (hs'.map Hd.den)) (den (up h.e h.x n) h.a) w')) → asked go hs k n w = some (ansH (hs.map Hd.den) k n w)
  | [], k, n, w, hg => by
    unfold asked ansH
    by_cases hf : k = "fail"
    · simp only [if_pos hf, List.map_nil]
    · simp only [if_neg hf, List.map_nil]
  | h :: hs, k, n, w, hg => by
    unfold asked
    rw [List.map_cons]
    unfold ansH
    by_cases hk : h.k = k
    · rw [if_pos hk, if_pos (show h.den.1 = k from hk)]
      by_cases hf : k = "fail"
      · rw [if_pos hf, if_pos hf, List.length_map]
      · rw [if_neg hf, if_neg hf]
        exact hg h hs w (Nat.le_refl _)
    · rw [if_neg hk, if_neg (show ¬ h.den.1 = k from hk)]
      exact asked_is hs k n w fun h' hs' w' hz => hg h' hs' w' (by have : sizes (h :: hs) = size h.a + sizes hs := rfl; omega)
theorem worth_is : ∀ (f : Nat) (p : Pc) (e : Str → Int) (hs : List Hd) (w : Wd), size p + sizes hs ≤ f → worth f p e hs w = some (exec (ansH (hs.map Hd.den)) (den e p) w)
  | 0, p, e, hs, w, h => by cases p <;> (unfold size at h; omega)
  | f + 1, p, e, hs, w, h => by
    have ih := worth_is f
    cases p with
    | num n => rfl
    | name x => rfl
    | sum a b =>
      unfold size at h
      simp only [worth, den, exec_bind]
      rw [ih a e hs w (by omega)]
      refine thenO_some fun v w' => ?_
      rw [ih b e hs w' (by omega)]
      exact thenO_some fun v2 w2 => rfl
    | let_ x a b =>
      unfold size at h
      simp only [worth, den, exec_bind]
      rw [ih a e hs w (by omega)]
      exact thenO_some fun v w' => ih b (up e x v) hs w' (by omega)
    | choose a b c =>
      unfold size at h
      simp only [worth, den, exec_bind]
      rw [ih a e hs w (by omega)]
      refine thenO_some fun v w' => ?_
      by_cases hv : v = 0
      · rw [if_pos hv, if_pos hv]; exact ih c e hs w' (by omega)
      · rw [if_neg hv, if_neg hv]; exact ih b e hs w' (by omega)
    | ask k a =>
      unfold size at h
      simp only [worth, den, exec_bind]
      rw [ih a e hs w (by omega)]
      refine thenO_some fun v w' => ?_
      rw [asked_is hs k v w' fun h' hs' w2 hz => ih h'.a _ hs' w2 (by omega)]
      congr 1
      simp only [exec]
      cases ansH (hs.map Hd.den) k v w' with
      | mk r w3 => cases r <;> rfl
    | hand k x a b =>
      unfold size at h
      simp only [worth, den, exec_handle]
      rw [ih b e (⟨k, x, a, e⟩ :: hs) w (by show size b + (size a + sizes hs) ≤ f; omega), List.map_cons, List.length_map]
      show (match some (exec (ansH ((k, fun n => den (up e x n) a) :: hs.map Hd.den)) (den e b) w) with
        | some (.fail i m, w') => if i = (hs.length : Int) then worth f a (up e x m) hs w' else some (.fail i m, w')
        | r => r) = _
      cases exec (ansH ((k, fun n => den (up e x n) a) :: hs.map Hd.den)) (den e b) w with
      | mk r w' => cases r with
        | num v => rfl
        | fail i m =>
          simp only [catch_]
          by_cases hi : i = (hs.length : Int)
          · rw [if_pos hi, if_pos hi]; exact ih a (up e x m) hs w' (by omega)
          · rw [if_neg hi, if_neg hi]
end Th
namespace Th
open PySem
/-! what stays so along a run -/
def GoodK (k : Str) : Prop := k = "coin" ∨ k = "fail" ∨ k = "line"
def Num (n : Int) : Prop := 0 ≤ n ∧ n ≤ 999
/-- numbers and kinds as they must be -/
def Gd : Pc → Prop
  | .num n => Num n
  | .name _ => True
  | .sum a b => Gd a ∧ Gd b
  | .let_ _ a b => Gd a ∧ Gd b
  | .choose a b c => Gd a ∧ Gd b ∧ Gd c
  | .ask k a => GoodK k ∧ Gd a
  | .hand k _ a b => GoodK k ∧ Gd a ∧ Gd b
theorem gd_put {x : Str} {n : Int} (hn : Num n) : ∀ {p : Pc}, Gd p → Gd (putIn x n p)
  | .num _, h => h
  | .name y, h => by
    unfold putIn
    by_cases hy : y = x
    · rw [if_pos hy]; exact hn
    · rw [if_neg hy]; exact h
  | .sum a b, h => ⟨gd_put hn h.1, gd_put hn h.2⟩
  | .let_ y a b, h => by
    refine ⟨gd_put hn h.1, ?_⟩
    by_cases hy : y = x
    · rw [if_pos hy]; exact h.2
    · rw [if_neg hy]; exact gd_put hn h.2
  | .choose a b c, h => ⟨gd_put hn h.1, gd_put hn h.2.1, gd_put hn h.2.2⟩
  | .ask k a, h => ⟨h.1, gd_put hn h.2⟩
  | .hand k y a b, h => by
    refine ⟨h.1, ?_, gd_put hn h.2.2⟩
    by_cases hy : y = x
    · rw [if_pos hy]; exact h.2.1
    · rw [if_neg hy]; exact gd_put hn h.2.1
theorem gd_fill {q : Pc} (hq : Gd q) : ∀ {p : Pc}, Gd p → Gd (fill q p)
  | .num _, h => h
  | .name y, h => h
  | .sum a b, h => by
    unfold fill
    by_cases ha : a.isNum = true
    · rw [if_pos ha]; exact ⟨h.1, gd_fill hq h.2⟩
    · rw [if_neg ha]; exact ⟨gd_fill hq h.1, h.2⟩
  | .let_ y a b, h => ⟨gd_fill hq h.1, h.2⟩
  | .choose a b c, h => ⟨gd_fill hq h.1, h.2⟩
  | .ask k a, h => by
    unfold fill
    by_cases ha : a.isNum = true
    · rw [if_pos ha]; exact hq
    · rw [if_neg ha]; exact ⟨h.1, gd_fill hq h.2⟩
  | .hand k y a b, h => ⟨h.1, h.2.1, gd_fill hq h.2.2⟩
section
variable {fg : Nat → Str}
theorem gd_num {p : Pc} {n : Int} (h : Gd p) (s : stp fg p = .num n) : Num n := by rw [stp_num s] at h; exact h
theorem gd_ask : ∀ {p : Pc} {k : Str} {n : Int}, Gd p → stp fg p = .ask k n → GoodK k ∧ Num n
  | .num _, k, n, _, h => by cases h
  | .name y, k, n, _, h => by cases h
  | .sum a b, k, n, g, h => by
    unfold stp at h
    split at h
    · split at h <;> first | (cases h; done) | skip
      next h2 => cases h; exact gd_ask g.2 h2
    · cases h
    · next h1 => cases h; exact gd_ask g.1 h1
    · cases h
  | .let_ y a b, k, n, g, h => by
    unfold stp at h
    split at h <;> first | (cases h; done) | skip
    next h1 => cases h; exact gd_ask g.1 h1
  | .choose a b c, k, n, g, h => by
    unfold stp at h
    split at h <;> first | (cases h; done) | skip
    next h1 => cases h; exact gd_ask g.1 h1
  | .ask k' a, k, n, g, h => by
    unfold stp at h
    split at h
    · next h1 => cases h; exact ⟨g.1, gd_num g.2 h1⟩
    · cases h
    · next h1 => cases h; exact gd_ask g.2 h1
    · cases h
  | .hand k' y a b, k, n, g, h => by
    unfold stp at h
    split at h <;> first | (cases h; done) | skip
    next h1 =>
      split at h
      · cases h
      · cases h; exact gd_ask g.2.2 h1
theorem gd_step : ∀ {p q : Pc}, Gd p → stp fg p = .go q → Gd q
  | .num _, q, _, h => by cases h
  | .name y, q, _, h => by cases h
  | .sum a b, q, g, h => by
    unfold stp at h
    split at h
    · split at h
      · cases h
        exact ⟨Int.emod_nonneg _ (by decide), by have := Int.emod_lt_of_pos (a := ‹Int› + ‹Int›) (b := 1000) (by decide); omega⟩
      · next h2 => cases h; exact ⟨g.1, gd_step g.2 h2⟩
      · cases h
      · cases h
    · next h1 => cases h; exact ⟨gd_step g.1 h1, g.2⟩
    · cases h
    · cases h
  | .let_ y a b, q, g, h => by
    unfold stp at h
    split at h
    · next h1 => cases h; exact gd_put (gd_num g.1 h1) g.2
    · next h1 => cases h; exact ⟨gd_step g.1 h1, g.2⟩
    · cases h
    · cases h
  | .choose a b c, q, g, h => by
    unfold stp at h
    split at h
    · cases h; split
      · exact g.2.2
      · exact g.2.1
    · next h1 => cases h; exact ⟨gd_step g.1 h1, g.2⟩
    · cases h
    · cases h
  | .ask k' a, q, g, h => by
    unfold stp at h
    split at h
    · cases h
    · next h1 => cases h; exact ⟨g.1, gd_step g.2 h1⟩
    · cases h
    · cases h
  | .hand k' y a b, q, g, h => by
    unfold stp at h
    split at h
    · next h1 => cases h; exact gd_num g.2.2 h1
    · next h1 => cases h; exact ⟨g.1, g.2.1, gd_step g.2.2 h1⟩
    · next k2 n h1 =>
      split at h
      · cases h
        have hn := (gd_ask g.2.2 h1).2
        split
        · exact gd_put hn g.2.1
        · exact ⟨gd_put hn g.2.1, g.1, g.2.1, gd_fill (q := .name _) True.intro g.2.2⟩
      · cases h
    · cases h
/-! all is told -/
theorem told_put {x : Str} {n : Int} : ∀ {p : Pc} {U T : Str → Prop}, Told p U → (∀ y, U y → y = x ∨ T y) → Told (putIn x n p) T
  | .num _, _, _, _, _ => True.intro
  | .name y, U, T, h, k => by
    unfold putIn
    by_cases hy : y = x
    · rw [if_pos hy]; exact True.intro
    · rw [if_neg hy]; exact (k y h).resolve_left hy
  | .sum a b, _, _, h, k => ⟨told_put h.1 k, told_put h.2 k⟩
  | .let_ y a b, U, T, h, k => by
    refine ⟨told_put h.1 k, ?_⟩
    by_cases hy : y = x
    · rw [if_pos hy]
      refine h.2.imp fun z hz => ?_
      rcases hz with hz | hz
      · exact .inl hz
      · exact (k z hz).imp (fun e => e.trans hy.symm) id
    · rw [if_neg hy]
      refine told_put h.2 fun z hz => ?_
      rcases hz with hz | hz
      · exact .inr (.inl hz)
      · exact (k z hz).imp id .inr
  | .choose a b c, _, _, h, k => ⟨told_put h.1 k, told_put h.2.1 k, told_put h.2.2 k⟩
  | .ask _ a, _, _, h, k => told_put (p := a) h k
  | .hand _ y a b, U, T, h, k => by
    refine ⟨?_, told_put h.2 k⟩
    by_cases hy : y = x
    · rw [if_pos hy]
      refine h.1.imp fun z hz => ?_
      rcases hz with hz | hz
      · exact .inl hz
      · exact (k z hz).imp (fun e => e.trans hy.symm) id
    · rw [if_neg hy]
      refine told_put h.1 fun z hz => ?_
      rcases hz with hz | hz
      · exact .inr (.inl hz)
      · exact (k z hz).imp id .inr
theorem told_fill {q : Pc} : ∀ {p : Pc} {T : Str → Prop}, Told q T → Told p T → Told (fill q p) T
  | .num _, _, _, h => h
  | .name y, _, _, h => h
  | .sum a b, T, hq, h => by
    unfold fill
    by_cases ha : a.isNum = true
    · rw [if_pos ha]; exact ⟨h.1, told_fill hq h.2⟩
    · rw [if_neg ha]; exact ⟨told_fill hq h.1, h.2⟩
  | .let_ y a b, _, hq, h => ⟨told_fill hq h.1, h.2⟩
  | .choose a b c, _, hq, h => ⟨told_fill hq h.1, h.2⟩
  | .ask k a, T, hq, h => by
    unfold fill
    by_cases ha : a.isNum = true
    · rw [if_pos ha]; exact hq
    · rw [if_neg ha]; exact told_fill (p := a) hq h
  | .hand k y a b, _, hq, h => ⟨h.1, told_fill hq h.2⟩
theorem told_step : ∀ {p q : Pc} {T : Str → Prop}, Told p T → stp fg p = .go q → Told q T
  | .num _, q, _, _, h => by cases h
  | .name y, q, _, _, h => by cases h
  | .sum a b, q, T, g, h => by
    unfold stp at h
    split at h
    · split at h
      · cases h; exact True.intro
      · next h2 => cases h; exact ⟨g.1, told_step g.2 h2⟩
      · cases h
      · cases h
    · next h1 => cases h; exact ⟨told_step g.1 h1, g.2⟩
    · cases h
    · cases h
  | .let_ y a b, q, T, g, h => by
    unfold stp at h
    split at h
    · cases h; exact told_put g.2 fun _ z => z
    · next h1 => cases h; exact ⟨told_step g.1 h1, g.2⟩
    · cases h
    · cases h
  | .choose a b c, q, T, g, h => by
    unfold stp at h
    split at h
    · cases h; split
      · exact g.2.2
      · exact g.2.1
    · next h1 => cases h; exact ⟨told_step g.1 h1, g.2⟩
    · cases h
    · cases h
  | .ask k' a, q, T, g, h => by
    unfold stp at h
    split at h
    · cases h
    · next q' h1 => cases h; exact told_step (p := a) (q := q') g h1
    · cases h
    · cases h
  | .hand k' y a b, q, T, g, h => by
    unfold stp at h
    split at h
    · cases h; exact True.intro
    · next h1 => cases h; exact ⟨g.1, told_step g.2 h1⟩
    · next k2 n h1 =>
      split at h
      · cases h
        split
        · exact told_put g.1 fun _ z => z
        · exact ⟨told_put g.1 fun _ z => z, g.1.imp fun z hz => hz.imp id .inr, told_fill (q := .name _) (.inl rfl) (g.2.imp fun _ z => .inr z)⟩
      · cases h
    · cases h
theorem told_stuck : ∀ {p : Pc}, Told p (fun _ => False) → stp fg p ≠ .stuck
  | .num _, _, h => by cases h
  | .name y, g, _ => g
  | .sum a b, g, h => by
    unfold stp at h
    split at h
    · split at h <;> first | (cases h; done) | skip
      next h2 => exact told_stuck g.2 h2
    · cases h
    · cases h
    · next h1 => exact told_stuck g.1 h1
  | .let_ y a b, g, h => by
    unfold stp at h
    split at h <;> first | (cases h; done) | skip
    next h1 => exact told_stuck g.1 h1
  | .choose a b c, g, h => by
    unfold stp at h
    split at h <;> first | (cases h; done) | skip
    next h1 => exact told_stuck g.1 h1
  | .ask k' a, g, h => by
    unfold stp at h
    split at h <;> first | (cases h; done) | skip
    next h1 => exact told_stuck (p := a) g h1
  | .hand k' y a b, g, h => by
    unfold stp at h
    split at h
    · cases h
    · cases h
    · split at h <;> cases h
    · next h1 => exact told_stuck g.2 h1
end
/-! how high -/
def Pc.isHand : Pc → Bool
  | .hand .. => true
  | _ => false
def hgt : Pc → Nat
  | .num _ => 1
  | .name _ => 1
  | .sum a b => 1 + max (hgt a) (hgt b)
  | .let_ _ a b => 1 + max (hgt a) (hgt b)
  | .choose a b c => 1 + max (hgt a) (max (hgt b) (hgt c))
  | .ask _ a => 1 + hgt a
  | .hand _ _ a b => 1 + max (hgt a) (hgt b)
/-- a height that never grows: a hand counts two, a let that a step made round a hand none -/
def wh (fig : Str → Bool) : Pc → Nat
  | .num _ => 1
  | .name _ => 1
  | .sum a b => 1 + max (wh fig a) (wh fig b)
  | .let_ x a b => if (fig x && b.isHand) = true then max (1 + wh fig a) (wh fig b) else 1 + max (wh fig a) (wh fig b)
  | .choose a b c => 1 + max (wh fig a) (max (wh fig b) (wh fig c))
  | .ask _ a => 1 + wh fig a
  | .hand _ _ a b => 2 + max (wh fig a) (wh fig b)
section
variable {fig : Str → Bool} {fg : Nat → Str}
theorem isHand_put (x : Str) (n : Int) (p : Pc) : (putIn x n p).isHand = p.isHand := by
  cases p <;> first | rfl | (unfold putIn; split <;> rfl)
theorem wh_pos : ∀ p : Pc, 1 ≤ wh fig p
  | .num _ => Nat.le_refl _
  | .name _ => Nat.le_refl _
  | .sum a b => by unfold wh; omega
  | .let_ x a b => by unfold wh; split <;> omega
  | .choose a b c => by unfold wh; omega
  | .ask _ a => by unfold wh; omega
  | .hand _ _ a b => by unfold wh; omega
theorem hgt_wh : ∀ p : Pc, hgt p ≤ wh fig p ∧ (p.isHand = true → hgt p + 1 ≤ wh fig p)
  | .num _ => ⟨Nat.le_refl _, fun h => by cases h⟩
  | .name _ => ⟨Nat.le_refl _, fun h => by cases h⟩
  | .sum a b => by have := (hgt_wh a).1; have := (hgt_wh b).1; exact ⟨by unfold hgt wh; omega, fun h => by cases h⟩
  | .let_ x a b => by
    have h1 := (hgt_wh a).1
    have h2 := (hgt_wh b).1
    refine ⟨?_, fun h => by cases h⟩
    unfold hgt wh
    split
    · next h =>
      have h3 := (hgt_wh b).2 (by simp only [Bool.and_eq_true] at h; exact h.2)
      omega
    · omega
  | .choose a b c => by have := (hgt_wh a).1; have := (hgt_wh b).1; have := (hgt_wh c).1; exact ⟨by unfold hgt wh; omega, fun h => by cases h⟩
  | .ask _ a => by have := (hgt_wh a).1; exact ⟨by unfold hgt wh; omega, fun h => by cases h⟩
  | .hand _ _ a b => by have := (hgt_wh a).1; have := (hgt_wh b).1; exact ⟨by unfold hgt wh; omega, fun _ => by unfold hgt wh; omega⟩
theorem wh_hgt : ∀ p : Pc, wh fig p ≤ 2 * hgt p
  | .num _ => by unfold wh hgt; omega
  | .name _ => by unfold wh hgt; omega
  | .sum a b => by have := wh_hgt a; have := wh_hgt b; unfold wh hgt; omega
  | .let_ x a b => by have := wh_hgt a; have := wh_hgt b; unfold wh hgt; split <;> omega
  | .choose a b c => by have := wh_hgt a; have := wh_hgt b; have := wh_hgt c; unfold wh hgt; omega
  | .ask _ a => by have := wh_hgt a; unfold wh hgt; omega
  | .hand _ _ a b => by have := wh_hgt a; have := wh_hgt b; unfold wh hgt; omega
theorem wh_put (x : Str) (n : Int) : ∀ p : Pc, wh fig (putIn x n p) = wh fig p
  | .num _ => rfl
  | .name y => by unfold putIn; split <;> rfl
  | .sum a b => by simp only [putIn, wh, wh_put x n a, wh_put x n b]
  | .let_ y a b => by
    simp only [putIn, wh, wh_put x n a]
    by_cases hy : y = x
    · simp only [if_pos hy]
    · simp only [if_neg hy, wh_put x n b, isHand_put]
  | .choose a b c => by simp only [putIn, wh, wh_put x n a, wh_put x n b, wh_put x n c]
  | .ask k a => by simp only [putIn, wh, wh_put x n a]
  | .hand k y a b => by
    simp only [putIn, wh, wh_put x n b]
    split <;> simp only [wh_put x n a]
theorem wh_fill {q : Pc} (hq : wh fig q = 1) : ∀ p : Pc, wh fig (fill q p) ≤ wh fig p
  | .num _ => Nat.le_refl _
  | .name y => Nat.le_refl _
  | .sum a b => by
    have := wh_fill hq a
    have := wh_fill hq b
    unfold fill
    split <;> (simp only [wh]; omega)
  | .let_ y a b => by
    have := wh_fill hq a
    simp only [fill, wh]
    split <;> omega
  | .choose a b c => by have := wh_fill hq a; simp only [fill, wh]; omega
  | .ask k a => by
    have := wh_fill hq a
    unfold fill
    split
    · rw [hq]; simp only [wh]; omega
    · simp only [wh]; omega
  | .hand k y a b => by have := wh_fill hq b; simp only [fill, wh]; omega
theorem wh_step (hfig : ∀ i, fig (fg i) = true) : ∀ {p q : Pc}, stp fg p = .go q → wh fig q ≤ wh fig p
  | .num _, q, h => by cases h
  | .name y, q, h => by cases h
  | .sum a b, q, h => by
    unfold stp at h
    split at h
    · split at h
      · cases h; simp only [wh]; omega
      · next h2 => cases h; have := wh_step hfig h2; simp only [wh]; omega
      · cases h
      · cases h
    · next h1 => cases h; have := wh_step hfig h1; simp only [wh]; omega
    · cases h
    · cases h
  | .let_ y a b, q, h => by
    unfold stp at h
    split at h
    · cases h; rw [wh_put]; simp only [wh]; split <;> omega
    · next h1 => cases h; have := wh_step hfig h1; simp only [wh]; split <;> omega
    · cases h
    · cases h
  | .choose a b c, q, h => by
    unfold stp at h
    split at h
    · cases h; simp only [wh]; split <;> omega
    · next h1 => cases h; have := wh_step hfig h1; simp only [wh]; omega
    · cases h
    · cases h
  | .ask k' a, q, h => by
    unfold stp at h
    split at h
    · cases h
    · next h1 => cases h; have := wh_step hfig h1; simp only [wh]; omega
    · cases h
    · cases h
  | .hand k' y a b, q, h => by
    unfold stp at h
    split at h
    · cases h; simp only [wh]; omega
    · next h1 => cases h; have := wh_step hfig h1; simp only [wh]; omega
    · next k2 n h1 =>
      split at h
      · cases h
        split
        · rw [wh_put]; simp only [wh]; omega
        · have hf : fig (fr fg (.hand k' y a b)) = true := hfig _
          have := wh_fill (fig := fig) (q := .name (fr fg (.hand k' y a b))) rfl b
          simp only [wh, wh_put, hf, Pc.isHand, Bool.and_true, if_true]
          omega
      · cases h
    · cases h
end
/-! how many asks -/
def Len : Nat → Tree → Prop
  | _, .ret _ => True
  | 0, .ask .. => False
  | n + 1, .ask _ _ c => ∀ v, Len n (c v)
theorem len_ret (n : Nat) (i : Int) : Len n (.ret i) := by unfold Len; exact True.intro
theorem Len.mono : ∀ {t : Tree} {m n : Nat}, Len m t → m ≤ n → Len n t
  | .ret _, m, n, _, _ => by unfold Len; exact True.intro
  | .ask k i c, 0, n, h, _ => h.elim
  | .ask k i c, m + 1, 0, h, e => by omega
  | .ask k i c, m + 1, n + 1, h, e => fun v => Len.mono (h v) (by omega)
theorem len_bind {f : Int → Tree} {n : Nat} (hf : ∀ v, Len n (f v)) : ∀ {t : Tree} {m : Nat}, Len m t → Len (m + n) (t.bind f)
  | .ret i, m, _ => (hf i).mono (by omega)
  | .ask k i c, 0, h => h.elim
  | .ask k i c, m + 1, h => by
    rw [show m + 1 + n = (m + n) + 1 by omega]
    exact fun v => len_bind hf (h v)
theorem len_handle {k : Str} {A : Int → Tree} {n : Nat} (hA : ∀ v, Len n (A v)) : ∀ {t : Tree} {m : Nat}, Len m t → Len (m * max 1 n) (t.handle k A)
  | .ret i, m, _ => by unfold Tree.handle Len; exact True.intro
  | .ask k' i c, 0, h => h.elim
  | .ask k' i c, m + 1, h => by
    unfold Tree.handle
    have e : (m + 1) * max 1 n = m * max 1 n + max 1 n := Nat.succ_mul m _
    split
    · split
      · exact (hA i).mono (by rw [e]; omega)
      · refine (len_bind (n := m * max 1 n) (fun v => len_handle hA (h v)) (hA i)).mono (by rw [e]; omega)
    · rw [e]
      refine Len.mono (m := m * max 1 n + 1) (fun v => len_handle hA (h v)) (by omega)
def na : Pc → Nat
  | .num _ => 0
  | .name _ => 0
  | .sum a b => na a + na b
  | .let_ _ a b => na a + na b
  | .choose a b c => na a + (na b + na c)
  | .ask _ a => na a + 1
  | .hand _ _ a b => na b * max 1 (na a)
theorem len_den : ∀ (p : Pc) (e : Str → Int), Len (na p) (den e p)
  | .num _, _ => True.intro
  | .name _, _ => True.intro
  | .sum a b, e => len_bind (fun m => (len_bind (n := 0) (fun n => len_ret 0 _) (len_den b e)).mono (by omega)) (len_den a e)
  | .let_ x a b, e => len_bind (fun m => len_den b _) (len_den a e)
  | .choose a b c, e => len_bind (fun m => by
    split
    · exact (len_den c e).mono (by omega)
    · exact (len_den b e).mono (by omega)) (len_den a e)
  | .ask k a, e => len_bind (n := 1) (f := fun m => .ask k m .ret) (fun m => show ∀ v, Len 0 (.ret v) from fun v => len_ret 0 v) (len_den a e)
  | .hand k x a b, e => len_handle (fun v => len_den a _) (len_den b e)
theorem run_len : ∀ {t : Tree} {m : Nat} {W : Rows} {as : List (Str × Int)}, Len m t → (runT t W as).asks.length ≤ as.length + m
  | .ret i, m, W, as, _ => Nat.le_add_right _ _
  | .ask k i c, 0, W, as, h => h.elim
  | .ask k i c, m + 1, W, as, h => by
    unfold runT
    split
    · simp only [List.length_append, List.length_singleton]; omega
    · have := run_len (W := (take k W).2) (as := as ++ [(k, i)]) (h (take k W).1)
      rw [List.length_append, List.length_singleton] at this
      omega
theorem na_size : ∀ p : Pc, na p + 1 ≤ 2 ^ size p
  | .num _ => by unfold na size; omega
  | .name _ => by unfold na size; omega
  | .sum a b => by
    have h1 := na_size a; have h2 := na_size b
    have p1 := Nat.one_le_two_pow (n := size a)
    have p2 := Nat.one_le_two_pow (n := size b)
    unfold na size
    rw [Nat.pow_add, Nat.pow_add]
    have := Nat.mul_le_mul (h1) (h2)
    have e : (na a + 1) * (na b + 1) = na a * na b + na a + na b + 1 := by rw [Nat.add_mul, Nat.mul_add]; omega
    have z : 0 ≤ na a * na b := Nat.zero_le _
    omega
  | .let_ x a b => by
    have h1 := na_size a; have h2 := na_size b
    unfold na size
    rw [Nat.pow_add, Nat.pow_add]
    have := Nat.mul_le_mul (h1) (h2)
    have e : (na a + 1) * (na b + 1) = na a * na b + na a + na b + 1 := by rw [Nat.add_mul, Nat.mul_add]; omega
    have z : 0 ≤ na a * na b := Nat.zero_le _
    omega
  | .choose a b c => by
    have h1 := na_size a; have h2 := na_size b; have h3 := na_size c
    unfold na size
    rw [Nat.pow_add, Nat.pow_add, Nat.pow_add]
    have m2 := Nat.mul_le_mul h2 h3
    have e2 : (na b + 1) * (na c + 1) = na b * na c + na b + na c + 1 := by rw [Nat.add_mul, Nat.mul_add]; omega
    have z2 : 0 ≤ na b * na c := Nat.zero_le _
    have h4 : na b + na c + 1 ≤ 2 ^ size b * 2 ^ size c := by omega
    have m1 := Nat.mul_le_mul h1 h4
    have e1 : (na a + 1) * (na b + na c + 1) = na a * (na b + na c) + na a + (na b + na c) + 1 := by rw [Nat.add_mul, Nat.mul_add]; omega
    have z1 : 0 ≤ na a * (na b + na c) := Nat.zero_le _
    omega
  | .ask k a => by
    have h1 := na_size a
    have p1 := Nat.one_le_two_pow (n := size a)
    unfold na size
    rw [Nat.pow_add]
    omega
  | .hand k x a b => by
    have h1 := na_size a; have h2 := na_size b
    have p1 := Nat.one_le_two_pow (n := size a)
    unfold na size
    rw [Nat.pow_add, Nat.pow_add]
    have m : na b * max 1 (na a) ≤ 2 ^ size b * 2 ^ size a := Nat.mul_le_mul (by omega) (by omega)
    rw [Nat.mul_comm] at m
    rw [Nat.mul_comm (2 ^ size b)] at m
    have q := Nat.mul_le_mul p1 (Nat.one_le_two_pow (n := size b))
    rw [Nat.mul_comm (na b)] 
    omega
end Th
namespace Th
open PySem
/-- no asks, no hands -/
def NoAsk : Pc → Prop
  | .num _ => True
  | .name _ => True
  | .sum a b => NoAsk a ∧ NoAsk b
  | .let_ _ a b => NoAsk a ∧ NoAsk b
  | .choose a b c => NoAsk a ∧ NoAsk b ∧ NoAsk c
  | .ask .. => False
  | .hand .. => False
theorem told_names : ∀ {p : Pc} {T : Str → Prop}, (∀ x ∈ namesIn p, T x) → Told p T
  | .num _, _, _ => True.intro
  | .name x, _, h => h x (List.mem_singleton.mpr rfl)
  | .sum a b, _, h => ⟨told_names fun x hx => h x (List.mem_append_left _ hx), told_names fun x hx => h x (List.mem_append_right _ hx)⟩
  | .let_ x a b, _, h => ⟨told_names fun y hy => h y (List.mem_cons_of_mem _ (List.mem_append_left _ hy)), told_names fun y hy => .inr (h y (List.mem_cons_of_mem _ (List.mem_append_right _ hy)))⟩
  | .choose a b c, _, h => ⟨told_names fun x hx => h x (List.mem_append_left _ hx), told_names fun x hx => h x (List.mem_append_right _ (List.mem_append_left _ hx)), told_names fun x hx => h x (List.mem_append_right _ (List.mem_append_right _ hx))⟩
  | .ask _ a, _, h => told_names (p := a) h
  | .hand _ x a b, _, h => ⟨told_names fun y hy => .inr (h y (List.mem_cons_of_mem _ (List.mem_append_left _ hy))), told_names fun y hy => h y (List.mem_cons_of_mem _ (List.mem_append_right _ hy))⟩
/-- a piece of the stack: by these names, so high, so large -/
structure Ok (names : List Str) (na : Prop) (p : Pc) (h s : Nat) : Prop where
  gd : Gd p
  nm : ∀ x ∈ namesIn p, x ∈ names
  ht : hgt p ≤ h
  sz : size p ≤ s
  ask : na → NoAsk p
section
variable {names : List Str} {na : Prop} {a b c : Pc} {ha hb hc sa sb sc h s : Nat} {x k : Str}
theorem Ok.imp (o : Ok names na a ha sa) (h1 : ha ≤ h) (h2 : sa ≤ s) : Ok names na a h s := ⟨o.gd, o.nm, Nat.le_trans o.ht h1, Nat.le_trans o.sz h2, o.ask⟩
theorem ok_num {n : Int} (hn : Num n) : Ok names na (.num n) 1 1 := ⟨hn, fun x h => (by cases h), Nat.le_refl _, Nat.le_refl _, fun _ => True.intro⟩
theorem ok_name (hx : x ∈ names) : Ok names na (.name x) 1 1 := ⟨True.intro, fun y h => (by rw [List.mem_singleton.mp h]; exact hx), Nat.le_refl _, Nat.le_refl _, fun _ => True.intro⟩
theorem ok_sum (oa : Ok names na a ha sa) (ob : Ok names na b hb sb) (h1 : ha ≤ h) (h2 : hb ≤ h) : Ok names na (.sum a b) (1 + h) (1 + (sa + sb)) :=
  ⟨⟨oa.gd, ob.gd⟩, fun y hy => (List.mem_append.mp hy).elim (oa.nm y) (ob.nm y), (by have := oa.ht; have := ob.ht; unfold hgt; omega), (by have := oa.sz; have := ob.sz; unfold size; omega), fun z => ⟨oa.ask z, ob.ask z⟩⟩
theorem ok_let (hx : x ∈ names) (oa : Ok names na a ha sa) (ob : Ok names na b hb sb) (h1 : ha ≤ h) (h2 : hb ≤ h) : Ok names na (.let_ x a b) (1 + h) (1 + (sa + sb)) :=
  ⟨⟨oa.gd, ob.gd⟩, fun y hy => (List.mem_cons.mp hy).elim (fun e => e ▸ hx) fun hy => (List.mem_append.mp hy).elim (oa.nm y) (ob.nm y), (by have := oa.ht; have := ob.ht; unfold hgt; omega), (by have := oa.sz; have := ob.sz; unfold size; omega), fun z => ⟨oa.ask z, ob.ask z⟩⟩
theorem ok_choose (oa : Ok names na a ha sa) (ob : Ok names na b hb sb) (oc : Ok names na c hc sc) (h1 : ha ≤ h) (h2 : hb ≤ h) (h3 : hc ≤ h) : Ok names na (.choose a b c) (1 + h) (1 + (sa + (sb + sc))) :=
  ⟨⟨oa.gd, ob.gd, oc.gd⟩, fun y hy => (List.mem_append.mp hy).elim (oa.nm y) fun hy => (List.mem_append.mp hy).elim (ob.nm y) (oc.nm y), (by have := oa.ht; have := ob.ht; have := oc.ht; unfold hgt; omega), (by have := oa.sz; have := ob.sz; have := oc.sz; unfold size; omega), fun z => ⟨oa.ask z, ob.ask z, oc.ask z⟩⟩
theorem ok_ask (hna : ¬ na) (hk : GoodK k) (oa : Ok names na a ha sa) (h1 : ha ≤ h) : Ok names na (.ask k a) (1 + h) (1 + sa) :=
  ⟨⟨hk, oa.gd⟩, oa.nm, (by have := oa.ht; unfold hgt; omega), (by have := oa.sz; unfold size; omega), fun z => absurd z hna⟩
theorem ok_hand (hna : ¬ na) (hk : GoodK k) (hx : x ∈ names) (oa : Ok names na a ha sa) (ob : Ok names na b hb sb) (h1 : ha ≤ h) (h2 : hb ≤ h) : Ok names na (.hand k x a b) (1 + h) (1 + (sa + sb)) :=
  ⟨⟨hk, oa.gd, ob.gd⟩, fun y hy => (List.mem_cons.mp hy).elim (fun e => e ▸ hx) fun hy => (List.mem_append.mp hy).elim (oa.nm y) (ob.nm y), (by have := oa.ht; have := ob.ht; unfold hgt; omega), (by have := oa.sz; have := ob.sz; unfold size; omega), fun z => absurd z hna⟩
end
end Th
namespace Th
open PySem
/-! texts of figures -/
def figs (i : Nat) : Str := Str.ofString (toString (i : Int))
theorem ofString_inj {s t : String} (h : Str.ofString s = Str.ofString t) : s = t := by
  rw [Str.ofString_eq_toList, Str.ofString_eq_toList] at h
  have h1 : (s.toList.map Char.toNat).toArray = (t.toList.map Char.toNat).toArray := congrArg Str.cps h
  have h2 : s.toList.map Char.toNat = t.toList.map Char.toNat := by simpa using congrArg Array.toList h1
  have inj : ∀ (a b : Char), a.toNat = b.toNat → a = b := fun a b e => Char.ext (UInt32.toNat_inj.mp e)
  have h3 : ∀ (l m : List Char), l.map Char.toNat = m.map Char.toNat → l = m := by
    intro l
    induction l with
    | nil => intro m e; cases m with
      | nil => rfl
      | cons b m => cases e
    | cons a l ih => intro m e; cases m with
      | nil => cases e
      | cons b m =>
        rw [List.map_cons, List.map_cons] at e
        injection e with e1 e2
        rw [inj a b e1, ih m e2]
  have h4 := h3 _ _ h2
  have h5 := congrArg String.ofList h4
  simpa using h5
theorem figs_inj (i j : Nat) (h : figs i = figs j) : i = j := by
  have h1 : toString (i : Int) = toString (j : Int) := ofString_inj h
  have h2 : Nat.repr i = Nat.repr j := h1
  exact Nat.repr_inj.mp h2
/-- a text that begins with a figure -/
def isFig (x : Str) : Bool := match x.cps.toList with
  | c :: _ => decide (48 ≤ c ∧ c ≤ 57)
  | [] => false
theorem figs_fig (i : Nat) : isFig (figs i) = true := by
  have e : figs i = ⟨((Nat.repr i).toList.map Char.toNat).toArray⟩ := Str.ofString_eq_toList _
  unfold isFig
  rw [e]
  have hd : ∀ c ∈ (Nat.repr i).toList, 48 ≤ c.toNat ∧ c.toNat ≤ 57 := fun c hc => by
    have h1 : c ∈ Nat.toDigits 10 i := by
      rw [Nat.repr_eq_ofList_toDigits] at hc
      simpa using hc
    have h2 := Nat.isDigit_of_mem_toDigits (by decide) (by decide) h1
    simp [Char.isDigit] at h2
    exact ⟨h2.1, h2.2⟩
  have hne : (Nat.repr i).toList ≠ [] := fun z => by
    rw [Nat.repr_eq_ofList_toDigits] at z
    have : Nat.toDigits 10 i = [] := by simpa using z
    have h0 := Nat.length_toDigits_pos (b := 10) (n := i)
    rw [this] at h0
    exact absurd h0 (by decide)
  cases hl : (Nat.repr i).toList with
  | nil => exact absurd hl hne
  | cons c r =>
    rw [hl] at hd
    have := hd c List.mem_cons_self
    simp [this]
end Th
/-! The way to what is next: the places round it, and the step told by it. -/
namespace Th
open PySem
def way : Pc → List (Pc × Nat) × Pc
  | .num n => ([], .num n)
  | .name x => ([], .name x)
  | .sum a b => if a.isNum = true then (if b.isNum = true then ([], .sum a b) else ((.sum a b, 2) :: (way b).1, (way b).2)) else ((.sum a b, 1) :: (way a).1, (way a).2)
  | .let_ x a b => if a.isNum = true then ([], .let_ x a b) else ((.let_ x a b, 2) :: (way a).1, (way a).2)
  | .choose a b c => if a.isNum = true then ([], .choose a b c) else ((.choose a b c, 1) :: (way a).1, (way a).2)
  | .ask k a => if a.isNum = true then ([], .ask k a) else ((.ask k a, 2) :: (way a).1, (way a).2)
  | .hand k x a b => if b.isNum = true then ([], .hand k x a b) else ((.hand k x a b, 4) :: (way b).1, (way b).2)
/-- what stands at a place -/
def kid : Pc → Nat → Option Pc
  | .sum a _, 1 => some a
  | .sum _ b, 2 => some b
  | .let_ _ a _, 2 => some a
  | .choose a _ _, 1 => some a
  | .ask _ a, 2 => some a
  | .hand _ _ _ b, 4 => some b
  | _, _ => none
def putAt : Pc → Nat → Pc → Pc
  | .sum _ b, 1, q => .sum q b
  | .sum a _, 2, q => .sum a q
  | .let_ x _ b, 2, q => .let_ x q b
  | .choose _ b c, 1, q => .choose q b c
  | .ask k _, 2, q => .ask k q
  | .hand k x a _, 4, q => .hand k x a q
  | w, _, _ => w
def back : List (Pc × Nat) → Pc → Pc
  | [], q => q
  | (w, i) :: r, q => putAt w i (back r q)
def nxt : Pc → Option (Nat × Pc)
  | .sum a b => if a.isNum = true then (if b.isNum = true then none else some (2, b)) else some (1, a)
  | .let_ _ a _ => if a.isNum = true then none else some (2, a)
  | .choose a _ _ => if a.isNum = true then none else some (1, a)
  | .ask _ a => if a.isNum = true then none else some (2, a)
  | .hand _ _ _ b => if b.isNum = true then none else some (4, b)
  | _ => none
theorem way_none {p : Pc} (h : nxt p = none) : way p = ([], p) := by
  cases p with
  | num n => rfl
  | name x => rfl
  | sum a b =>
    simp only [nxt] at h
    by_cases h1 : a.isNum = true
    · by_cases h2 : b.isNum = true
      · simp only [way, if_pos h1, if_pos h2]
      · rw [if_pos h1, if_neg h2] at h; cases h
    · rw [if_neg h1] at h; cases h
  | let_ x a b =>
    simp only [nxt] at h
    by_cases h1 : a.isNum = true
    · simp only [way, if_pos h1]
    · rw [if_neg h1] at h; cases h
  | choose a b c =>
    simp only [nxt] at h
    by_cases h1 : a.isNum = true
    · simp only [way, if_pos h1]
    · rw [if_neg h1] at h; cases h
  | ask k a =>
    simp only [nxt] at h
    by_cases h1 : a.isNum = true
    · simp only [way, if_pos h1]
    · rw [if_neg h1] at h; cases h
  | hand k x a b =>
    simp only [nxt] at h
    by_cases h1 : b.isNum = true
    · simp only [way, if_pos h1]
    · rw [if_neg h1] at h; cases h
theorem way_some {p q : Pc} {i : Nat} (h : nxt p = some (i, q)) : way p = ((p, i) :: (way q).1, (way q).2) ∧ kid p i = some q ∧ hgt q < hgt p ∧ size q < size p := by
  cases p with
  | num n => cases h
  | name x => cases h
  | sum a b =>
    simp only [nxt] at h
    by_cases h1 : a.isNum = true
    · by_cases h2 : b.isNum = true
      · rw [if_pos h1, if_pos h2] at h; cases h
      · rw [if_pos h1, if_neg h2] at h; cases h
        refine ⟨by simp only [way, if_pos h1, if_neg h2], rfl, ?_, ?_⟩
        · simp only [hgt]; omega
        · simp only [size]; omega
    · rw [if_neg h1] at h; cases h
      refine ⟨by simp only [way, if_neg h1], rfl, ?_, ?_⟩
      · simp only [hgt]; omega
      · simp only [size]; omega
  | let_ x a b =>
    simp only [nxt] at h
    by_cases h1 : a.isNum = true
    · rw [if_pos h1] at h; cases h
    · rw [if_neg h1] at h; cases h
      refine ⟨by simp only [way, if_neg h1], rfl, ?_, ?_⟩
      · simp only [hgt]; omega
      · simp only [size]; omega
  | choose a b c =>
    simp only [nxt] at h
    by_cases h1 : a.isNum = true
    · rw [if_pos h1] at h; cases h
    · rw [if_neg h1] at h; cases h
      refine ⟨by simp only [way, if_neg h1], rfl, ?_, ?_⟩
      · simp only [hgt]; omega
      · simp only [size]; omega
  | ask k a =>
    simp only [nxt] at h
    by_cases h1 : a.isNum = true
    · rw [if_pos h1] at h; cases h
    · rw [if_neg h1] at h; cases h
      refine ⟨by simp only [way, if_neg h1], rfl, ?_, ?_⟩
      · simp only [hgt]; omega
      · simp only [size]; omega
  | hand k x a b =>
    simp only [nxt] at h
    by_cases h1 : b.isNum = true
    · rw [if_pos h1] at h; cases h
    · rw [if_neg h1] at h; cases h
      refine ⟨by simp only [way, if_neg h1], rfl, ?_, ?_⟩
      · simp only [hgt]; omega
      · simp only [size]; omega
/-- the nearest hand of a kind, by its index in the way -/
def isHandOf (k : Str) : Pc → Bool
  | .hand k' _ _ _ => k' == k
  | _ => false
def near (k : Str) : List (Pc × Nat) → Option Nat
  | [] => none
  | (w, _) :: r => match near k r with
    | some i => some (i + 1)
    | none => if isHandOf k w = true then some 0 else none
def byHand (fg : Nat → Str) (k : Str) (n : Int) : List (Pc × Nat) → Pc
  | (.hand k' x a b, i) :: r => if k = "fail" then putIn x n a else .let_ (fr fg (.hand k' x a b)) (putIn x n a) (back ((.hand k' x a b, i) :: r) (.name (fr fg (.hand k' x a b))))
  | _ => .num 0
def worked : Pc → Pc
  | .sum (.num m) (.num n) => .num ((m + n) % 1000)
  | .let_ x (.num n) b => putIn x n b
  | .choose (.num n) b c => if n = 0 then c else b
  | .hand _ _ _ b => b
  | p => p
/-- the step, told by the way -/
def wstp (fg : Nat → Str) (ar : List (Pc × Nat)) : Pc → St
  | .num n => .num n
  | .name _ => .stuck
  | .ask k (.num n) => match near k ar with
    | none => .ask k n
    | some i => .go (back (ar.take i) (byHand fg k n (ar.drop i)))
  | f => .go (back ar (worked f))
theorem way_num {p : Pc} {n : Int} (h : (way p).2 = .num n) : p = .num n := by
  induction p with
  | num m => exact h
  | name x => cases h
  | sum a b iha ihb =>
    unfold way at h
    by_cases h1 : a.isNum = true
    · by_cases h2 : b.isNum = true
      · rw [if_pos h1, if_pos h2] at h; cases h
      · rw [if_pos h1, if_neg h2] at h; rw [ihb h] at h2; exact absurd rfl h2
    · rw [if_neg h1] at h; rw [iha h] at h1; exact absurd rfl h1
  | let_ x a b iha _ =>
    unfold way at h
    by_cases h1 : a.isNum = true
    · rw [if_pos h1] at h; cases h
    · rw [if_neg h1] at h; rw [iha h] at h1; exact absurd rfl h1
  | choose a b c iha _ _ =>
    unfold way at h
    by_cases h1 : a.isNum = true
    · rw [if_pos h1] at h; cases h
    · rw [if_neg h1] at h; rw [iha h] at h1; exact absurd rfl h1
  | ask k a iha =>
    unfold way at h
    by_cases h1 : a.isNum = true
    · rw [if_pos h1] at h; cases h
    · rw [if_neg h1] at h; rw [iha h] at h1; exact absurd rfl h1
  | hand k x a b _ ihb =>
    unfold way at h
    by_cases h1 : b.isNum = true
    · rw [if_pos h1] at h; cases h
    · rw [if_neg h1] at h; rw [ihb h] at h1; exact absurd rfl h1
/-- where the way ends, nothing is next -/
theorem way_end (p : Pc) : nxt (way p).2 = none := by
  induction p with
  | num m => rfl
  | name x => rfl
  | sum a b iha ihb =>
    unfold way
    by_cases h1 : a.isNum = true
    · by_cases h2 : b.isNum = true
      · rw [if_pos h1, if_pos h2]; simp only [nxt, if_pos h1, if_pos h2]
      · rw [if_pos h1, if_neg h2]; exact ihb
    · rw [if_neg h1]; exact iha
  | let_ x a b iha _ =>
    unfold way
    by_cases h1 : a.isNum = true
    · rw [if_pos h1]; simp only [nxt, if_pos h1]
    · rw [if_neg h1]; exact iha
  | choose a b c iha _ _ =>
    unfold way
    by_cases h1 : a.isNum = true
    · rw [if_pos h1]; simp only [nxt, if_pos h1]
    · rw [if_neg h1]; exact iha
  | ask k a iha =>
    unfold way
    by_cases h1 : a.isNum = true
    · rw [if_pos h1]; simp only [nxt, if_pos h1]
    · rw [if_neg h1]; exact iha
  | hand k x a b _ ihb =>
    unfold way
    by_cases h1 : b.isNum = true
    · rw [if_pos h1]; simp only [nxt, if_pos h1]
    · rw [if_neg h1]; exact ihb
theorem isNum_num {p : Pc} (h : p.isNum = true) : ∃ n, p = .num n := by
  cases p <;> first | exact ⟨_, rfl⟩ | cases h
/-- a frame that is no hand carries the step of what stands in it -/
theorem wstp_cons {fg : Nat → Str} {w : Pc} {i : Nat} {ar : List (Pc × Nat)} {f : Pc} (hw : ∀ k, isHandOf k w = false) (hf : ∀ n, f ≠ .num n) : wstp fg ((w, i) :: ar) f = match wstp fg ar f with
    | .go q => .go (putAt w i q)
    | s => s := by
  have hgo : ∀ p : Pc, St.go (back ((w, i) :: ar) (worked p)) = (match St.go (back ar (worked p)) with
    | .go q => .go (putAt w i q)
    | s => s) := fun _ => rfl
  cases f with
  | num n => exact absurd rfl (hf n)
  | name x => rfl
  | sum a b => exact hgo _
  | let_ x a b => exact hgo _
  | choose a b c => exact hgo _
  | hand k x a b => exact hgo _
  | ask k a =>
    cases a with
    | num n =>
      simp only [wstp, near]
      cases hn : near k ar with
      | none => simp only [hw k]; rfl
      | some j => rfl
    | _ => exact hgo _
theorem stp_way (fg : Nat → Str) : ∀ p : Pc, stp fg p = wstp fg (way p).1 (way p).2
  | .num n => rfl
  | .name x => rfl
  | .sum a b => by
    have ia := stp_way fg a
    have ib := stp_way fg b
    unfold way
    by_cases h1 : a.isNum = true
    · obtain ⟨m, rfl⟩ := isNum_num h1
      by_cases h2 : b.isNum = true
      · obtain ⟨n, rfl⟩ := isNum_num h2
        rfl
      · rw [if_pos h1, if_neg h2, wstp_cons (fun _ => rfl) (fun n e => h2 (by rw [way_num e]; rfl)), ← ib]
        simp only [stp]
        have := @stp_num fg b
        cases hs : stp fg b with
        | num n => exact absurd (by rw [stp_num hs]; rfl) h2
        | _ => rfl
    · rw [if_neg h1, wstp_cons (fun _ => rfl) (fun n e => h1 (by rw [way_num e]; rfl)), ← ia]
      simp only [stp]
      cases hs : stp fg a with
      | num n => exact absurd (by rw [stp_num hs]; rfl) h1
      | _ => rfl
  | .let_ x a b => by
    have ia := stp_way fg a
    unfold way
    by_cases h1 : a.isNum = true
    · obtain ⟨m, rfl⟩ := isNum_num h1
      rfl
    · rw [if_neg h1, wstp_cons (fun _ => rfl) (fun n e => h1 (by rw [way_num e]; rfl)), ← ia]
      simp only [stp]
      cases hs : stp fg a with
      | num n => exact absurd (by rw [stp_num hs]; rfl) h1
      | _ => rfl
  | .choose a b c => by
    have ia := stp_way fg a
    unfold way
    by_cases h1 : a.isNum = true
    · obtain ⟨m, rfl⟩ := isNum_num h1
      rfl
    · rw [if_neg h1, wstp_cons (fun _ => rfl) (fun n e => h1 (by rw [way_num e]; rfl)), ← ia]
      simp only [stp]
      cases hs : stp fg a with
      | num n => exact absurd (by rw [stp_num hs]; rfl) h1
      | _ => rfl
  | .ask k a => by
    have ia := stp_way fg a
    unfold way
    by_cases h1 : a.isNum = true
    · obtain ⟨m, rfl⟩ := isNum_num h1
      rfl
    · rw [if_neg h1, wstp_cons (fun _ => rfl) (fun n e => h1 (by rw [way_num e]; rfl)), ← ia]
      simp only [stp]
      cases hs : stp fg a with
      | num n => exact absurd (by rw [stp_num hs]; rfl) h1
      | _ => rfl
  | .hand k x a b => by
    have ib := stp_way fg b
    have fb := fill_way b
    unfold way
    by_cases h1 : b.isNum = true
    · obtain ⟨m, rfl⟩ := isNum_num h1
      rfl
    · rw [if_neg h1]
      have hf : ∀ n, (way b).2 ≠ .num n := fun n e => h1 (by rw [way_num e]; rfl)
      have hend := way_end b
      simp only [stp]
      generalize hw : way b = wb at ib fb hf hend
      obtain ⟨ar, f⟩ := wb
      simp only at ib fb hf hend ⊢
      have hgo : ∀ q : Pc, stp fg b = .go (back ar q) → (match stp fg b with
        | .num n => St.go (.num n)
        | .go b' => .go (.hand k x a b')
        | .ask k' n => if k' = k then .go (if k = "fail" then putIn x n a else .let_ (fr fg (.hand k x a b)) (putIn x n a) (.hand k x a (fill (.name (fr fg (.hand k x a b))) b))) else .ask k' n
        | .stuck => .stuck) = .go (back ((.hand k x a b, 4) :: ar) q) := fun q e => by rw [e]; rfl
      cases f with
      | num n => exact absurd rfl (hf n)
      | name y =>
        rw [ib]; rfl
      | sum c d => exact hgo _ ib
      | let_ y c d => exact hgo _ ib
      | choose c d e => exact hgo _ ib
      | hand k' y c d => exact hgo _ ib
      | ask k' c =>
        have hc : c.isNum = true := by
          by_cases z : c.isNum = true
          · exact z
          · simp only [nxt, if_neg z] at hend; cases hend
        obtain ⟨n, rfl⟩ := isNum_num hc
        simp only [wstp] at ib ⊢
        simp only [near]
        cases hn : near k' ar with
        | some j =>
          rw [hn] at ib
          rw [ib]
          rfl
        | none =>
          rw [hn] at ib
          rw [ib]
          simp only [isHandOf]
          by_cases hk : k = k'
          · subst hk
            simp only [if_true, beq_self_eq_true]
            have e := fb (.name (fr fg (.hand k x a b))) k n rfl
            rw [e]
            rfl
          · have hb : (k == k') = false := by
              cases hb : k == k' with
              | false => rfl
              | true => exact absurd (eq_of_beq hb) hk
            rw [if_neg (fun e => hk e.symm)]
            simp only [hb]
            rfl
where
  fill_way : ∀ (p : Pc) (q : Pc) (k : Str) (n : Int), (way p).2 = .ask k (.num n) → fill q p = back (way p).1 q
    | .num m, q, k, n, h => by cases h
    | .name y, q, k, n, h => by cases h
    | .sum a b, q, k, n, h => by
      unfold way at h ⊢
      by_cases h1 : a.isNum = true
      · by_cases h2 : b.isNum = true
        · rw [if_pos h1, if_pos h2] at h; cases h
        · rw [if_pos h1, if_neg h2] at h ⊢
          simp only [fill, if_pos h1, fill_way b q k n h]
          rfl
      · rw [if_neg h1] at h ⊢
        simp only [fill, if_neg h1, fill_way a q k n h]
        rfl
    | .let_ x a b, q, k, n, h => by
      unfold way at h ⊢
      by_cases h1 : a.isNum = true
      · rw [if_pos h1] at h; cases h
      · rw [if_neg h1] at h ⊢
        simp only [fill, fill_way a q k n h]
        rfl
    | .choose a b c, q, k, n, h => by
      unfold way at h ⊢
      by_cases h1 : a.isNum = true
      · rw [if_pos h1] at h; cases h
      · rw [if_neg h1] at h ⊢
        simp only [fill, fill_way a q k n h]
        rfl
    | .ask k' a, q, k, n, h => by
      unfold way at h ⊢
      by_cases h1 : a.isNum = true
      · rw [if_pos h1] at h ⊢
        simp only [fill, if_pos h1]
        rfl
      · rw [if_neg h1] at h ⊢
        simp only [fill, if_neg h1, fill_way a q k n h]
        rfl
    | .hand k' x a b, q, k, n, h => by
      unfold way at h ⊢
      by_cases h1 : b.isNum = true
      · rw [if_pos h1] at h; cases h
      · rw [if_neg h1] at h ⊢
        simp only [fill, fill_way b q k n h]
        rfl
end Th
/-! How large a piece can grow: by a hand's own part at each step. -/
namespace Th
open PySem
def mxa : Pc → Nat
  | .num _ => 0
  | .name _ => 0
  | .sum a b => max (mxa a) (mxa b)
  | .let_ _ a b => max (mxa a) (mxa b)
  | .choose a b c => max (mxa a) (max (mxa b) (mxa c))
  | .ask _ a => mxa a
  | .hand _ _ a b => max (size a + 1) (max (mxa a) (mxa b))
theorem size_pos : ∀ p : Pc, 1 ≤ size p
  | .num _ => Nat.le_refl _
  | .name _ => Nat.le_refl _
  | .sum _ _ => Nat.le_add_right _ _
  | .let_ _ _ _ => Nat.le_add_right _ _
  | .choose _ _ _ => Nat.le_add_right _ _
  | .ask _ _ => Nat.le_add_right _ _
  | .hand _ _ _ _ => Nat.le_add_right _ _
theorem mxa_size : ∀ p : Pc, mxa p ≤ size p
  | .num _ => Nat.zero_le _
  | .name _ => Nat.zero_le _
  | .sum a b => by have := mxa_size a; have := mxa_size b; simp only [mxa, size]; omega
  | .let_ _ a b => by have := mxa_size a; have := mxa_size b; simp only [mxa, size]; omega
  | .choose a b c => by have := mxa_size a; have := mxa_size b; have := mxa_size c; simp only [mxa, size]; omega
  | .ask _ a => by have := mxa_size a; simp only [mxa, size]; omega
  | .hand _ _ a b => by have := mxa_size a; have := mxa_size b; have := size_pos b; simp only [mxa, size]; omega
theorem put_size (x : Str) (n : Int) : ∀ p : Pc, size (putIn x n p) = size p ∧ mxa (putIn x n p) = mxa p
  | .num _ => ⟨rfl, rfl⟩
  | .name y => by unfold putIn; split <;> exact ⟨rfl, rfl⟩
  | .sum a b => by have h1 := put_size x n a; have h2 := put_size x n b; simp only [putIn, size, mxa, h1, h2, and_self]
  | .let_ y a b => by
    have h1 := put_size x n a; have h2 := put_size x n b
    by_cases h : y = x
    · simp only [putIn, if_pos h, size, mxa, h1, and_self]
    · simp only [putIn, if_neg h, size, mxa, h1, h2, and_self]
  | .choose a b c => by have h1 := put_size x n a; have h2 := put_size x n b; have h3 := put_size x n c; simp only [putIn, size, mxa, h1, h2, h3, and_self]
  | .ask _ a => by have h1 := put_size x n a; simp only [putIn, size, mxa, h1, and_self]
  | .hand _ y a b => by
    have h1 := put_size x n a; have h2 := put_size x n b
    by_cases h : y = x
    · simp only [putIn, if_pos h, size, mxa, h2, and_self]
    · simp only [putIn, if_neg h, size, mxa, h1, h2, and_self]
theorem fill_size {q : Pc} (hq : size q = 1) : ∀ p : Pc, size (fill q p) ≤ size p ∧ mxa (fill q p) ≤ mxa p := by
  have h0 : mxa q = 0 := by
    cases q with
    | num _ => rfl
    | name _ => rfl
    | ask _ a => have := size_pos a; simp only [size] at hq; omega
    | sum a b => have := size_pos a; simp only [size] at hq; omega
    | let_ _ a b => have := size_pos a; simp only [size] at hq; omega
    | choose a b c => have := size_pos a; simp only [size] at hq; omega
    | hand _ _ a b => have := size_pos a; simp only [size] at hq; omega
  intro p
  induction p with
  | num _ => exact ⟨Nat.le_refl _, Nat.le_refl _⟩
  | name _ => exact ⟨Nat.le_refl _, Nat.le_refl _⟩
  | sum a b iha ihb =>
    unfold fill
    split
    · simp only [size, mxa]; omega
    · simp only [size, mxa]; omega
  | let_ x a b iha _ => simp only [fill, size, mxa]; omega
  | choose a b c iha _ _ => simp only [fill, size, mxa]; omega
  | ask k a iha =>
    unfold fill
    split
    · simp only [size, mxa]; omega
    · simp only [size, mxa]; omega
  | hand k x a b _ ihb => simp only [fill, size, mxa]; omega
theorem size_step {fg : Nat → Str} : ∀ {p q : Pc}, stp fg p = .go q → size q ≤ size p + mxa p ∧ mxa q ≤ mxa p
  | .num _, q, h => by cases h
  | .name _, q, h => by cases h
  | .sum a b, q, h => by
    have ia := @size_step fg a
    have ib := @size_step fg b
    simp only [stp] at h
    cases ea : stp fg a with
    | num m =>
      rw [ea] at h
      cases eb : stp fg b with
      | num n => rw [eb] at h; cases h; simp only [size, mxa]; omega
      | go b' => rw [eb] at h; cases h; have := ib eb; simp only [size, mxa]; omega
      | ask k n => rw [eb] at h; cases h
      | stuck => rw [eb] at h; cases h
    | go a' => rw [ea] at h; cases h; have := ia ea; simp only [size, mxa]; omega
    | ask k n => rw [ea] at h; cases h
    | stuck => rw [ea] at h; cases h
  | .let_ x a b, q, h => by
    have ia := @size_step fg a
    simp only [stp] at h
    cases ea : stp fg a with
    | num m => rw [ea] at h; cases h; have := put_size x m b; simp only [size, mxa]; omega
    | go a' => rw [ea] at h; cases h; have := ia ea; simp only [size, mxa]; omega
    | ask k n => rw [ea] at h; cases h
    | stuck => rw [ea] at h; cases h
  | .choose a b c, q, h => by
    have ia := @size_step fg a
    simp only [stp] at h
    cases ea : stp fg a with
    | num m =>
      rw [ea] at h; cases h
      split <;> (simp only [size, mxa]; omega)
    | go a' => rw [ea] at h; cases h; have := ia ea; simp only [size, mxa]; omega
    | ask k n => rw [ea] at h; cases h
    | stuck => rw [ea] at h; cases h
  | .ask k a, q, h => by
    have ia := @size_step fg a
    simp only [stp] at h
    cases ea : stp fg a with
    | num m => rw [ea] at h; cases h
    | go a' => rw [ea] at h; cases h; have := ia ea; simp only [size, mxa]; omega
    | ask k n => rw [ea] at h; cases h
    | stuck => rw [ea] at h; cases h
  | .hand k x a b, q, h => by
    have ib := @size_step fg b
    simp only [stp] at h
    cases eb : stp fg b with
    | num m => rw [eb] at h; cases h; simp only [size, mxa]; omega
    | go b' => rw [eb] at h; cases h; have := ib eb; simp only [size, mxa]; omega
    | ask k' n =>
      rw [eb] at h
      by_cases hk : k' = k
      · simp only [if_pos hk] at h
        have h1 := put_size x n a
        by_cases hf : k = "fail"
        · simp only [if_pos hf] at h; cases h; simp only [size, mxa]; omega
        · simp only [if_neg hf] at h
          cases h
          have h2 := fill_size (q := .name (fr fg (.hand k x a b))) rfl b
          simp only [size, mxa]; omega
      · simp only [if_neg hk] at h; cases h
    | stuck => rw [eb] at h; cases h
end Th
/-! Pieces without asks: what they come to, and by how many steps. -/
namespace Th
open PySem
def val (e : Str → Int) : Pc → Int
  | .num n => n
  | .name x => e x
  | .sum a b => (val e a + val e b) % 1000
  | .let_ x a b => val (up e x (val e a)) b
  | .choose a b c => if val e a = 0 then val e c else val e b
  | .ask _ _ => 0
  | .hand _ _ _ _ => 0
def cnt (e : Str → Int) : Pc → Nat
  | .num _ => 0
  | .name _ => 0
  | .sum a b => 1 + (cnt e a + cnt e b)
  | .let_ x a b => 1 + (cnt e a + cnt (up e x (val e a)) b)
  | .choose a b c => 1 + (cnt e a + if val e a = 0 then cnt e c else cnt e b)
  | .ask _ _ => 0
  | .hand _ _ _ _ => 0
theorem cnt_size : ∀ (p : Pc) (e : Str → Int), cnt e p ≤ size p
  | .num _, _ => Nat.zero_le _
  | .name _, _ => Nat.zero_le _
  | .sum a b, e => by have := cnt_size a e; have := cnt_size b e; simp only [cnt, size]; omega
  | .let_ x a b, e => by have := cnt_size a e; have := cnt_size b (up e x (val e a)); simp only [cnt, size]; omega
  | .choose a b c, e => by
    have := cnt_size a e; have := cnt_size b e; have := cnt_size c e
    simp only [cnt, size]
    split <;> omega
  | .ask _ _, _ => Nat.zero_le _
  | .hand _ _ _ _, _ => Nat.zero_le _
inductive StepsN (fg : Nat → Str) : Nat → Pc → Pc → Prop
  | zero (p : Pc) : StepsN fg 0 p p
  | succ {n : Nat} {p q r : Pc} : stp fg p = .go q → StepsN fg n q r → StepsN fg (n + 1) p r
section
variable {fg : Nat → Str}
theorem StepsN.trans {m n : Nat} {p q r : Pc} (h : StepsN fg m p q) (k : StepsN fg n q r) : StepsN fg (m + n) p r := by
  induction h with
  | zero => rw [Nat.zero_add]; exact k
  | succ h1 _ ih => rw [Nat.succ_add]; exact .succ h1 (ih k)
theorem Frame.stepsN {F : Pc → Pc} (f : Frame fg F) {n : Nat} {a b : Pc} (h : StepsN fg n a b) : StepsN fg n (F a) (F b) := by
  induction h with
  | zero => exact .zero _
  | succ h1 _ ih => exact .succ (f.go h1) ih
theorem steps_cnt : ∀ (p : Pc) (ρ : Str → Option Int) (e : Str → Int), NoAsk p → Told p (fun x => ρ x = some (e x)) → StepsN fg (cnt e p) (sub ρ p) (.num (val e p))
  | .num n, _, _, _, _ => .zero _
  | .name x, ρ, e, _, h => by
    have h' : ρ x = some (e x) := h
    simp only [sub, h']
    exact .zero _
  | .sum a b, ρ, e, na, h => by
    have h1 := (frame_sum1 (fg := fg) (sub ρ b)).stepsN (steps_cnt a ρ e na.1 h.1)
    have h2 := (frame_sum2 (fg := fg) (val e a)).stepsN (steps_cnt b ρ e na.2 h.2)
    have h3 := (h1.trans h2).trans (.succ (n := 0) (show stp fg (.sum (.num (val e a)) (.num (val e b))) = .go (.num ((val e a + val e b) % 1000)) from rfl) (.zero _))
    have e1 : 1 + (cnt e a + cnt e b) = cnt e a + cnt e b + (0 + 1) := by omega
    simp only [cnt, val, sub]
    rw [e1]
    exact h3
  | .let_ x a b, ρ, e, na, h => by
    have h1 := (frame_let (fg := fg) x (sub (less ρ x) b)).stepsN (steps_cnt a ρ e na.1 h.1)
    have h2 := steps_cnt b (plus ρ x (val e a)) (up e x (val e a)) na.2 (h.2.imp fun y z => by
      unfold plus up
      by_cases hy : y = x
      · rw [if_pos hy, if_pos hy]
      · rw [if_neg hy, if_neg hy]; exact z.resolve_left hy)
    have h3 := h1.trans (.succ (q := sub (plus ρ x (val e a)) b) (by simp only [stp, put_sub]) h2)
    have e1 : 1 + (cnt e a + cnt (up e x (val e a)) b) = cnt e a + (cnt (up e x (val e a)) b + 1) := by omega
    simp only [cnt, val, sub]
    rw [e1]
    exact h3
  | .choose a b c, ρ, e, na, h => by
    have h1 := (frame_choose (fg := fg) (sub ρ b) (sub ρ c)).stepsN (steps_cnt a ρ e na.1 h.1)
    have hb := steps_cnt b ρ e na.2.1 h.2.1
    have hc := steps_cnt c ρ e na.2.2 h.2.2
    simp only [cnt, val, sub]
    by_cases hv : val e a = 0
    · rw [if_pos hv, if_pos hv]
      have h3 := h1.trans (.succ (q := sub ρ c) (by simp only [stp]; rw [if_pos hv]) hc)
      have e1 : 1 + (cnt e a + cnt e c) = cnt e a + (cnt e c + 1) := by omega
      rw [e1]
      exact h3
    · rw [if_neg hv, if_neg hv]
      have h3 := h1.trans (.succ (q := sub ρ b) (by simp only [stp]; rw [if_neg hv]) hb)
      have e1 : 1 + (cnt e a + cnt e b) = cnt e a + (cnt e b + 1) := by omega
      rw [e1]
      exact h3
theorem steps_val (p : Pc) (na : NoAsk p) (h : Told p fun _ => False) (e : Str → Int) : StepsN fg (cnt e p) p (.num (val e p)) := by
  have := steps_cnt (fg := fg) p (fun _ => none) e na (h.imp fun _ z => z.elim)
  rw [sub_none] at this
  exact this
theorem val_num : ∀ (p : Pc) (e : Str → Int), Gd p → NoAsk p → Told p (fun x => Num (e x)) → Num (val e p)
  | .num n, _, g, _, _ => g
  | .name x, e, _, _, h => h
  | .sum a b, e, g, na, h => by
    have h1 := val_num a e g.1 na.1 h.1
    have h2 := val_num b e g.2 na.2 h.2
    exact ⟨Int.emod_nonneg _ (by decide), by have := Int.emod_lt_of_pos (val e a + val e b) (by decide : (0 : Int) < 1000); unfold val; omega⟩
  | .let_ x a b, e, g, na, h => by
    have h1 := val_num a e g.1 na.1 h.1
    refine val_num b _ g.2 na.2 (h.2.imp fun y z => ?_)
    unfold up
    by_cases hy : y = x
    · rw [if_pos hy]; exact h1
    · rw [if_neg hy]; exact z.resolve_left hy
  | .choose a b c, e, g, na, h => by
    unfold val
    split
    · exact val_num c e g.2.2 na.2.2 h.2.2
    · exact val_num b e g.2.1 na.2.1 h.2.1
  | .ask _ _, _, _, na, _ => na.elim
  | .hand _ _ _ _, _, _, na, _ => na.elim
end
end Th
namespace My
open PySem L2 Evl Ask
theorem atI_int {α : Type} (xs : List α) (k : Nat) : atI xs (k : Int) = xs[k]? := by
  unfold atI ixN
  by_cases h : k < xs.length
  · rw [if_pos (by omega), if_pos (by omega)]
    simp
  · rw [if_pos (by omega), if_neg (by omega)]
    simp
    omega
theorem ix_tup (ds : List D) (i : Int) : D.ix (.tup ds) (.int i) = atI ds i := rfl
theorem ix_lst (ds : List D) (i : Int) : D.ix (.lst ds) (.int i) = atI ds i := rfl
theorem atI_2 {α : Type} (xs : List α) : atI xs 2 = xs[2]? := atI_int xs 2
theorem atI_3 {α : Type} (xs : List α) : atI xs 3 = xs[3]? := atI_int xs 3
theorem atI_4 {α : Type} (xs : List α) : atI xs 4 = xs[4]? := atI_int xs 4
theorem atI_0 {α : Type} (xs : List α) : atI xs 0 = xs[0]? := atI_int xs 0
theorem atI_1 {α : Type} (xs : List α) : atI xs 1 = xs[1]? := atI_int xs 1
open Th (Pc) in
def toD : Pc → D
  | .num n => .tup [.str "num", .int n]
  | .name x => .tup [.str "name", .str x]
  | .sum a b => .tup [.str "sum", toD a, toD b]
  | .let_ x a b => .tup [.str "let", .str x, toD a, toD b]
  | .choose a b c => .tup [.str "choose", toD a, toD b, toD c]
  | .ask k a => .tup [.str "ask", .str k, toD a]
  | .hand k x a b => .tup [.str "hand", .str k, .str x, toD a, toD b]
theorem noK_pc : ∀ p : Th.Pc, noK (toD p) = true
  | .num _ => rfl
  | .name _ => rfl
  | .sum a b => by simp only [toD, noK, noKs, noK_pc a, noK_pc b, Bool.and_self]
  | .let_ _ a b => by simp only [toD, noK, noKs, noK_pc a, noK_pc b, Bool.and_self]
  | .choose a b c => by simp only [toD, noK, noKs, noK_pc a, noK_pc b, noK_pc c, Bool.and_self]
  | .ask _ a => by simp only [toD, noK, noKs, noK_pc a, Bool.and_self]
  | .hand _ _ a b => by simp only [toD, noK, noKs, noK_pc a, noK_pc b, Bool.and_self]
def GoodN (x : Str) : Prop := 1 ≤ x.length ∧ x.length ≤ 8 ∧ ∀ c ∈ x.cps.toList, 97 ≤ c ∧ c ≤ 122
theorem kit_str_str : kitB "str" "str" = some true := by decide +kernel
theorem kit_int_str : kitB "int" "str" = some false := by decide +kernel
theorem kit_int_int : kitB "int" "int" = some true := by decide +kernel
theorem kit_int_bool : kitB "int" "bool" = some false := by decide +kernel
theorem kit_str_int : kitB "str" "int" = some false := by decide +kernel
theorem kit_bool_int : kitB "bool" "int" = some true := by decide +kernel
theorem kit_bool_bool : kitB "bool" "bool" = some true := by decide +kernel
theorem flats_str : ∀ (l : List Str), flats (l.map D.str) = some (l.map V.str)
  | [] => rfl
  | a :: r => by simp only [List.map_cons, flats, D.flat, flats_str r]
theorem inV_str (x : Str) : ∀ (l : List Str), inV (.str x) (l.map V.str) = l.contains x
  | [] => rfl
  | a :: r => by
    have ih := inV_str x r
    unfold inV at ih ⊢
    rw [List.map_cons, List.any_cons, ih, List.contains_cons]
    congr 1
    show (a == x) = (x == a)
    exact BEq.comm
theorem str_len_app (a b : Str) : (a ++ b).length = a.length + b.length := by
  show (a.cps ++ b.cps).size = _
  rw [Array.size_append]
  rfl
theorem for_rt {it : Sl → R (List D)} {b : D → Sl → Option Sl} {body rest : Sl → O} {env : Sl} {ds : List D} {d : D} (h1 : it env = .ok ds) (h2 : forGo b body ds env = .rt d) : seqM (Ask.forM it b body) rest env = .rt d := by
  unfold seqM Ask.forM
  rw [h1]
  simp only [toO]
  rw [h2]
theorem for_nx {it : Sl → R (List D)} {b : D → Sl → Option Sl} {body rest : Sl → O} {env e : Sl} {ds : List D} (h1 : it env = .ok ds) (h2 : forGo b body ds env = .nx e) : seqM (Ask.forM it b body) rest env = rest e := by
  unfold seqM Ask.forM
  rw [h1]
  simp only [toO]
  rw [h2]
theorem fn_rt {n nl : Nat} {body : Sl → O} {ds : List D} {d : D} (hn : ds.length = n) (h : body (ds.map some ++ List.replicate nl none) = .rt d) : fnM n nl body ds = .ok d := by
  unfold fnM
  rw [if_pos hn, h]
end My
namespace My
open PySem L2 Evl Ask
/-! what the module holds -/
def top (i : Nat) : Stmt := PySem.Challenge.pw_askmark_k05_steps_without_asks.main.body.getD i (.Pass ⟨0, 0, 0, 0⟩)
def t_FORMS : List (Str × D) := [("num", .ktup [.str "number"]), ("name", .ktup [.str "name"]), ("sum", .ktup [.str "piece", .str "piece"]), ("let", .ktup [.str "name", .str "piece", .str "piece"]), ("choose", .ktup [.str "piece", .str "piece", .str "piece"]), ("ask", .ktup [.str "kind", .str "piece"]), ("hand", .ktup [.str "kind", .str "name", .str "piece", .str "piece"])]
def c_LARGEST_NUMBER : D := .int 999
def t_WORKED_OUT : List (Str × D) := [("num", .ktup []), ("name", .ktup []), ("sum", .ktup [.int 1, .int 2]), ("let", .ktup [.int 2]), ("choose", .ktup [.int 1]), ("ask", .ktup [.int 2]), ("hand", .ktup [.int 4])]
structure Tx (K : PySem.W.Frag) (mg : Str → Option Value) (w : World) where
  n_all : mg "all" = none
  n_bool : mg "bool" = none
  n_dict : mg "dict" = none
  n_enumerate : mg "enumerate" = none
  n_int : mg "int" = none
  n_isinstance : mg "isinstance" = none
  n_len : mg "len" = none
  n_list : mg "list" = none
  n_max : mg "max" = none
  n_range : mg "range" = none
  n_reversed : mg "reversed" = none
  n_str : mg "str" = none
  n_tuple : mg "tuple" = none
  n_zip : mg "zip" = none
  h_FORMS : ∃ (d : Addr) (es : Array DictEntry) (n : Nat), mg "FORMS" = some (.ref d) ∧ KDict K w d es n ∧ EsT K es.toList t_FORMS
  h_LARGEST_NUMBER : ∃ t, mg "LARGEST_NUMBER" = some (.int 999 t)
  h_WORKED_OUT : ∃ (d : Addr) (es : Array DictEntry) (n : Nat), mg "WORKED_OUT" = some (.ref d) ∧ KDict K w d es n ∧ EsT K es.toList t_WORKED_OUT
theorem Tx.ix_FORMS {K : PySem.W.Frag} {mg : Str → Option Value} {w : World} (T : Tx K mg w) {X : Cx} {W : WX} {e : Expr} {px pos : Pos} {ma : Sl → R D} (hg : Gl X "FORMS") (he : ME X W e ma) (hs : PlainIx e) (h1 : X.mg = mg := by rfl) (h2 : X.K = K := by rfl) (h3 : X.w = w := by rfl) : ME X W (.Subscript (.Name "FORMS" px) e pos) (kixM t_FORMS ma) := by
  subst h1 h2 h3
  obtain ⟨d, es, n, hm, kd, et⟩ := T.h_FORMS
  exact me_kix kd et hg hm he hs
theorem Tx.get_FORMS {K : PySem.W.Frag} {mg : Str → Option Value} {w : World} (T : Tx K mg w) {X : Cx} {W : WX} {e : Expr} {px apos cpos : Pos} {ma : Sl → R D} (hg : Gl X "FORMS") (he : ME X W e ma) (m : M1 X (.Name "FORMS" px) "get" apos e cpos) (h1 : X.mg = mg := by rfl) (h2 : X.K = K := by rfl) (h3 : X.w = w := by rfl) : ME X W (.Call (.Attribute (.Name "FORMS" px) "get" apos) [e] [] cpos) (kgetM t_FORMS ma) := by
  subst h1 h2 h3
  obtain ⟨d, es, n, hm, kd, et⟩ := T.h_FORMS
  exact me_kget kd et hg hm he m
theorem Tx.e_LARGEST_NUMBER {K : PySem.W.Frag} {mg : Str → Option Value} {w : World} (T : Tx K mg w) {X : Cx} {W : WX} {pos : Pos} (hg : Gl X "LARGEST_NUMBER") (h1 : X.mg = mg := by rfl) (h2 : X.K = K := by rfl) : ME X W (.Name "LARGEST_NUMBER" pos) (cM c_LARGEST_NUMBER) := by
  subst h1 h2
  obtain ⟨t, hm⟩ := T.h_LARGEST_NUMBER
  exact me_glob (v := .int 999) hg hm ⟨t, rfl⟩ fun _ _ => .int _
theorem Tx.ix_WORKED_OUT {K : PySem.W.Frag} {mg : Str → Option Value} {w : World} (T : Tx K mg w) {X : Cx} {W : WX} {e : Expr} {px pos : Pos} {ma : Sl → R D} (hg : Gl X "WORKED_OUT") (he : ME X W e ma) (hs : PlainIx e) (h1 : X.mg = mg := by rfl) (h2 : X.K = K := by rfl) (h3 : X.w = w := by rfl) : ME X W (.Subscript (.Name "WORKED_OUT" px) e pos) (kixM t_WORKED_OUT ma) := by
  subst h1 h2 h3
  obtain ⟨d, es, n, hm, kd, et⟩ := T.h_WORKED_OUT
  exact me_kix kd et hg hm he hs
theorem Tx.get_WORKED_OUT {K : PySem.W.Frag} {mg : Str → Option Value} {w : World} (T : Tx K mg w) {X : Cx} {W : WX} {e : Expr} {px apos cpos : Pos} {ma : Sl → R D} (hg : Gl X "WORKED_OUT") (he : ME X W e ma) (m : M1 X (.Name "WORKED_OUT" px) "get" apos e cpos) (h1 : X.mg = mg := by rfl) (h2 : X.K = K := by rfl) (h3 : X.w = w := by rfl) : ME X W (.Call (.Attribute (.Name "WORKED_OUT" px) "get" apos) [e] [] cpos) (kgetM t_WORKED_OUT ma) := by
  subst h1 h2 h3
  obtain ⟨d, es, n, hm, kd, et⟩ := T.h_WORKED_OUT
  exact me_kget kd et hg hm he m
/-! l_names -/
abbrev s_l_names : Stmt := top 23
theorem sc_l_names : FnScope ["_law_cell", "_law_letters", "_law_some", "_law_size", "_law_tail", "_law_k", "_law_word", "_law_place", "_law_j"] ["_law_cell"] (defScope s_l_names) := ⟨rfl, rfl, rfl, by decide +kernel, rfl, by decide +kernel, by decide +kernel⟩
noncomputable def le_l_names_0 : Sl → R D :=
  (op2 D.ix (varM 1) (op2 D.mod (op2 D.add (op2 D.fdiv (varM 0) (cM (.int 128))) (op2 D.mul (cM (.int 11)) (varM 8))) (cM (.int 26))))
noncomputable def lb_l_names_1 : Sl → O :=
  (asgMo [2] 6 (op2 D.add (varM 6) (op2 D.ix (varM 1) (op2 D.mod (op2 D.add (op2 D.add (op2 D.fdiv (varM 0) (cM (.int 7))) (op2 D.mul (cM (.int 11)) (varM 8))) (varM 5)) (cM (.int 26))))))
noncomputable def lb_l_names_2 : Sl → O :=
  (seqM (asgMo [2] 6 (op2 D.ix (varM 1) (op2 D.mod (op2 D.add (op2 D.fdiv (varM 0) (cM (.int 128))) (op2 D.mul (cM (.int 5)) (varM 5))) (cM (.int 26)))))
  (seqM (ifSo [2] (asB (op2 D.eq (op2 D.mod (varM 0) (cM (.int 3))) (cM (.int 1))))
  (seqM (asgMo [2] 7 (op2 D.mod (op2 D.fdiv (varM 0) (cM (.int 24))) (varM 3)))
  (asgMo [2] 6 (op2 D.add (op2 D.add (slM (varM 4) noM (someM (varM 7))) (varM 6)) (slM (varM 4) (someM (op2 D.add (varM 7) (cM (.int 1)))) (someM (varM 3))))))
  (ifSo [2] (asB (op2 D.eq (op2 D.mod (varM 0) (cM (.int 3))) (cM (.int 2))))
  (asgMo [2] 6 (slM (varM 4) noM (someM (op2 D.add (op2 D.add (cM (.int 1)) (varM 5)) (op2 D.mod (op2 D.fdiv (varM 0) (cM (.int 24))) (cM (.int 5)))))))
  (forMo [2] (rngM (consA (op2 D.mod (op2 D.add (op2 D.fdiv (varM 0) (cM (.int 26))) (op2 D.mul (cM (.int 3)) (varM 5))) (cM (.int 8))) nilA)) (tgN 8)
  lb_l_names_1)))
  (appMo [2] 2 (varM 6))))
noncomputable def b_l_names : Sl → O :=
  (seqM (asgMo [2] 1 (cM (.str "abcdefghijklmnopqrstuvwxyz")))
  (seqM (newMo 2)
  (seqM (asgMo [2] 3 (op2 D.add (cM (.int 1)) (op2 D.mod (op2 D.fdiv (varM 0) (cM (.int 3))) (cM (.int 8)))))
  (seqM (asgMo [2] 4 (joinM (cM (.str "")) (lcM (rngM (consA (cM (.int 8)) nilA)) [8] (tgN 8) yesM le_l_names_0)))
  (seqM (forMo [2] (rngM (consA (cM (.int 4)) nilA)) (tgN 5)
  lb_l_names_2)
  (retOwn 2))))))
noncomputable def m_l_names : List D → R D := fnM 1 8 b_l_names
theorem ok_l_names {P : Program} {w : World} {K : PySem.W.Frag} {mg : Str → Option Value} {base : Heap} (T : Tx K mg w) {f : Addr} {fd : FuncData} (F : Fun K "_law_names" "_law_names" s_l_names f fd) (hm : mg "_law_names" = some (.ref f))  : FnI P w K mg base "_law_names" 1 1 m_l_names :=
  fn_oko (ow := [2]) F sc_l_names rfl rfl hm (fun _ _ _ _ _ _ us hl => match us, hl with | [_], _ => rfl) (by decide) (fun cdv A outer s H E hr =>
  (msso_cons (mso_set 1 (by decide) me_str sc_l_names.nd)
  (msso_cons (mso_new 2 (by decide) sc_l_names.nd)
  (msso_cons (mso_set 3 (by decide) (me_op om_add me_int (me_op om_mod (me_op om_fdiv (me_var 0) me_int) me_int)) sc_l_names.nd)
  (msso_cons (mso_set 4 (by decide) (me_join me_str (me_lc 8 rfl sc_l_names.nd (mi_range rfl T.n_range (ma_cons me_int ma_nil)) (blkOk_by (N := ["_law_cell", "_law_letters", "_law_some", "_law_size", "_law_tail", "_law_k", "_law_word", "_law_place", "_law_j"]) (sc := defScope s_l_names) (by decide +kernel)) (fun _ _ _ _ _ => pg_name (i := 8) sc_l_names.nd rfl (Or.inl rfl))  (fun _ _ _ _ _ => (me_ix (me_var 1) (me_op om_mod (me_op om_add (me_op om_fdiv (me_var 0) me_int) (me_op om_mul me_int (me_var 8))) me_int))))) sc_l_names.nd)
  (msso_cons (mso_for (passes_of rfl) rfl (mi_range rfl T.n_range (ma_cons me_int ma_nil)) (mgo_name 5 (by decide) sc_l_names.nd)
  (msso_cons (mso_set 6 (by decide) (me_ix (me_var 1) (me_op om_mod (me_op om_add (me_op om_fdiv (me_var 0) me_int) (me_op om_mul me_int (me_var 5))) me_int)) sc_l_names.nd)
  (msso_cons (mso_if (mt_cmp om_eq (me_op om_mod (me_var 0) me_int) me_int (nomark _))
  (msso_cons (mso_set 7 (by decide) (me_op om_mod (me_op om_fdiv (me_var 0) me_int) (me_var 3)) sc_l_names.nd)
  (msso_one (mso_set 6 (by decide) (me_op om_add (me_op om_add (me_sl (me_var 4) mo_none (mo_some (me_var 7))) (me_var 6)) (me_sl (me_var 4) (mo_some (me_op om_add (me_var 7) me_int)) (mo_some (me_var 3)))) sc_l_names.nd)))
  (msso_one (mso_if (mt_cmp om_eq (me_op om_mod (me_var 0) me_int) me_int (nomark _))
  (msso_one (mso_set 6 (by decide) (me_sl (me_var 4) mo_none (mo_some (me_op om_add (me_op om_add me_int (me_var 5)) (me_op om_mod (me_op om_fdiv (me_var 0) me_int) me_int)))) sc_l_names.nd))
  (msso_one (mso_for (passes_of rfl) rfl (mi_range rfl T.n_range (ma_cons (me_op om_mod (me_op om_add (me_op om_fdiv (me_var 0) me_int) (me_op om_mul me_int (me_var 5))) me_int) ma_nil)) (mgo_name 8 (by decide) sc_l_names.nd)
  (msso_one (mso_set 6 (by decide) (me_op om_add (me_var 6) (me_ix (me_var 1) (me_op om_mod (me_op om_add (me_op om_add (me_op om_fdiv (me_var 0) me_int) (me_op om_mul me_int (me_var 8))) (me_var 5)) me_int))) sc_l_names.nd)))))))
  (msso_one (mso_app 2 (by decide) (me_var 6))))))
  (msso_one (mso_retOwn 2 (by decide)))))))))
/-! l_made -/
abbrev s_l_made : Stmt := top 25
theorem sc_l_made : FnScope ["_law_way", "_law_rest", "_law_parts_here", "_law_names_here", "_law_name", "_law_kinds", "_law_kind"] ["_law_way", "_law_rest", "_law_parts_here", "_law_names_here"] (defScope s_l_made) := ⟨rfl, rfl, rfl, by decide +kernel, rfl, by decide +kernel, by decide +kernel⟩
noncomputable def b_l_made : Sl → O :=
  (seqM (asgM 4 (op2 D.ix (varM 3) (op2 D.mod (varM 1) (cM (.int 4)))))
  (seqM (asgM 5 (op2 D.ix (lstM (consA (lstM (consA (cM (.str "line")) (consA (cM (.str "coin")) (consA (cM (.str "line")) (consA (cM (.str "coin")) (consA (cM (.str "fail")) nilA)))))) (consA (lstM (consA (cM (.str "fail")) (consA (cM (.str "line")) (consA (cM (.str "fail")) nilA)))) (consA (lstM (consA (cM (.str "coin")) nilA)) nilA)))) (op2 D.mod (cbM bLen (consA (op2 D.ix (varM 3) (cM (.int 0))) nilA)) (cM (.int 3)))))
  (seqM (asgM 6 (op2 D.ix (varM 5) (op2 D.mod (op2 D.fdiv (varM 1) (cM (.int 4))) (cbM bLen (consA (varM 5) nilA)))))
  (seqM (ifS (asB (op2 D.lt (varM 0) (cM (.int 2))))
  (retM (tupM (consA (cM (.str "sum")) (consA (op2 D.ix (varM 2) (cM (.int 0))) (consA (op2 D.ix (varM 2) (cM (.int 1))) nilA)))))
  nextM)
  (seqM (ifS (asB (op2 D.lt (varM 0) (cM (.int 4))))
  (retM (tupM (consA (cM (.str "let")) (consA (varM 4) (consA (op2 D.ix (varM 2) (cM (.int 0))) (consA (op2 D.ix (varM 2) (cM (.int 1))) nilA))))))
  nextM)
  (seqM (ifS (asB (op2 D.lt (varM 0) (cM (.int 5))))
  (retM (tupM (consA (cM (.str "choose")) (consA (op2 D.ix (varM 2) (cM (.int 0))) (consA (op2 D.ix (varM 2) (cM (.int 1))) (consA (op2 D.ix (varM 2) (cM (.int 2))) nilA))))))
  nextM)
  (seqM (ifS (asB (op2 D.lt (varM 0) (cM (.int 9))))
  (retM (tupM (consA (cM (.str "ask")) (consA (varM 6) (consA (op2 D.ix (varM 2) (cM (.int 0))) nilA)))))
  nextM)
  (retM (tupM (consA (cM (.str "hand")) (consA (varM 6) (consA (varM 4) (consA (op2 D.ix (varM 2) (cM (.int 0))) (consA (op2 D.ix (varM 2) (cM (.int 1))) nilA))))))))))))))
noncomputable def m_l_made : List D → R D := fnM 4 3 b_l_made
theorem ok_l_made {P : Program} {w : World} {K : PySem.W.Frag} {mg : Str → Option Value} {base : Heap} (T : Tx K mg w) {f : Addr} {fd : FuncData} (F : Fun K "_law_made" "_law_made" s_l_made f fd) (hm : mg "_law_made" = some (.ref f))  : FnI P w K mg base "_law_made" 1 4 m_l_made :=
  fn_ok F sc_l_made rfl rfl hm (fun _ _ _ _ _ _ us hl => match us, hl with | [_, _, _, _], _ => rfl) (fun cdv A outer s H E hr =>
  (mss_cons (ms_set 4 (me_ix (me_var 3) (me_op om_mod (me_var 1) me_int)) sc_l_made.nd)
  (mss_cons (ms_set 5 (me_ix (me_lst (ma_cons (me_lst (ma_cons me_str (ma_cons me_str (ma_cons me_str (ma_cons me_str (ma_cons me_str ma_nil)))))) (ma_cons (me_lst (ma_cons me_str (ma_cons me_str (ma_cons me_str ma_nil)))) (ma_cons (me_lst (ma_cons me_str ma_nil)) ma_nil)))) (me_op om_mod (me_cb cb_len rfl T.n_len PySem.boot_len (ma_cons (me_ix (me_var 3) me_int) ma_nil)) me_int)) sc_l_made.nd)
  (mss_cons (ms_set 6 (me_ix (me_var 5) (me_op om_mod (me_op om_fdiv (me_var 1) me_int) (me_cb cb_len rfl T.n_len PySem.boot_len (ma_cons (me_var 5) ma_nil)))) sc_l_made.nd)
  (mss_cons (ms_if (mt_cmp om_lt (me_var 0) me_int (nomark _))
  (mss_one (ms_ret (me_tup (ma_cons me_str (ma_cons (me_ix (me_var 2) me_int) (ma_cons (me_ix (me_var 2) me_int) ma_nil))))))
  mss_nil)
  (mss_cons (ms_if (mt_cmp om_lt (me_var 0) me_int (nomark _))
  (mss_one (ms_ret (me_tup (ma_cons me_str (ma_cons (me_var 4) (ma_cons (me_ix (me_var 2) me_int) (ma_cons (me_ix (me_var 2) me_int) ma_nil)))))))
  mss_nil)
  (mss_cons (ms_if (mt_cmp om_lt (me_var 0) me_int (nomark _))
  (mss_one (ms_ret (me_tup (ma_cons me_str (ma_cons (me_ix (me_var 2) me_int) (ma_cons (me_ix (me_var 2) me_int) (ma_cons (me_ix (me_var 2) me_int) ma_nil)))))))
  mss_nil)
  (mss_cons (ms_if (mt_cmp om_lt (me_var 0) me_int (nomark _))
  (mss_one (ms_ret (me_tup (ma_cons me_str (ma_cons (me_var 6) (ma_cons (me_ix (me_var 2) me_int) ma_nil))))))
  mss_nil)
  (mss_one (ms_ret (me_tup (ma_cons me_str (ma_cons (me_var 6) (ma_cons (me_var 4) (ma_cons (me_ix (me_var 2) me_int) (ma_cons (me_ix (me_var 2) me_int) ma_nil))))))))))))))))
/-! l_leaf -/
abbrev s_l_leaf : Stmt := top 24
theorem sc_l_leaf : FnScope ["_law_number", "_law_names_here"] ["_law_number", "_law_names_here"] (defScope s_l_leaf) := ⟨rfl, rfl, rfl, by decide +kernel, rfl, by decide +kernel, by decide +kernel⟩
noncomputable def b_l_leaf : Sl → O :=
  (seqM (ifS (asB (op2 D.eq (op2 D.mod (varM 0) (cM (.int 2))) (cM (.int 0))))
  (retM (tupM (consA (cM (.str "name")) (consA (op2 D.ix (varM 1) (op2 D.mod (op2 D.fdiv (varM 0) (cM (.int 2))) (cM (.int 4)))) nilA))))
  nextM)
  (retM (tupM (consA (cM (.str "num")) (consA (op2 D.ix (lstM (consA (cM (.int 0)) (consA (cM (.int 1)) (consA (cM (.int 2)) (consA (cM (.int 999)) (consA (op2 D.mod (op2 D.fdiv (varM 0) (cM (.int 14))) (cM (.int 1000))) (consA (cM (.int 0)) (consA (op2 D.mod (op2 D.fdiv (varM 0) (cM (.int 14))) (cM (.int 5))) nilA)))))))) (op2 D.mod (op2 D.fdiv (varM 0) (cM (.int 2))) (cM (.int 7)))) nilA)))))
noncomputable def m_l_leaf : List D → R D := fnM 2 0 b_l_leaf
theorem ok_l_leaf {P : Program} {w : World} {K : PySem.W.Frag} {mg : Str → Option Value} {base : Heap} (T : Tx K mg w) {f : Addr} {fd : FuncData} (F : Fun K "_law_leaf" "_law_leaf" s_l_leaf f fd) (hm : mg "_law_leaf" = some (.ref f))  : FnI P w K mg base "_law_leaf" 1 2 m_l_leaf :=
  fn_ok F sc_l_leaf rfl rfl hm (fun _ _ _ _ _ _ us hl => match us, hl with | [_, _], _ => rfl) (fun cdv A outer s H E hr =>
  (mss_cons (ms_if (mt_cmp om_eq (me_op om_mod (me_var 0) me_int) me_int (nomark _))
  (mss_one (ms_ret (me_tup (ma_cons me_str (ma_cons (me_ix (me_var 1) (me_op om_mod (me_op om_fdiv (me_var 0) me_int) me_int)) ma_nil)))))
  mss_nil)
  (mss_one (ms_ret (me_tup (ma_cons me_str (ma_cons (me_ix (me_lst (ma_cons me_int (ma_cons me_int (ma_cons me_int (ma_cons me_int (ma_cons (me_op om_mod (me_op om_fdiv (me_var 0) me_int) me_int) (ma_cons me_int (ma_cons (me_op om_mod (me_op om_fdiv (me_var 0) me_int) me_int) ma_nil)))))))) (me_op om_mod (me_op om_fdiv (me_var 0) me_int) me_int)) ma_nil)))))))
/-! l_put -/
abbrev s_l_put : Stmt := top 26
theorem sc_l_put : FnScope ["_law_stack", "_law_number", "_law_names_here", "_law_ways", "_law_way", "_law_rest", "_law_many", "_law_taken", "_law_piece_here", "_law_part"] ["_law_stack", "_law_number", "_law_names_here", "_law_ways"] (defScope s_l_put) := ⟨rfl, rfl, rfl, by decide +kernel, rfl, by decide +kernel, by decide +kernel⟩
noncomputable def le_l_put_0 : Sl → R D :=
  (op2 D.ix (varM 9) (cM (.int 1)))
noncomputable def le_l_put_1 : Sl → R D :=
  (op2 D.ix (varM 9) (cM (.int 0)))
noncomputable def le_l_put_2 : Sl → R D :=
  (op2 D.ix (varM 9) (cM (.int 1)))
noncomputable def b_l_put : Sl → O :=
  (seqM (asgM 4 (op2 D.mod (varM 1) (cM (.int 17))))
  (seqM (asgM 5 (op2 D.fdiv (varM 1) (cM (.int 17))))
  (seqM (ifS (asB (op2 D.ge (varM 4) (varM 3)))
  (asgM 4 (op2 D.mod (varM 4) (cM (.int 5))))
  nextM)
  (seqM (asgM 6 (op2 D.ix (lstM (consA (cM (.int 2)) (consA (cM (.int 2)) (consA (cM (.int 2)) (consA (cM (.int 2)) (consA (cM (.int 3)) (consA (cM (.int 1)) (consA (cM (.int 1)) (consA (cM (.int 1)) (consA (cM (.int 1)) (consA (cM (.int 2)) (consA (cM (.int 2)) (consA (cM (.int 2)) (consA (cM (.int 2)) (consA (cM (.int 99)) (consA (cM (.int 99)) (consA (cM (.int 99)) (consA (cM (.int 99)) nilA)))))))))))))))))) (varM 4)))
  (seqM (ifS (orB (asB (op2 D.gt (varM 6) (cbM bLen (consA (varM 0) nilA)))) (asB (op2 D.gt (cbM bMax (consA (lcM (itM (slM (varM 0) (someM (op2 D.sub (cbM bLen (consA (varM 0) nilA)) (varM 6))) noM)) [9] (tgN 9) yesM le_l_put_0) nilA)) (cM (.int 13)))))
  (retM (op2 D.add (varM 0) (lstM (consA (tupM (consA (callM 2 m_l_leaf (consA (varM 5) (consA (varM 2) nilA))) (consA (cM (.int 1)) nilA))) nilA))))
  nextM)
  (seqM (asgM 7 (slM (varM 0) (someM (op2 D.sub (cbM bLen (consA (varM 0) nilA)) (varM 6))) noM))
  (seqM (asgM 8 (callM 4 m_l_made (consA (varM 4) (consA (varM 5) (consA (lcM (itM (varM 7)) [9] (tgN 9) yesM le_l_put_1) (consA (varM 2) nilA))))))
  (retM (op2 D.add (slM (varM 0) noM (someM (op2 D.sub (cbM bLen (consA (varM 0) nilA)) (varM 6)))) (lstM (consA (tupM (consA (varM 8) (consA (op2 D.add (cM (.int 1)) (cbM bMax (consA (lcM (itM (varM 7)) [9] (tgN 9) yesM le_l_put_2) nilA))) nilA))) nilA)))))))))))
noncomputable def m_l_put : List D → R D := fnM 4 6 b_l_put
theorem ok_l_put {P : Program} {w : World} {K : PySem.W.Frag} {mg : Str → Option Value} {base : Heap} (T : Tx K mg w) {f : Addr} {fd : FuncData} (F : Fun K "_law_put" "_law_put" s_l_put f fd) (hm : mg "_law_put" = some (.ref f)) (G_l_made : FnI P w K mg base "_law_made" 1 4 m_l_made) (G_l_leaf : FnI P w K mg base "_law_leaf" 1 2 m_l_leaf) : FnI P w K mg base "_law_put" 2 4 m_l_put :=
  fn_ok F sc_l_put rfl rfl hm (fun _ _ _ _ _ _ us hl => match us, hl with | [_, _, _, _], _ => rfl) (fun cdv A outer s H E hr =>
  (mss_cons (ms_set 4 (me_op om_mod (me_var 1) me_int) sc_l_put.nd)
  (mss_cons (ms_set 5 (me_op om_fdiv (me_var 1) me_int) sc_l_put.nd)
  (mss_cons (ms_if (mt_cmp om_ge (me_var 4) (me_var 3) (nomark _))
  (mss_one (ms_set 4 (me_op om_mod (me_var 4) me_int) sc_l_put.nd))
  mss_nil)
  (mss_cons (ms_set 6 (me_ix (me_lst (ma_cons me_int (ma_cons me_int (ma_cons me_int (ma_cons me_int (ma_cons me_int (ma_cons me_int (ma_cons me_int (ma_cons me_int (ma_cons me_int (ma_cons me_int (ma_cons me_int (ma_cons me_int (ma_cons me_int (ma_cons me_int (ma_cons me_int (ma_cons me_int (ma_cons me_int ma_nil)))))))))))))))))) (me_var 4)) sc_l_put.nd)
  (mss_cons (ms_if (MW.mt (mw_or (mt_cmp om_gt (me_var 6) (me_cb cb_len rfl T.n_len PySem.boot_len (ma_cons (me_var 0) ma_nil)) (nomark _)) (mw_or1 (mt_cmp om_gt (me_cb (cb_max rfl) rfl T.n_max (by decide +kernel) (ma_cons (me_lc 9 rfl sc_l_put.nd (mi_any (me_sl (me_var 0) (mo_some (me_op om_sub (me_cb cb_len rfl T.n_len PySem.boot_len (ma_cons (me_var 0) ma_nil)) (me_var 6))) mo_none)) (blkOk_by (N := ["_law_stack", "_law_number", "_law_names_here", "_law_ways", "_law_way", "_law_rest", "_law_many", "_law_taken", "_law_piece_here", "_law_part"]) (sc := defScope s_l_put) (by decide +kernel)) (fun _ _ _ _ _ => pg_name (i := 9) sc_l_put.nd rfl (Or.inl rfl))  (fun _ _ _ _ _ => (me_ix (me_var 9) me_int))) ma_nil)) me_int (nomark _)))))
  (mss_one (ms_ret (me_op om_add (me_var 0) (me_lst (ma_cons (me_tup (ma_cons (me_call (G_l_leaf.mono (by decide)) hr (passW_of (takes_of rfl rfl rfl rfl)) rfl (ma_cons (me_var 5) (ma_cons (me_var 2) ma_nil))) (ma_cons me_int ma_nil))) ma_nil)))))
  mss_nil)
  (mss_cons (ms_set 7 (me_sl (me_var 0) (mo_some (me_op om_sub (me_cb cb_len rfl T.n_len PySem.boot_len (ma_cons (me_var 0) ma_nil)) (me_var 6))) mo_none) sc_l_put.nd)
  (mss_cons (ms_set 8 (me_call (G_l_made.mono (by decide)) hr (passW_of (takes_of rfl rfl rfl rfl)) rfl (ma_cons (me_var 4) (ma_cons (me_var 5) (ma_cons (me_lc 9 rfl sc_l_put.nd (mi_any (me_var 7)) (blkOk_by (N := ["_law_stack", "_law_number", "_law_names_here", "_law_ways", "_law_way", "_law_rest", "_law_many", "_law_taken", "_law_piece_here", "_law_part"]) (sc := defScope s_l_put) (by decide +kernel)) (fun _ _ _ _ _ => pg_name (i := 9) sc_l_put.nd rfl (Or.inl rfl))  (fun _ _ _ _ _ => (me_ix (me_var 9) me_int))) (ma_cons (me_var 2) ma_nil))))) sc_l_put.nd)
  (mss_one (ms_ret (me_op om_add (me_sl (me_var 0) mo_none (mo_some (me_op om_sub (me_cb cb_len rfl T.n_len PySem.boot_len (ma_cons (me_var 0) ma_nil)) (me_var 6)))) (me_lst (ma_cons (me_tup (ma_cons (me_var 8) (ma_cons (me_op om_add me_int (me_cb (cb_max rfl) rfl T.n_max (by decide +kernel) (ma_cons (me_lc 9 rfl sc_l_put.nd (mi_any (me_var 7)) (blkOk_by (N := ["_law_stack", "_law_number", "_law_names_here", "_law_ways", "_law_way", "_law_rest", "_law_many", "_law_taken", "_law_piece_here", "_law_part"]) (sc := defScope s_l_put) (by decide +kernel)) (fun _ _ _ _ _ => pg_name (i := 9) sc_l_put.nd rfl (Or.inl rfl))  (fun _ _ _ _ _ => (me_ix (me_var 9) me_int))) ma_nil))) ma_nil))) ma_nil)))))))))))))
/-! l_mixed -/
abbrev s_l_mixed : Stmt := top 22
theorem sc_l_mixed : FnScope ["_law_cell", "_law_k", "_law_number"] ["_law_cell", "_law_k"] (defScope s_l_mixed) := ⟨rfl, rfl, rfl, by decide +kernel, rfl, by decide +kernel, by decide +kernel⟩
noncomputable def b_l_mixed : Sl → O :=
  (seqM (asgM 2 (op2 D.mod (op2 D.mul (op2 D.add (op2 D.add (varM 0) (op2 D.mul (cM (.int 7)) (varM 1))) (cM (.int 3))) (cM (.int 48271))) (cM (.int 2147483647))))
  (retM (op2 D.mod (op2 D.mul (varM 2) (varM 2)) (cM (.int 2147483647)))))
noncomputable def m_l_mixed : List D → R D := fnM 2 1 b_l_mixed
theorem ok_l_mixed {P : Program} {w : World} {K : PySem.W.Frag} {mg : Str → Option Value} {base : Heap} (T : Tx K mg w) {f : Addr} {fd : FuncData} (F : Fun K "_law_mixed" "_law_mixed" s_l_mixed f fd) (hm : mg "_law_mixed" = some (.ref f))  : FnI P w K mg base "_law_mixed" 1 2 m_l_mixed :=
  fn_ok F sc_l_mixed rfl rfl hm (fun _ _ _ _ _ _ us hl => match us, hl with | [_, _], _ => rfl) (fun cdv A outer s H E hr =>
  (mss_cons (ms_set 2 (me_op om_mod (me_op om_mul (me_op om_add (me_op om_add (me_var 0) (me_op om_mul me_int (me_var 1))) me_int) me_int) me_int) sc_l_mixed.nd)
  (mss_one (ms_ret (me_op om_mod (me_op om_mul (me_var 2) (me_var 2)) me_int)))))
/-! l_open_piece -/
abbrev s_l_open_piece : Stmt := top 27
theorem sc_l_open_piece : FnScope ["_law_cells", "_law_names_here", "_law_ways", "_law_stack", "_law_k", "_law_piece_here", "_law_part"] ["_law_cells", "_law_names_here", "_law_ways"] (defScope s_l_open_piece) := ⟨rfl, rfl, rfl, by decide +kernel, rfl, by decide +kernel, by decide +kernel⟩
noncomputable def lb_l_open_piece_0 : Sl → O :=
  (asgM 3 (callM 4 m_l_put (consA (varM 3) (consA (callM 2 m_l_mixed (consA (op2 D.ix (varM 0) (varM 4)) (consA (varM 4) nilA))) (consA (varM 1) (consA (varM 2) nilA))))))
noncomputable def lb_l_open_piece_1 : Sl → O :=
  (asgM 5 (tupM (consA (cM (.str "sum")) (consA (op2 D.ix (varM 6) (cM (.int 0))) (consA (varM 5) nilA)))))
noncomputable def b_l_open_piece : Sl → O :=
  (seqM (asgM 3 (lstM nilA))
  (seqM (forM (rngM (consA (cbM bLen (consA (varM 0) nilA)) nilA)) (tgN 4)
  lb_l_open_piece_0)
  (seqM (asgM 5 (tupM (consA (cM (.str "num")) (consA (cbM bLen (consA (varM 0) nilA)) nilA))))
  (seqM (forM (itM (slM (varM 3) (someM (negM (cM (.int 4)))) noM)) (tgN 6)
  lb_l_open_piece_1)
  (retM (varM 5))))))
noncomputable def m_l_open_piece : List D → R D := fnM 3 4 b_l_open_piece
theorem ok_l_open_piece {P : Program} {w : World} {K : PySem.W.Frag} {mg : Str → Option Value} {base : Heap} (T : Tx K mg w) {f : Addr} {fd : FuncData} (F : Fun K "_law_open_piece" "_law_open_piece" s_l_open_piece f fd) (hm : mg "_law_open_piece" = some (.ref f)) (G_l_put : FnI P w K mg base "_law_put" 2 4 m_l_put) (G_l_mixed : FnI P w K mg base "_law_mixed" 1 2 m_l_mixed) : FnI P w K mg base "_law_open_piece" 3 3 m_l_open_piece :=
  fn_ok F sc_l_open_piece rfl rfl hm (fun _ _ _ _ _ _ us hl => match us, hl with | [_, _, _], _ => rfl) (fun cdv A outer s H E hr =>
  (mss_cons (ms_set 3 (me_lst ma_nil) sc_l_open_piece.nd)
  (mss_cons (ms_for (passes_of rfl) rfl (mi_range rfl T.n_range (ma_cons (me_cb cb_len rfl T.n_len PySem.boot_len (ma_cons (me_var 0) ma_nil)) ma_nil)) (mg_name 4 sc_l_open_piece.nd)
  (mss_one (ms_set 3 (me_call (G_l_put.mono (by decide)) hr (passW_of (takes_of rfl rfl rfl rfl)) rfl (ma_cons (me_var 3) (ma_cons (me_call (G_l_mixed.mono (by decide)) hr (passW_of (takes_of rfl rfl rfl rfl)) rfl (ma_cons (me_ix (me_var 0) (me_var 4)) (ma_cons (me_var 4) ma_nil))) (ma_cons (me_var 1) (ma_cons (me_var 2) ma_nil))))) sc_l_open_piece.nd)))
  (mss_cons (ms_set 5 (me_tup (ma_cons me_str (ma_cons (me_cb cb_len rfl T.n_len PySem.boot_len (ma_cons (me_var 0) ma_nil)) ma_nil))) sc_l_open_piece.nd)
  (mss_cons (ms_for (passes_of rfl) rfl (mi_any (me_sl (me_var 3) (mo_some (me_neg me_int)) mo_none)) (mg_name 6 sc_l_open_piece.nd)
  (mss_one (ms_set 5 (me_tup (ma_cons me_str (ma_cons (me_ix (me_var 6) me_int) (ma_cons (me_var 5) ma_nil)))) sc_l_open_piece.nd)))
  (mss_one (ms_ret (me_var 5))))))))
/-! l_piece -/
abbrev s_l_piece : Stmt := top 28
theorem sc_l_piece : FnScope ["_law_cells", "_law_names_here", "_law_ways", "_law_piece_here", "_law_k"] ["_law_cells", "_law_names_here", "_law_ways"] (defScope s_l_piece) := ⟨rfl, rfl, rfl, by decide +kernel, rfl, by decide +kernel, by decide +kernel⟩
noncomputable def lb_l_piece_0 : Sl → O :=
  (asgM 3 (tupM (consA (cM (.str "let")) (consA (op2 D.ix (varM 1) (varM 4)) (consA (tupM (consA (cM (.str "num")) (consA (op2 D.mod (op2 D.add (cbM bLen (consA (varM 0) nilA)) (op2 D.mul (cM (.int 331)) (varM 4))) (cM (.int 1000))) nilA))) (consA (varM 3) nilA))))))
noncomputable def b_l_piece : Sl → O :=
  (seqM (asgM 3 (callM 3 m_l_open_piece (consA (varM 0) (consA (varM 1) (consA (varM 2) nilA)))))
  (seqM (forM (rngM (consA (cM (.int 4)) nilA)) (tgN 4)
  lb_l_piece_0)
  (retM (varM 3))))
noncomputable def m_l_piece : List D → R D := fnM 3 2 b_l_piece
theorem ok_l_piece {P : Program} {w : World} {K : PySem.W.Frag} {mg : Str → Option Value} {base : Heap} (T : Tx K mg w) {f : Addr} {fd : FuncData} (F : Fun K "_law_piece" "_law_piece" s_l_piece f fd) (hm : mg "_law_piece" = some (.ref f)) (G_l_open_piece : FnI P w K mg base "_law_open_piece" 3 3 m_l_open_piece) : FnI P w K mg base "_law_piece" 4 3 m_l_piece :=
  fn_ok F sc_l_piece rfl rfl hm (fun _ _ _ _ _ _ us hl => match us, hl with | [_, _, _], _ => rfl) (fun cdv A outer s H E hr =>
  (mss_cons (ms_set 3 (me_call (G_l_open_piece.mono (by decide)) hr (passW_of (takes_of rfl rfl rfl rfl)) rfl (ma_cons (me_var 0) (ma_cons (me_var 1) (ma_cons (me_var 2) ma_nil)))) sc_l_piece.nd)
  (mss_cons (ms_for (passes_of rfl) rfl (mi_range rfl T.n_range (ma_cons me_int ma_nil)) (mg_name 4 sc_l_piece.nd)
  (mss_one (ms_set 3 (me_tup (ma_cons me_str (ma_cons (me_ix (me_var 1) (me_var 4)) (ma_cons (me_tup (ma_cons me_str (ma_cons (me_op om_mod (me_op om_add (me_cb cb_len rfl T.n_len PySem.boot_len (ma_cons (me_var 0) ma_nil)) (me_op om_mul me_int (me_var 4))) me_int) ma_nil))) (ma_cons (me_var 3) ma_nil))))) sc_l_piece.nd)))
  (mss_one (ms_ret (me_var 3))))))
/-! l_went -/
abbrev s_l_went : Stmt := top 32
theorem sc_l_went : FnScope ["_law_piece_here", "_law_names_here", "_law_state", "_law_one", "_law_inner"] ["_law_piece_here", "_law_names_here", "_law_state"] (defScope s_l_went) := ⟨rfl, rfl, rfl, by decide +kernel, rfl, by decide +kernel, by decide +kernel⟩
abbrev sh_l_went : List Sh := [.pl, .pl, (.lst .pl), .pl, (.dct [])]
noncomputable def b_l_went (rec : D → List D → R (D × D)) : Sl → OQ :=
  (seqQ (ifQ (nH sh_l_went (asB (op2 D.eq (op2 D.ix (varM 0) (cM (.int 0))) (cM (.str "num")))))
  (retQ (qN (nH sh_l_went (op2 D.ix (varM 0) (cM (.int 1))))))
  nextQ)
  (seqQ (ifQ (nH sh_l_went (asB (op2 D.eq (op2 D.ix (varM 0) (cM (.int 0))) (cM (.str "name")))))
  (retQ (qN (nH sh_l_went (ixA (varM 1) (op2 D.ix (varM 0) (cM (.int 1)))))))
  nextQ)
  (seqQ (dropQ (qApp sh_l_went 2 (pl0 2) (nH sh_l_went (cM (.int 1)))))
  (seqQ (ifQ (nH sh_l_went (asB (op2 D.eq (op2 D.ix (varM 0) (cM (.int 0))) (cM (.str "let")))))
  (seqQ (asgQ 4 (qDict (nH sh_l_went (varM 1))))
  (seqQ (putQD sh_l_went 4 (pl0 4) (nH sh_l_went (op2 D.ix (varM 0) (cM (.int 1)))) (qCallO 2 2 rec (qCons (qN (nH sh_l_went (op2 D.ix (varM 0) (cM (.int 2))))) (qCons (qN (nH sh_l_went (varM 1))) (ownL 2)))))
  (retQ (qCallOV 2 2 rec (consV (op2 D.ix (varM 0) (cM (.int 3))) (consV (varM 4) nilV))))))
  nextQ)
  (seqQ (asgQ 3 (qCallO 2 2 rec (qCons (qN (nH sh_l_went (op2 D.ix (varM 0) (cM (.int 1))))) (qCons (qN (nH sh_l_went (varM 1))) (ownL 2)))))
  (seqQ (ifQ (nH sh_l_went (asB (op2 D.eq (op2 D.ix (varM 0) (cM (.int 0))) (cM (.str "choose")))))
  (retQ (qCallO 2 2 rec (qCons (qN (nH sh_l_went (op2 D.ix (varM 0) (op2 D.add (cM (.int 2)) (cbM bInt (consA (op2 D.eq (varM 3) (cM (.int 0))) nilA)))))) (qCons (qN (nH sh_l_went (varM 1))) (ownL 2)))))
  nextQ)
  (retQ (q2 D.mod (q2 D.add (qN (nH sh_l_went (varM 3))) (qCallO 2 2 rec (qCons (qN (nH sh_l_went (op2 D.ix (varM 0) (cM (.int 2))))) (qCons (qN (nH sh_l_went (varM 1))) (ownL 2))))) (qN (nH sh_l_went (cM (.int 1000))))))))))))
noncomputable def mq_l_went : Nat → D → List D → R (D × D)
  | 0 => fun _ _ => .bad
  | k + 1 => fnQf true 2 2 (b_l_went (mq_l_went k))
theorem body_l_went {P : Program} {w : World} {K : PySem.W.Frag} {mg : Str → Option Value} {base : Heap} (T : Tx K mg w) {k : Nat} {mr : D → List D → R (D × D)}  (G_l_went : FnQ P w K mg base "_law_went" (k + 1) (.lst .pl) .pl 2 mr) (cdv : Value) (f : Addr) (A : Around) (outer : List Env) (s : Shared) (H : Hp) (E : XK) (hr : Room (k + 1) (A.deeper (PyProof.Rows.envOfC "_law_went" (defScope s_l_went) s.heap.objs.size f cdv))) :
    QSs (cxOf (L2.CX P w) P w K mg base ["_law_piece_here", "_law_names_here", "_law_state", "_law_one", "_law_inner"] "_law_went" (defScope s_l_went) f cdv A outer s H E) (fun cls d _ H' => E cls d H') [2] sh_l_went .pl (defBody s_l_went) (b_l_went mr) :=
  (qss_cons (qs_if (mnb_h (mt_cmp om_eq (me_ix (me_var 0) me_int) me_str (nomark _)))
  (qss_one (qs_ret (mq_n (mn_h (me_ix (me_var 0) me_int)))))
  qss_nil)
  (qss_cons (qs_if (mnb_h (mt_cmp om_eq (me_ix (me_var 0) me_int) me_str (nomark _)))
  (qss_one (qs_ret (mq_n (mn_h (me_ixA (hu_of hr) (me_var 1) (me_ix (me_var 0) me_int) (fun _ _ => rfl))))))
  qss_nil)
  (qss_cons (qs_expr (mq_app (mp_var 2) (mn_h me_int)))
  (qss_cons (qs_if (mnb_h (mt_cmp om_eq (me_ix (me_var 0) me_int) me_str (nomark _)))
  (qss_cons (qs_set 4 (by decide) rfl (mq_dict rfl T.n_dict (mn_h (me_var 1))) sc_l_went.nd)
  (qss_cons (qs_putD (hu_of hr) (mq_callO rfl (G_l_went) hr rfl (mqo_cons (mq_n (mn_h (me_ix (me_var 0) me_int))) (mqo_cons (mq_n (mn_h (me_var 1))) (mqo_last 2)))) (mp_var 4) (mn_h (me_ix (me_var 0) me_int)))
  (qss_one (qs_ret (mq_callOV rfl (G_l_went) hr rfl (mvo_cons (me_ix (me_var 0) me_int) (mvo_cons (me_var 4) (mvo_last 2))))))))
  qss_nil)
  (qss_cons (qs_set 3 (by decide) rfl (mq_callO rfl (G_l_went) hr rfl (mqo_cons (mq_n (mn_h (me_ix (me_var 0) me_int))) (mqo_cons (mq_n (mn_h (me_var 1))) (mqo_last 2)))) sc_l_went.nd)
  (qss_cons (qs_if (mnb_h (mt_cmp om_eq (me_ix (me_var 0) me_int) me_str (nomark _)))
  (qss_one (qs_ret (mq_callO rfl (G_l_went) hr rfl (mqo_cons (mq_n (mn_h (me_ix (me_var 0) (me_op om_add me_int (me_cty cb_int rfl T.n_int (by decide +kernel) (ma_cons (me_cmp om_eq (me_var 3) me_int (nomark _)) ma_nil)))))) (mqo_cons (mq_n (mn_h (me_var 1))) (mqo_last 2))))))
  qss_nil)
  (qss_one (qs_ret (mq_op om_mod (mq_op om_add (mq_n (mn_h (me_var 3))) (mq_callO rfl (G_l_went) hr rfl (mqo_cons (mq_n (mn_h (me_ix (me_var 0) me_int))) (mqo_cons (mq_n (mn_h (me_var 1))) (mqo_last 2))))) (mq_n (mn_h me_int)))))))))))
theorem ok_l_went {P : Program} {w : World} {K : PySem.W.Frag} {mg : Str → Option Value} {base : Heap} (T : Tx K mg w) {f : Addr} {fd : FuncData} (F : Fun K "_law_went" "_law_went" s_l_went f fd) (hm : mg "_law_went" = some (.ref f))  : ∀ k : Nat, FnQ P w K mg base "_law_went" (k + 1) (.lst .pl) .pl 2 (mq_l_went k)
  | 0 => fnq_none (ps := ["_law_piece_here", "_law_names_here", "_law_state"]) F rfl hm (fun _ _ _ _ _ _ us hl => match us, hl with | [_, _, _], _ => rfl)
  | k + 1 => by
    have e : k + 1 + 1 = (k + 1) + 1 := by omega
    rw [e]
    exact fn_q (L := [.pl, (.dct [])]) F sc_l_went rfl rfl rfl hm (fun _ _ _ _ _ _ us hl => match us, hl with | [_, _, _], _ => rfl) (fun cdv A outer s H E hr => body_l_went T  (ok_l_went T F hm  k) cdv f A outer s H E hr)
/-! l_cell_at -/
abbrev s_l_cell_at : Stmt := top 21
theorem sc_l_cell_at : FnScope ["_law_script", "_law_k"] ["_law_script", "_law_k"] (defScope s_l_cell_at) := ⟨rfl, rfl, rfl, by decide +kernel, rfl, by decide +kernel, by decide +kernel⟩
noncomputable def b_l_cell_at : Sl → O :=
  (seqM (ifS (asB (op2 D.lt (varM 1) (cbM bLen (consA (varM 0) nilA))))
  (retM (op2 D.ix (varM 0) (varM 1)))
  nextM)
  (retM (cM (.int 0))))
noncomputable def m_l_cell_at : List D → R D := fnM 2 0 b_l_cell_at
theorem ok_l_cell_at {P : Program} {w : World} {K : PySem.W.Frag} {mg : Str → Option Value} {base : Heap} (T : Tx K mg w) {f : Addr} {fd : FuncData} (F : Fun K "_law_cell_at" "_law_cell_at" s_l_cell_at f fd) (hm : mg "_law_cell_at" = some (.ref f))  : FnI P w K mg base "_law_cell_at" 1 2 m_l_cell_at :=
  fn_ok F sc_l_cell_at rfl rfl hm (fun _ _ _ _ _ _ us hl => match us, hl with | [_, _], _ => rfl) (fun cdv A outer s H E hr =>
  (mss_cons (ms_if (mt_cmp om_lt (me_var 1) (me_cb cb_len rfl T.n_len PySem.boot_len (ma_cons (me_var 0) ma_nil)) (nomark _))
  (mss_one (ms_ret (me_ix (me_var 0) (me_var 1))))
  mss_nil)
  (mss_one (ms_ret me_int))))
/-! next_at -/
abbrev s_next_at : Stmt := top 13
theorem sc_next_at : FnScope ["piece", "at"] ["piece"] (defScope s_next_at) := ⟨rfl, rfl, rfl, by decide +kernel, rfl, by decide +kernel, by decide +kernel⟩
noncomputable def lb_next_at_0 : Sl → O :=
  (ifS (asB (op2 D.ne (op2 D.ix (op2 D.ix (varM 0) (varM 1)) (cM (.int 0))) (cM (.str "num"))))
  (retM (varM 1))
  nextM)
noncomputable def b_next_at : Sl → O :=
  (seqM (forM (itM (kixM t_WORKED_OUT (op2 D.ix (varM 0) (cM (.int 0))))) (tgN 1)
  lb_next_at_0)
  (retM (cM .non)))
noncomputable def m_next_at : List D → R D := fnM 1 1 b_next_at
theorem ok_next_at {P : Program} {w : World} {K : PySem.W.Frag} {mg : Str → Option Value} {base : Heap} (T : Tx K mg w) {f : Addr} {fd : FuncData} (F : Fun K "next_at" "next_at" s_next_at f fd) (hm : mg "next_at" = some (.ref f))  : FnI P w K mg base "next_at" 1 1 m_next_at :=
  fn_ok F sc_next_at rfl rfl hm (fun _ _ _ _ _ _ us hl => match us, hl with | [_], _ => rfl) (fun cdv A outer s H E hr =>
  (mss_cons (ms_for (passes_of rfl) rfl (mi_any (T.ix_WORKED_OUT rfl (me_ix (me_var 0) me_int) (fun _ _ => rfl))) (mg_name 1 sc_next_at.nd)
  (mss_one (ms_if (mt_cmp om_ne (me_ix (me_ix (me_var 0) (me_var 1)) me_int) me_str (nomark _))
  (mss_one (ms_ret (me_var 1)))
  mss_nil)))
  (mss_one (ms_ret me_non))))
/-! way_to_next -/
abbrev s_way_to_next : Stmt := top 12
theorem sc_way_to_next : FnScope ["piece", "around", "at"] ["piece"] (defScope s_way_to_next) := ⟨rfl, rfl, rfl, by decide +kernel, rfl, by decide +kernel, by decide +kernel⟩
abbrev sh_way_to_next : List Sh := [.pl, (.lst .pl), .pl]
noncomputable def lb_way_to_next_0 : Sl → OQ :=
  (seqQ (dropQ (qApp sh_way_to_next 1 (pl0 1) (nH sh_way_to_next (tupM (consA (varM 0) (consA (varM 2) nilA))))))
  (seqQ (asgQ 0 (qN (nH sh_way_to_next (op2 D.ix (varM 0) (varM 2)))))
  (asgQ 2 (qN (nH sh_way_to_next (callM 1 m_next_at (consA (varM 0) nilA)))))))
noncomputable def lt_way_to_next_1 : Sl → R Bool :=
  (nH sh_way_to_next (asB (op2 D.isnt (varM 2) (cM .non))))
noncomputable def b_way_to_next : Sl → OQ :=
  (seqQ (asgQ 1 (qLst qNil))
  (seqQ (asgQ 2 (qN (nH sh_way_to_next (callM 1 m_next_at (consA (varM 0) nilA)))))
  (seqQ (whQ lt_way_to_next_1
  lb_way_to_next_0)
  (retQ (qTup (qCons (qMove sh_way_to_next (.lst .pl) 1) (qCons (qN (nH sh_way_to_next (varM 0))) qNil)))))))
noncomputable def mf_way_to_next : List D → R D := fnF 1 2 b_way_to_next
noncomputable def m_way_to_next : List D → R D := fun ds => noErr (mf_way_to_next ds)
theorem okx_way_to_next {P : Program} {w : World} {K : PySem.W.Frag} {mg : Str → Option Value} {base : Heap} (T : Tx K mg w) {f : Addr} {fd : FuncData} (F : Fun K "way_to_next" "way_to_next" s_way_to_next f fd) (hm : mg "way_to_next" = some (.ref f)) (G_next_at : FnI P w K mg base "next_at" 1 1 m_next_at) : FnF P w K mg base "way_to_next" 2 (.tup [(.lst .pl), .pl]) 1 mf_way_to_next :=
  fn_f (L := [(.lst .pl), .pl]) F sc_way_to_next rfl rfl rfl hm (fun _ _ _ _ _ _ us hl => match us, hl with | [_], _ => rfl) (fun cdv A outer s H E hr =>
  (qss_cons (qs_set 1 (by decide) rfl (mq_lst (n := 0) (s1 := .pl) mqa_nil) sc_way_to_next.nd)
  (qss_cons (qs_set 2 (by decide) rfl (mq_n (mn_h (me_call (G_next_at.mono (by decide)) hr (passW_of (takes_of rfl rfl rfl rfl)) rfl (ma_cons (me_var 0) ma_nil)))) sc_way_to_next.nd)
  (qss_cons (qs_while (passes_of rfl) (mnb_h (mt_cmp om_isnt (me_var 2) me_non (nomark _)))
  (qss_cons (qs_expr (mq_app (mp_var 1) (mn_h (me_tup (ma_cons (me_var 0) (ma_cons (me_var 2) ma_nil))))))
  (qss_cons (qs_set 0 (by decide) rfl (mq_n (mn_h (me_ix (me_var 0) (me_var 2)))) sc_way_to_next.nd)
  (qss_one (qs_set 2 (by decide) rfl (mq_n (mn_h (me_call (G_next_at.mono (by decide)) hr (passW_of (takes_of rfl rfl rfl rfl)) rfl (ma_cons (me_var 0) ma_nil)))) sc_way_to_next.nd)))))
  (qss_one (qs_ret (mq_tup (mqa_cons (mq_move 1 rfl) (mqa_cons (mq_n (mn_h (me_var 0))) mqa_nil)))))))))
/-! nearest_hand -/
abbrev s_nearest_hand : Stmt := top 16
theorem sc_nearest_hand : FnScope ["around", "kind", "at", "whole"] ["around", "kind"] (defScope s_nearest_hand) := ⟨rfl, rfl, rfl, by decide +kernel, rfl, by decide +kernel, by decide +kernel⟩
noncomputable def lb_nearest_hand_0 : Sl → O :=
  (seqM (asgM 3 (op2 D.ix (op2 D.ix (varM 0) (varM 2)) (cM (.int 0))))
  (ifS (andB (asB (op2 D.eq (op2 D.ix (varM 3) (cM (.int 0))) (cM (.str "hand")))) (asB (op2 D.eq (op2 D.ix (varM 3) (cM (.int 1))) (varM 1))))
  (retM (varM 2))
  nextM))
noncomputable def b_nearest_hand : Sl → O :=
  (seqM (forM (downM (cbM bLen (consA (varM 0) nilA))) (tgN 2)
  lb_nearest_hand_0)
  (retM (cM .non)))
noncomputable def m_nearest_hand : List D → R D := fnM 2 2 b_nearest_hand
theorem ok_nearest_hand {P : Program} {w : World} {K : PySem.W.Frag} {mg : Str → Option Value} {base : Heap} (T : Tx K mg w) {f : Addr} {fd : FuncData} (F : Fun K "nearest_hand" "nearest_hand" s_nearest_hand f fd) (hm : mg "nearest_hand" = some (.ref f))  : FnI P w K mg base "nearest_hand" 1 2 m_nearest_hand :=
  fn_ok F sc_nearest_hand rfl rfl hm (fun _ _ _ _ _ _ us hl => match us, hl with | [_, _], _ => rfl) (fun cdv A outer s H E hr =>
  (mss_cons (ms_for (passes_of rfl) rfl (mi_down rfl T.n_reversed rfl T.n_range (me_cb cb_len rfl T.n_len PySem.boot_len (ma_cons (me_var 0) ma_nil))) (mg_name 2 sc_nearest_hand.nd)
  (mss_cons (ms_set 3 (me_ix (me_ix (me_var 0) (me_var 2)) me_int) sc_nearest_hand.nd)
  (mss_one (ms_if (MW.mt (mw_and (mt_cmp om_eq (me_ix (me_var 3) me_int) me_str (nomark _)) (mw_and1 (mt_cmp om_eq (me_ix (me_var 3) me_int) (me_var 1) (nomark _)))))
  (mss_one (ms_ret (me_var 2)))
  mss_nil))))
  (mss_one (ms_ret me_non))))
/-! put_back -/
abbrev s_put_back : Stmt := top 14
theorem sc_put_back : FnScope ["around", "piece", "whole", "at"] ["around", "piece"] (defScope s_put_back) := ⟨rfl, rfl, rfl, by decide +kernel, rfl, by decide +kernel, by decide +kernel⟩
noncomputable def lb_put_back_0 : Sl → O :=
  (asgM 1 (op2 D.add (op2 D.add (slM (varM 2) noM (someM (varM 3))) (tupM (consA (varM 1) nilA))) (slM (varM 2) (someM (op2 D.add (varM 3) (cM (.int 1)))) noM)))
noncomputable def b_put_back : Sl → O :=
  (seqM (forM (revM (varM 0)) (tg2 (tgN 2) (tgN 3))
  lb_put_back_0)
  (retM (varM 1)))
noncomputable def m_put_back : List D → R D := fnM 2 2 b_put_back
theorem ok_put_back {P : Program} {w : World} {K : PySem.W.Frag} {mg : Str → Option Value} {base : Heap} (T : Tx K mg w) {f : Addr} {fd : FuncData} (F : Fun K "put_back" "put_back" s_put_back f fd) (hm : mg "put_back" = some (.ref f))  : FnI P w K mg base "put_back" 1 2 m_put_back :=
  fn_ok F sc_put_back rfl rfl hm (fun _ _ _ _ _ _ us hl => match us, hl with | [_, _], _ => rfl) (fun cdv A outer s H E hr =>
  (mss_cons (ms_for (passes_of rfl) rfl (mi_rev rfl T.n_reversed (me_var 0)) (mg_two rfl (mg_name 2 sc_put_back.nd) (mg_name 3 sc_put_back.nd))
  (mss_one (ms_set 1 (me_op om_add (me_op om_add (me_sl (me_var 2) mo_none (mo_some (me_var 3))) (me_tup (ma_cons (me_var 1) ma_nil))) (me_sl (me_var 2) (mo_some (me_op om_add (me_var 3) me_int)) mo_none)) sc_put_back.nd)))
  (mss_one (ms_ret (me_var 1)))))
/-! places_of -/
abbrev s_places_of : Stmt := top 3
theorem sc_places_of : FnScope ["piece", "at", "wanted"] ["piece"] (defScope s_places_of) := ⟨rfl, rfl, rfl, by decide +kernel, rfl, by decide +kernel, by decide +kernel⟩
noncomputable def lt_places_of_0 : Sl → R Bool :=
  (asB (op2 D.eq (varM 2) (cM (.str "piece"))))
noncomputable def le_places_of_1 : Sl → R D :=
  (varM 1)
noncomputable def b_places_of : Sl → O :=
  (retM (lcM (enM 1 (kixM t_FORMS (op2 D.ix (varM 0) (cM (.int 0))))) [1, 2] (tg2 (tgN 1) (tgN 2)) lt_places_of_0 le_places_of_1))
noncomputable def m_places_of : List D → R D := fnM 1 2 b_places_of
theorem ok_places_of {P : Program} {w : World} {K : PySem.W.Frag} {mg : Str → Option Value} {base : Heap} (T : Tx K mg w) {f : Addr} {fd : FuncData} (F : Fun K "places_of" "places_of" s_places_of f fd) (hm : mg "places_of" = some (.ref f))  : FnI P w K mg base "places_of" 1 1 m_places_of :=
  fn_ok F sc_places_of rfl rfl hm (fun _ _ _ _ _ _ us hl => match us, hl with | [_], _ => rfl) (fun cdv A outer s H E hr =>
  (mss_one (ms_ret (me_lcIf2 1 2 (by decide) rfl sc_places_of.nd (mi_enum (by decide) rfl T.n_enumerate (T.ix_FORMS rfl (me_ix (me_var 0) me_int) (fun _ _ => rfl))) (blkOk_by (N := ["piece", "at", "wanted"]) (sc := defScope s_places_of) (by decide +kernel)) (fun _ _ _ _ _ => pg_tup rfl (pgs_cons (pg_name (i := 1) sc_places_of.nd rfl (Or.inl rfl)) (pgs_cons (pg_name (i := 2) sc_places_of.nd rfl (Or.inl rfl)) pgs_nil))) (fun _ _ _ _ _ => (mt_cmp om_eq (me_var 2) me_str (nomark _))) (fun _ _ _ _ _ => (me_var 1))))))
/-! told_at -/
abbrev s_told_at : Stmt := top 4
theorem sc_told_at : FnScope ["piece", "at"] ["piece", "at"] (defScope s_told_at) := ⟨rfl, rfl, rfl, by decide +kernel, rfl, by decide +kernel, by decide +kernel⟩
noncomputable def b_told_at : Sl → O :=
  (seqM (ifS (andB (asB (op2 D.eq (op2 D.ix (varM 0) (cM (.int 0))) (cM (.str "let")))) (asB (op2 D.eq (varM 1) (cM (.int 3)))))
  (retM (op2 D.ix (varM 0) (cM (.int 1))))
  nextM)
  (seqM (ifS (andB (asB (op2 D.eq (op2 D.ix (varM 0) (cM (.int 0))) (cM (.str "hand")))) (asB (op2 D.eq (varM 1) (cM (.int 3)))))
  (retM (op2 D.ix (varM 0) (cM (.int 2))))
  nextM)
  (retM (cM .non))))
noncomputable def m_told_at : List D → R D := fnM 2 0 b_told_at
theorem ok_told_at {P : Program} {w : World} {K : PySem.W.Frag} {mg : Str → Option Value} {base : Heap} (T : Tx K mg w) {f : Addr} {fd : FuncData} (F : Fun K "told_at" "told_at" s_told_at f fd) (hm : mg "told_at" = some (.ref f))  : FnI P w K mg base "told_at" 1 2 m_told_at :=
  fn_ok F sc_told_at rfl rfl hm (fun _ _ _ _ _ _ us hl => match us, hl with | [_, _], _ => rfl) (fun cdv A outer s H E hr =>
  (mss_cons (ms_if (MW.mt (mw_and (mt_cmp om_eq (me_ix (me_var 0) me_int) me_str (nomark _)) (mw_and1 (mt_cmp om_eq (me_var 1) me_int (nomark _)))))
  (mss_one (ms_ret (me_ix (me_var 0) me_int)))
  mss_nil)
  (mss_cons (ms_if (MW.mt (mw_and (mt_cmp om_eq (me_ix (me_var 0) me_int) me_str (nomark _)) (mw_and1 (mt_cmp om_eq (me_var 1) me_int (nomark _)))))
  (mss_one (ms_ret (me_ix (me_var 0) me_int)))
  mss_nil)
  (mss_one (ms_ret me_non)))))
/-! put_in -/
abbrev s_put_in : Stmt := top 9
theorem sc_put_in : FnScope ["piece", "name", "number", "whole", "at"] ["piece", "name", "number"] (defScope s_put_in) := ⟨rfl, rfl, rfl, by decide +kernel, rfl, by decide +kernel, by decide +kernel⟩
abbrev sh_put_in : List Sh := [.pl, .pl, .pl, (.lst .pl), .pl]
noncomputable def lb_put_in_0 (rec : List D → R D) : Sl → OQ :=
  (ifQ (nH sh_put_in (asB (op2 D.ne (callM 2 m_told_at (consA (varM 0) (consA (varM 4) nilA))) (varM 1))))
  (putQL sh_put_in 3 (pl0 3) (nH sh_put_in (varM 4)) (qN (nH sh_put_in (callM 3 (fun ds => noErr (rec ds)) (consA (op2 D.ix (varM 0) (varM 4)) (consA (varM 1) (consA (varM 2) nilA)))))))
  nextQ)
noncomputable def b_put_in (rec : List D → R D) : Sl → OQ :=
  (seqQ (ifQ (nH sh_put_in (andB (asB (op2 D.eq (op2 D.ix (varM 0) (cM (.int 0))) (cM (.str "name")))) (asB (op2 D.eq (op2 D.ix (varM 0) (cM (.int 1))) (varM 1)))))
  (retQ (qN (nH sh_put_in (tupM (consA (cM (.str "num")) (consA (varM 2) nilA))))))
  nextQ)
  (seqQ (asgQ 3 (qList (nH sh_put_in (varM 0))))
  (seqQ (forQ (nH sh_put_in (itM (callM 1 m_places_of (consA (varM 0) nilA)))) (tgN 4)
  (lb_put_in_0 rec))
  (retQ (qN (nV (cbM bTuple (consA (varM 3) nilA))))))))
noncomputable def mf_put_in : Nat → List D → R D
  | 0 => fun _ => .bad
  | k + 1 => fnF 3 2 (b_put_in (mf_put_in k))
noncomputable def m_put_in (k : Nat) : List D → R D := fun ds => noErr (mf_put_in k ds)
theorem body_put_in {P : Program} {w : World} {K : PySem.W.Frag} {mg : Str → Option Value} {base : Heap} (T : Tx K mg w) {k : Nat} {mr : List D → R D} (G_places_of : FnI P w K mg base "places_of" 1 1 m_places_of) (G_told_at : FnI P w K mg base "told_at" 1 2 m_told_at) (G_put_in : FnF P w K mg base "put_in" (k + 2) .pl 3 mr) (cdv : Value) (f : Addr) (A : Around) (outer : List Env) (s : Shared) (H : Hp) (E : XK) (hr : Room (k + 2) (A.deeper (PyProof.Rows.envOfC "put_in" (defScope s_put_in) s.heap.objs.size f cdv))) :
    QSs (cxOf (L2.CX P w) P w K mg base ["piece", "name", "number", "whole", "at"] "put_in" (defScope s_put_in) f cdv A outer s H E) (fun cls d _ H' => E cls d H') [] sh_put_in .pl (defBody s_put_in) (b_put_in mr) :=
  (qss_cons (qs_if (mnb_h (MW.mt (mw_and (mt_cmp om_eq (me_ix (me_var 0) me_int) me_str (nomark _)) (mw_and1 (mt_cmp om_eq (me_ix (me_var 0) me_int) (me_var 1) (nomark _))))))
  (qss_one (qs_ret (mq_n (mn_h (me_tup (ma_cons me_str (ma_cons (me_var 2) ma_nil)))))))
  qss_nil)
  (qss_cons (qs_set 3 (by decide) rfl (mq_list rfl T.n_list (mn_h (me_var 0))) sc_put_in.nd)
  (qss_cons (qs_for (passes_of rfl) rfl (mni_h (mi_any (me_call (G_places_of.mono (by omega)) hr (passW_of (takes_of rfl rfl rfl rfl)) rfl (ma_cons (me_var 0) ma_nil)))) (qg_name 4 (by decide) rfl sc_put_in.nd)
  (qss_one (qs_if (mnb_h (mt_cmp om_ne (me_call (G_told_at.mono (by omega)) hr (passW_of (takes_of rfl rfl rfl rfl)) rfl (ma_cons (me_var 0) (ma_cons (me_var 4) ma_nil))) (me_var 1) (nomark _)))
  (qss_one (qs_putL (mq_n (mn_h (me_call (G_put_in.plain) hr (passW_of (takes_of rfl rfl rfl rfl)) rfl (ma_cons (me_ix (me_var 0) (me_var 4)) (ma_cons (me_var 1) (ma_cons (me_var 2) ma_nil)))))) (mp_var 3) (mn_h (me_var 4))))
  qss_nil)))
  (qss_one (qs_ret (mq_n (mn_v (me_cty (cb_tuple call_tuple_of) rfl T.n_tuple (by decide +kernel) (ma_cons (me_var 3) ma_nil)))))))))
theorem okx_put_in {P : Program} {w : World} {K : PySem.W.Frag} {mg : Str → Option Value} {base : Heap} (T : Tx K mg w) {f : Addr} {fd : FuncData} (F : Fun K "put_in" "put_in" s_put_in f fd) (hm : mg "put_in" = some (.ref f)) (G_places_of : FnI P w K mg base "places_of" 1 1 m_places_of) (G_told_at : FnI P w K mg base "told_at" 1 2 m_told_at) : ∀ k : Nat, FnF P w K mg base "put_in" (k + 2) .pl 3 (mf_put_in k)
  | 0 => fnf_none (ps := ["piece", "name", "number"]) F rfl hm (fun _ _ _ _ _ _ us hl => match us, hl with | [_, _, _], _ => rfl)
  | k + 1 => by
    have e : k + 1 + 2 = (k + 2) + 1 := by omega
    rw [e]
    exact fn_f (L := [(.lst .pl), .pl]) F sc_put_in rfl rfl rfl hm (fun _ _ _ _ _ _ us hl => match us, hl with | [_, _, _], _ => rfl) (fun cdv A outer s H E hr => body_put_in T G_places_of G_told_at (okx_put_in T F hm G_places_of G_told_at k) cdv f A outer s H E hr)
/-! names_in -/
abbrev s_names_in : Stmt := top 19
theorem sc_names_in : FnScope ["piece", "names", "waiting", "whole", "wanted", "part"] ["piece"] (defScope s_names_in) := ⟨rfl, rfl, rfl, by decide +kernel, rfl, by decide +kernel, by decide +kernel⟩
abbrev sh_names_in : List Sh := [.pl, (.dct []), (.lst .pl), .pl, .pl, .pl]
noncomputable def lb_names_in_0 : Sl → OQ :=
  (ifQ (nH sh_names_in (asB (op2 D.eq (varM 4) (cM (.str "name")))))
  (putQD sh_names_in 1 (pl0 1) (nH sh_names_in (varM 5)) (qN (nH sh_names_in (cM (.bl true)))))
  (ifQ (nH sh_names_in (asB (op2 D.eq (varM 4) (cM (.str "piece")))))
  (dropQ (qApp sh_names_in 2 (pl0 2) (nH sh_names_in (varM 5))))
  nextQ))
noncomputable def lb_names_in_1 : Sl → OQ :=
  (seqQ (asgQ 3 (qPop sh_names_in 2 (pl0 2) popF))
  (forQ (nH sh_names_in (zipM (consA (kixM t_FORMS (op2 D.ix (varM 3) (cM (.int 0)))) (consA (slM (varM 3) (someM (cM (.int 1))) noM) nilA)))) (tg2 (tgN 4) (tgN 5))
  lb_names_in_0))
noncomputable def lt_names_in_2 : Sl → R Bool :=
  (truM (varM 2))
noncomputable def b_names_in : Sl → OQ :=
  (seqQ (asgQ 1 (fun env => .ok (.dct [], env)))
  (seqQ (asgQ 2 (qLst (qCons (qN (nH sh_names_in (varM 0))) qNil)))
  (seqQ (whQ lt_names_in_2
  lb_names_in_1)
  (retQ (qMove sh_names_in (.dct []) 1)))))
noncomputable def mf_names_in : List D → R D := fnF 1 5 b_names_in
noncomputable def m_names_in : List D → R D := fun ds => noErr (mf_names_in ds)
theorem okx_names_in {P : Program} {w : World} {K : PySem.W.Frag} {mg : Str → Option Value} {base : Heap} (T : Tx K mg w) {f : Addr} {fd : FuncData} (F : Fun K "names_in" "names_in" s_names_in f fd) (hm : mg "names_in" = some (.ref f))  : FnF P w K mg base "names_in" 1 (.dct []) 1 mf_names_in :=
  fn_f (L := [(.dct []), (.lst .pl), .pl, .pl, .pl]) F sc_names_in rfl rfl rfl hm (fun _ _ _ _ _ _ us hl => match us, hl with | [_], _ => rfl) (fun cdv A outer s H E hr =>
  (qss_cons (qs_set 1 (by decide) rfl mq_dnew sc_names_in.nd)
  (qss_cons (qs_set 2 (by decide) rfl (mq_lst (n := 1) (s1 := .pl) (mqa_cons (mq_n (mn_h (me_var 0))) mqa_nil)) sc_names_in.nd)
  (qss_cons (qs_while (passes_of rfl) (mnb_v (mt_truth (me_var 2)))
  (qss_cons (qs_set 3 (by decide) rfl (mq_pop (mp_var 2)) sc_names_in.nd)
  (qss_one (qs_for (passes_of rfl) rfl (mni_h (mi_zip rfl T.n_zip (ma_cons (T.ix_FORMS rfl (me_ix (me_var 3) me_int) (fun _ _ => rfl)) (ma_cons (me_sl (me_var 3) (mo_some me_int) mo_none) ma_nil)))) (qg_two rfl (qg_name 4 (by decide) rfl sc_names_in.nd) (qg_name 5 (by decide) rfl sc_names_in.nd))
  (qss_one (qs_if (mnb_h (mt_cmp om_eq (me_var 4) me_str (nomark _)))
  (qss_one (qs_putD (hu_of hr) (mq_n (mn_h me_bl)) (mp_var 1) (mn_h (me_var 5))))
  (qss_one (qs_if (mnb_h (mt_cmp om_eq (me_var 4) me_str (nomark _)))
  (qss_one (qs_expr (mq_app (mp_var 2) (mn_h (me_var 5)))))
  qss_nil))))))))
  (qss_one (qs_ret (mq_move 1 rfl)))))))
/-! free_name -/
abbrev s_free_name : Stmt := top 18
theorem sc_free_name : FnScope ["piece", "taken", "number"] ["piece"] (defScope s_free_name) := ⟨rfl, rfl, rfl, by decide +kernel, rfl, by decide +kernel, by decide +kernel⟩
noncomputable def lb_free_name_0 : Sl → O :=
  (augM 2 (cM (.int 1)))
noncomputable def lt_free_name_1 : Sl → R Bool :=
  (asB (dinM false (cbM bStr (consA (varM 2) nilA)) (varM 1)))
noncomputable def b_free_name : Sl → O :=
  (seqM (asgM 1 (callM 1 m_names_in (consA (varM 0) nilA)))
  (seqM (asgM 2 (cM (.int 0)))
  (seqM (whM lt_free_name_1
  lb_free_name_0)
  (retM (cbM bStr (consA (varM 2) nilA))))))
noncomputable def m_free_name : List D → R D := fnM 1 2 b_free_name
theorem ok_free_name {P : Program} {w : World} {K : PySem.W.Frag} {mg : Str → Option Value} {base : Heap} (T : Tx K mg w) {f : Addr} {fd : FuncData} (F : Fun K "free_name" "free_name" s_free_name f fd) (hm : mg "free_name" = some (.ref f)) (G_names_in : FnF P w K mg base "names_in" 1 (.dct []) 1 mf_names_in) : FnI P w K mg base "free_name" 2 1 m_free_name :=
  fn_ok F sc_free_name rfl rfl hm (fun _ _ _ _ _ _ us hl => match us, hl with | [_], _ => rfl) (fun cdv A outer s H E hr =>
  (mss_cons (ms_set 1 (me_call (G_names_in.plain.mono (by decide)) hr (passW_of (takes_of rfl rfl rfl rfl)) rfl (ma_cons (me_var 0) ma_nil)) sc_free_name.nd)
  (mss_cons (ms_set 2 me_int sc_free_name.nd)
  (mss_cons (ms_while (passes_of rfl) (mt_din (hu_of hr) (me_cty cb_str rfl T.n_str (by decide +kernel) (ma_cons (me_var 2) ma_nil)) (me_var 1))
  (mss_one (ms_aug 2 me_int sc_free_name.nd)))
  (mss_one (ms_ret (me_cty cb_str rfl T.n_str (by decide +kernel) (ma_cons (me_var 2) ma_nil))))))))
/-! answered_by_hand -/
abbrev s_answered_by_hand : Stmt := top 17
theorem sc_answered_by_hand : FnScope ["around", "ask", "hand", "answer", "name"] ["around", "ask"] (defScope s_answered_by_hand) := ⟨rfl, rfl, rfl, by decide +kernel, rfl, by decide +kernel, by decide +kernel⟩
noncomputable def b_answered_by_hand : Sl → O :=
  (seqM (asgM 2 (op2 D.ix (op2 D.ix (varM 0) (cM (.int 0))) (cM (.int 0))))
  (seqM (asgM 3 (callM 3 (m_put_in 60) (consA (op2 D.ix (varM 2) (cM (.int 3))) (consA (op2 D.ix (varM 2) (cM (.int 2))) (consA (op2 D.ix (op2 D.ix (varM 1) (cM (.int 2))) (cM (.int 1))) nilA)))))
  (seqM (ifS (asB (op2 D.eq (op2 D.ix (varM 1) (cM (.int 1))) (cM (.str "fail"))))
  (retM (varM 3))
  nextM)
  (seqM (asgM 4 (callM 1 m_free_name (consA (varM 2) nilA)))
  (retM (tupM (consA (cM (.str "let")) (consA (varM 4) (consA (varM 3) (consA (callM 2 m_put_back (consA (varM 0) (consA (tupM (consA (cM (.str "name")) (consA (varM 4) nilA))) nilA))) nilA))))))))))
noncomputable def m_answered_by_hand : List D → R D := fnM 2 3 b_answered_by_hand
theorem ok_answered_by_hand {P : Program} {w : World} {K : PySem.W.Frag} {mg : Str → Option Value} {base : Heap} (T : Tx K mg w) {f : Addr} {fd : FuncData} (F : Fun K "answered_by_hand" "answered_by_hand" s_answered_by_hand f fd) (hm : mg "answered_by_hand" = some (.ref f)) (G_put_in : FnF P w K mg base "put_in" 62 .pl 3 (mf_put_in 60)) (G_free_name : FnI P w K mg base "free_name" 2 1 m_free_name) (G_put_back : FnI P w K mg base "put_back" 1 2 m_put_back) : FnI P w K mg base "answered_by_hand" 63 2 m_answered_by_hand :=
  fn_ok F sc_answered_by_hand rfl rfl hm (fun _ _ _ _ _ _ us hl => match us, hl with | [_, _], _ => rfl) (fun cdv A outer s H E hr =>
  (mss_cons (ms_set 2 (me_ix (me_ix (me_var 0) me_int) me_int) sc_answered_by_hand.nd)
  (mss_cons (ms_set 3 (me_call (G_put_in.plain.mono (by decide)) hr (passW_of (takes_of rfl rfl rfl rfl)) rfl (ma_cons (me_ix (me_var 2) me_int) (ma_cons (me_ix (me_var 2) me_int) (ma_cons (me_ix (me_ix (me_var 1) me_int) me_int) ma_nil)))) sc_answered_by_hand.nd)
  (mss_cons (ms_if (mt_cmp om_eq (me_ix (me_var 1) me_int) me_str (nomark _))
  (mss_one (ms_ret (me_var 3)))
  mss_nil)
  (mss_cons (ms_set 4 (me_call (G_free_name.mono (by decide)) hr (passW_of (takes_of rfl rfl rfl rfl)) rfl (ma_cons (me_var 2) ma_nil)) sc_answered_by_hand.nd)
  (mss_one (ms_ret (me_tup (ma_cons me_str (ma_cons (me_var 4) (ma_cons (me_var 3) (ma_cons (me_call (G_put_back.mono (by decide)) hr (passW_of (takes_of rfl rfl rfl rfl)) rfl (ma_cons (me_var 0) (ma_cons (me_tup (ma_cons me_str (ma_cons (me_var 4) ma_nil))) ma_nil))) ma_nil))))))))))))
/-! added -/
abbrev s_added : Stmt := top 6
theorem sc_added : FnScope ["first", "second", "total"] ["first", "second"] (defScope s_added) := ⟨rfl, rfl, rfl, by decide +kernel, rfl, by decide +kernel, by decide +kernel⟩
noncomputable def b_added : Sl → O :=
  (seqM (asgM 2 (op2 D.add (varM 0) (varM 1)))
  (seqM (ifS (asB (op2 D.gt (varM 2) (cM c_LARGEST_NUMBER)))
  (retM (op2 D.sub (varM 2) (op2 D.add (cM c_LARGEST_NUMBER) (cM (.int 1)))))
  nextM)
  (retM (varM 2))))
noncomputable def m_added : List D → R D := fnM 2 1 b_added
theorem ok_added {P : Program} {w : World} {K : PySem.W.Frag} {mg : Str → Option Value} {base : Heap} (T : Tx K mg w) {f : Addr} {fd : FuncData} (F : Fun K "added" "added" s_added f fd) (hm : mg "added" = some (.ref f))  : FnI P w K mg base "added" 1 2 m_added :=
  fn_ok F sc_added rfl rfl hm (fun _ _ _ _ _ _ us hl => match us, hl with | [_, _], _ => rfl) (fun cdv A outer s H E hr =>
  (mss_cons (ms_set 2 (me_op om_add (me_var 0) (me_var 1)) sc_added.nd)
  (mss_cons (ms_if (mt_cmp om_gt (me_var 2) (T.e_LARGEST_NUMBER rfl) (nomark _))
  (mss_one (ms_ret (me_op om_sub (me_var 2) (me_op om_add (T.e_LARGEST_NUMBER rfl) me_int))))
  mss_nil)
  (mss_one (ms_ret (me_var 2))))))
/-! worked_out -/
abbrev s_worked_out : Stmt := top 15
theorem sc_worked_out : FnScope ["piece"] ["piece"] (defScope s_worked_out) := ⟨rfl, rfl, rfl, by decide +kernel, rfl, by decide +kernel, by decide +kernel⟩
noncomputable def b_worked_out : Sl → O :=
  (seqM (ifS (asB (op2 D.eq (op2 D.ix (varM 0) (cM (.int 0))) (cM (.str "sum"))))
  (retM (tupM (consA (cM (.str "num")) (consA (callM 2 m_added (consA (op2 D.ix (op2 D.ix (varM 0) (cM (.int 1))) (cM (.int 1))) (consA (op2 D.ix (op2 D.ix (varM 0) (cM (.int 2))) (cM (.int 1))) nilA))) nilA))))
  nextM)
  (seqM (ifS (asB (op2 D.eq (op2 D.ix (varM 0) (cM (.int 0))) (cM (.str "let"))))
  (retM (callM 3 (m_put_in 60) (consA (op2 D.ix (varM 0) (cM (.int 3))) (consA (op2 D.ix (varM 0) (cM (.int 1))) (consA (op2 D.ix (op2 D.ix (varM 0) (cM (.int 2))) (cM (.int 1))) nilA)))))
  nextM)
  (seqM (ifS (asB (op2 D.eq (op2 D.ix (varM 0) (cM (.int 0))) (cM (.str "choose"))))
  (retM (ifM (asB (op2 D.ne (op2 D.ix (op2 D.ix (varM 0) (cM (.int 1))) (cM (.int 1))) (cM (.int 0)))) (op2 D.ix (varM 0) (cM (.int 2))) (op2 D.ix (varM 0) (cM (.int 3)))))
  nextM)
  (retM (op2 D.ix (varM 0) (cM (.int 4)))))))
noncomputable def m_worked_out : List D → R D := fnM 1 0 b_worked_out
theorem ok_worked_out {P : Program} {w : World} {K : PySem.W.Frag} {mg : Str → Option Value} {base : Heap} (T : Tx K mg w) {f : Addr} {fd : FuncData} (F : Fun K "worked_out" "worked_out" s_worked_out f fd) (hm : mg "worked_out" = some (.ref f)) (G_put_in : FnF P w K mg base "put_in" 62 .pl 3 (mf_put_in 60)) (G_added : FnI P w K mg base "added" 1 2 m_added) : FnI P w K mg base "worked_out" 63 1 m_worked_out :=
  fn_ok F sc_worked_out rfl rfl hm (fun _ _ _ _ _ _ us hl => match us, hl with | [_], _ => rfl) (fun cdv A outer s H E hr =>
  (mss_cons (ms_if (mt_cmp om_eq (me_ix (me_var 0) me_int) me_str (nomark _))
  (mss_one (ms_ret (me_tup (ma_cons me_str (ma_cons (me_call (G_added.mono (by decide)) hr (passW_of (takes_of rfl rfl rfl rfl)) rfl (ma_cons (me_ix (me_ix (me_var 0) me_int) me_int) (ma_cons (me_ix (me_ix (me_var 0) me_int) me_int) ma_nil))) ma_nil)))))
  mss_nil)
  (mss_cons (ms_if (mt_cmp om_eq (me_ix (me_var 0) me_int) me_str (nomark _))
  (mss_one (ms_ret (me_call (G_put_in.plain.mono (by decide)) hr (passW_of (takes_of rfl rfl rfl rfl)) rfl (ma_cons (me_ix (me_var 0) me_int) (ma_cons (me_ix (me_var 0) me_int) (ma_cons (me_ix (me_ix (me_var 0) me_int) me_int) ma_nil))))))
  mss_nil)
  (mss_cons (ms_if (mt_cmp om_eq (me_ix (me_var 0) me_int) me_str (nomark _))
  (mss_one (ms_ret (me_if (mt_cmp om_ne (me_ix (me_ix (me_var 0) me_int) me_int) me_int (nomark _)) (me_ix (me_var 0) me_int) (me_ix (me_var 0) me_int))))
  mss_nil)
  (mss_one (ms_ret (me_ix (me_var 0) me_int)))))))
/-! step -/
abbrev s_step : Stmt := top 11
theorem sc_step : FnScope ["piece", "at", "around", "found"] ["piece"] (defScope s_step) := ⟨rfl, rfl, rfl, by decide +kernel, rfl, by decide +kernel, by decide +kernel⟩
noncomputable def b_step : Sl → O :=
  (seqM (unpM (tg2 (tgN 2) (tgN 3)) (callM 1 m_way_to_next (consA (varM 0) nilA)))
  (seqM (ifS (asB (op2 D.eq (op2 D.ix (varM 3) (cM (.int 0))) (cM (.str "num"))))
  (retM (cM .non))
  nextM)
  (seqM (ifS (asB (op2 D.ne (op2 D.ix (varM 3) (cM (.int 0))) (cM (.str "ask"))))
  (retM (callM 2 m_put_back (consA (varM 2) (consA (callM 1 m_worked_out (consA (varM 3) nilA)) nilA))))
  nextM)
  (seqM (asgM 1 (callM 2 m_nearest_hand (consA (varM 2) (consA (op2 D.ix (varM 3) (cM (.int 1))) nilA))))
  (seqM (ifS (asB (op2 D.is (varM 1) (cM .non)))
  (retM (cM .non))
  nextM)
  (retM (callM 2 m_put_back (consA (slM (varM 2) noM (someM (varM 1))) (consA (callM 2 m_answered_by_hand (consA (slM (varM 2) (someM (varM 1)) noM) (consA (varM 3) nilA))) nilA)))))))))
noncomputable def m_step : List D → R D := fnM 1 3 b_step
theorem ok_step {P : Program} {w : World} {K : PySem.W.Frag} {mg : Str → Option Value} {base : Heap} (T : Tx K mg w) {f : Addr} {fd : FuncData} (F : Fun K "step" "step" s_step f fd) (hm : mg "step" = some (.ref f)) (G_way_to_next : FnF P w K mg base "way_to_next" 2 (.tup [(.lst .pl), .pl]) 1 mf_way_to_next) (G_nearest_hand : FnI P w K mg base "nearest_hand" 1 2 m_nearest_hand) (G_put_back : FnI P w K mg base "put_back" 1 2 m_put_back) (G_answered_by_hand : FnI P w K mg base "answered_by_hand" 63 2 m_answered_by_hand) (G_worked_out : FnI P w K mg base "worked_out" 63 1 m_worked_out) : FnI P w K mg base "step" 64 1 m_step :=
  fn_ok F sc_step rfl rfl hm (fun _ _ _ _ _ _ us hl => match us, hl with | [_], _ => rfl) (fun cdv A outer s H E hr =>
  (mss_cons (ms_unp (me_call (G_way_to_next.plain.mono (by decide)) hr (passW_of (takes_of rfl rfl rfl rfl)) rfl (ma_cons (me_var 0) ma_nil)) (mg_two rfl (mg_name 2 sc_step.nd) (mg_name 3 sc_step.nd)))
  (mss_cons (ms_if (mt_cmp om_eq (me_ix (me_var 3) me_int) me_str (nomark _))
  (mss_one (ms_ret me_non))
  mss_nil)
  (mss_cons (ms_if (mt_cmp om_ne (me_ix (me_var 3) me_int) me_str (nomark _))
  (mss_one (ms_ret (me_call (G_put_back.mono (by decide)) hr (passW_of (takes_of rfl rfl rfl rfl)) rfl (ma_cons (me_var 2) (ma_cons (me_call (G_worked_out.mono (by decide)) hr (passW_of (takes_of rfl rfl rfl rfl)) rfl (ma_cons (me_var 3) ma_nil)) ma_nil)))))
  mss_nil)
  (mss_cons (ms_set 1 (me_call (G_nearest_hand.mono (by decide)) hr (passW_of (takes_of rfl rfl rfl rfl)) rfl (ma_cons (me_var 2) (ma_cons (me_ix (me_var 3) me_int) ma_nil))) sc_step.nd)
  (mss_cons (ms_if (mt_cmp om_is (me_var 1) me_non (nomark _))
  (mss_one (ms_ret me_non))
  mss_nil)
  (mss_one (ms_ret (me_call (G_put_back.mono (by decide)) hr (passW_of (takes_of rfl rfl rfl rfl)) rfl (ma_cons (me_sl (me_var 2) mo_none (mo_some (me_var 1))) (ma_cons (me_call (G_answered_by_hand.mono (by decide)) hr (passW_of (takes_of rfl rfl rfl rfl)) rfl (ma_cons (me_sl (me_var 2) (mo_some (me_var 1)) mo_none) (ma_cons (me_var 3) ma_nil))) ma_nil)))))))))))
/-! l_whole -/
abbrev s_l_whole : Stmt := top 30
theorem sc_l_whole : FnScope ["_law_found"] ["_law_found"] (defScope s_l_whole) := ⟨rfl, rfl, rfl, by decide +kernel, rfl, by decide +kernel, by decide +kernel⟩
noncomputable def b_l_whole : Sl → O :=
  (retM (andV (cbM bIsi (consA (varM 0) (consA (cM (.ty "int")) nilA))) (notV (cbM bIsi (consA (varM 0) (consA (cM (.ty "bool")) nilA))))))
noncomputable def m_l_whole : List D → R D := fnM 1 0 b_l_whole
theorem ok_l_whole {P : Program} {w : World} {K : PySem.W.Frag} {mg : Str → Option Value} {base : Heap} (T : Tx K mg w) {f : Addr} {fd : FuncData} (F : Fun K "_law_whole" "_law_whole" s_l_whole f fd) (hm : mg "_law_whole" = some (.ref f))  : FnI P w K mg base "_law_whole" 1 1 m_l_whole :=
  fn_ok F sc_l_whole rfl rfl hm (fun _ _ _ _ _ _ us hl => match us, hl with | [_], _ => rfl) (fun cdv A outer s H E hr =>
  (mss_one (ms_ret (me_and (me_cb cb_isi rfl T.n_isinstance (by decide +kernel) (ma_cons (me_var 0) (ma_cons (me_bltn (v := .ty "int") rfl T.n_int (by decide +kernel) rfl (fun _ _ => .ty _)) ma_nil))) (me_one (me_not (me_cb cb_isi rfl T.n_isinstance (by decide +kernel) (ma_cons (me_var 0) (ma_cons (me_bltn (v := .ty "bool") rfl T.n_bool (by decide +kernel) rfl (fun _ _ => .ty _)) ma_nil)))))))))
/-! l_alike -/
abbrev s_l_alike : Stmt := top 31
theorem sc_l_alike : FnScope ["_law_found", "_law_due", "_law_k"] ["_law_found", "_law_due"] (defScope s_l_alike) := ⟨rfl, rfl, rfl, by decide +kernel, rfl, by decide +kernel, by decide +kernel⟩
noncomputable def le_l_alike_0 (rec : List D → R D) : Sl → R D :=
  (callM 2 rec (consA (op2 D.ix (varM 0) (varM 2)) (consA (op2 D.ix (varM 1) (varM 2)) nilA)))
noncomputable def b_l_alike (rec : List D → R D) : Sl → O :=
  (seqM (ifS (asB (cbM bIsi (consA (varM 1) (consA (cM (.ty "tuple")) nilA))))
  (seqM (ifS (orB (notB (asB (cbM bIsi (consA (varM 0) (consA (cM (.ty "tuple")) nilA))))) (asB (op2 D.ne (cbM bLen (consA (varM 0) nilA)) (cbM bLen (consA (varM 1) nilA)))))
  (retM (cM (.bl false)))
  nextM)
  (retM (cbM bAll (consA (lcM (rngM (consA (cbM bLen (consA (varM 1) nilA)) nilA)) [2] (tgN 2) yesM (le_l_alike_0 rec)) nilA))))
  nextM)
  (seqM (ifS (asB (cbM bIsi (consA (varM 1) (consA (cM (.ty "str")) nilA))))
  (retM (andV (cbM bIsi (consA (varM 0) (consA (cM (.ty "str")) nilA))) (op2 D.eq (varM 0) (varM 1))))
  nextM)
  (retM (andV (callM 1 m_l_whole (consA (varM 0) nilA)) (op2 D.eq (varM 0) (varM 1))))))
noncomputable def m_l_alike : Nat → List D → R D
  | 0 => fun _ => .bad
  | k + 1 => fnM 2 1 (b_l_alike (m_l_alike k))
theorem body_l_alike {P : Program} {w : World} {K : PySem.W.Frag} {mg : Str → Option Value} {base : Heap} (T : Tx K mg w) {k : Nat} {mr : List D → R D} (G_l_whole : FnI P w K mg base "_law_whole" 1 1 m_l_whole) (G_l_alike : FnI P w K mg base "_law_alike" (k + 2) 2 mr) (cdv : Value) (f : Addr) (A : Around) (outer : List Env) (s : Shared) (H : Hp) (E : XK) (hr : Room (k + 2) (A.deeper (PyProof.Rows.envOfC "_law_alike" (defScope s_l_alike) s.heap.objs.size f cdv))) :
    MSs (cxOf (L2.CX P w) P w K mg base ["_law_found", "_law_due", "_law_k"] "_law_alike" (defScope s_l_alike) f cdv A outer s H E) (fun cls d _ H' => E cls d H') (defBody s_l_alike) (b_l_alike mr) :=
  (mss_cons (ms_if (mt_val (me_cb cb_isi rfl T.n_isinstance (by decide +kernel) (ma_cons (me_var 1) (ma_cons (me_bltn (v := .ty "tuple") rfl T.n_tuple (by decide +kernel) rfl (fun _ _ => .ty _)) ma_nil))))
  (mss_cons (ms_if (MW.mt (mw_or (mt_not (mt_val (me_cb cb_isi rfl T.n_isinstance (by decide +kernel) (ma_cons (me_var 0) (ma_cons (me_bltn (v := .ty "tuple") rfl T.n_tuple (by decide +kernel) rfl (fun _ _ => .ty _)) ma_nil))))) (mw_or1 (mt_cmp om_ne (me_cb cb_len rfl T.n_len PySem.boot_len (ma_cons (me_var 0) ma_nil)) (me_cb cb_len rfl T.n_len PySem.boot_len (ma_cons (me_var 1) ma_nil)) (nomark _)))))
  (mss_one (ms_ret me_bl))
  mss_nil)
  (mss_one (ms_ret (me_cb (cb_all rfl) rfl T.n_all (by decide +kernel) (ma_cons (me_lc 2 rfl sc_l_alike.nd (mi_range rfl T.n_range (ma_cons (me_cb cb_len rfl T.n_len PySem.boot_len (ma_cons (me_var 1) ma_nil)) ma_nil)) (blkOk_by (N := ["_law_found", "_law_due", "_law_k"]) (sc := defScope s_l_alike) (by decide +kernel)) (fun _ _ _ _ _ => pg_name (i := 2) sc_l_alike.nd rfl (Or.inl rfl))  (fun _ _ _ _ _ => (me_call (G_l_alike) hr passW0 rfl (ma_cons (me_ix (me_var 0) (me_var 2)) (ma_cons (me_ix (me_var 1) (me_var 2)) ma_nil))))) ma_nil)))))
  mss_nil)
  (mss_cons (ms_if (mt_val (me_cb cb_isi rfl T.n_isinstance (by decide +kernel) (ma_cons (me_var 1) (ma_cons (me_bltn (v := .ty "str") rfl T.n_str (by decide +kernel) rfl (fun _ _ => .ty _)) ma_nil))))
  (mss_one (ms_ret (me_and (me_cb cb_isi rfl T.n_isinstance (by decide +kernel) (ma_cons (me_var 0) (ma_cons (me_bltn (v := .ty "str") rfl T.n_str (by decide +kernel) rfl (fun _ _ => .ty _)) ma_nil))) (me_one (me_cmp om_eq (me_var 0) (me_var 1) (nomark _))))))
  mss_nil)
  (mss_one (ms_ret (me_and (me_call (G_l_whole.mono (by omega)) hr (passW_of (takes_of rfl rfl rfl rfl)) rfl (ma_cons (me_var 0) ma_nil)) (me_one (me_cmp om_eq (me_var 0) (me_var 1) (nomark _))))))))
theorem ok_l_alike {P : Program} {w : World} {K : PySem.W.Frag} {mg : Str → Option Value} {base : Heap} (T : Tx K mg w) {f : Addr} {fd : FuncData} (F : Fun K "_law_alike" "_law_alike" s_l_alike f fd) (hm : mg "_law_alike" = some (.ref f)) (G_l_whole : FnI P w K mg base "_law_whole" 1 1 m_l_whole) : ∀ k : Nat, FnI P w K mg base "_law_alike" (k + 2) 2 (m_l_alike k)
  | 0 => fn_none (ps := ["_law_found", "_law_due"]) F rfl hm (fun _ _ _ _ _ _ us hl => match us, hl with | [_, _], _ => rfl)
  | k + 1 => by
    have e : k + 1 + 2 = (k + 2) + 1 := by omega
    rw [e]
    exact fn_ok F sc_l_alike rfl rfl hm (fun _ _ _ _ _ _ us hl => match us, hl with | [_, _], _ => rfl) (fun cdv A outer s H E hr => body_l_alike T G_l_whole (ok_l_alike T F hm G_l_whole k) cdv f A outer s H E hr)
/-! stands_at -/
abbrev s_stands_at : Stmt := top 10
theorem sc_stands_at : FnScope ["piece", "around", "found"] ["piece"] (defScope s_stands_at) := ⟨rfl, rfl, rfl, by decide +kernel, rfl, by decide +kernel, by decide +kernel⟩
noncomputable def b_stands_at : Sl → O :=
  (seqM (unpM (tg2 (tgN 1) (tgN 2)) (callM 1 m_way_to_next (consA (varM 0) nilA)))
  (seqM (ifS (orB (asB (op2 D.ne (op2 D.ix (varM 2) (cM (.int 0))) (cM (.str "ask")))) (asB (op2 D.isnt (callM 2 m_nearest_hand (consA (varM 1) (consA (op2 D.ix (varM 2) (cM (.int 1))) nilA))) (cM .non))))
  (retM (cM .non))
  nextM)
  (retM (tupM (consA (op2 D.ix (varM 2) (cM (.int 1))) (consA (op2 D.ix (op2 D.ix (varM 2) (cM (.int 2))) (cM (.int 1))) nilA))))))
noncomputable def m_stands_at : List D → R D := fnM 1 2 b_stands_at
theorem ok_stands_at {P : Program} {w : World} {K : PySem.W.Frag} {mg : Str → Option Value} {base : Heap} (T : Tx K mg w) {f : Addr} {fd : FuncData} (F : Fun K "stands_at" "stands_at" s_stands_at f fd) (hm : mg "stands_at" = some (.ref f)) (G_way_to_next : FnF P w K mg base "way_to_next" 2 (.tup [(.lst .pl), .pl]) 1 mf_way_to_next) (G_nearest_hand : FnI P w K mg base "nearest_hand" 1 2 m_nearest_hand) : FnI P w K mg base "stands_at" 3 1 m_stands_at :=
  fn_ok F sc_stands_at rfl rfl hm (fun _ _ _ _ _ _ us hl => match us, hl with | [_], _ => rfl) (fun cdv A outer s H E hr =>
  (mss_cons (ms_unp (me_call (G_way_to_next.plain.mono (by decide)) hr (passW_of (takes_of rfl rfl rfl rfl)) rfl (ma_cons (me_var 0) ma_nil)) (mg_two rfl (mg_name 1 sc_stands_at.nd) (mg_name 2 sc_stands_at.nd)))
  (mss_cons (ms_if (MW.mt (mw_or (mt_cmp om_ne (me_ix (me_var 2) me_int) me_str (nomark _)) (mw_or1 (mt_cmp om_isnt (me_call (G_nearest_hand.mono (by decide)) hr (passW_of (takes_of rfl rfl rfl rfl)) rfl (ma_cons (me_var 1) (ma_cons (me_ix (me_var 2) me_int) ma_nil))) me_non (nomark _)))))
  (mss_one (ms_ret me_non))
  mss_nil)
  (mss_one (ms_ret (me_tup (ma_cons (me_ix (me_var 2) me_int) (ma_cons (me_ix (me_ix (me_var 2) me_int) me_int) ma_nil))))))))
/-! law -/
abbrev s_law : Stmt := top 33
theorem sc_law : FnScope ["_law_script", "_law_names_here", "_law_piece_here", "_law_state", "_law_due", "_law_k"] ["_law_script"] (defScope s_law) := ⟨rfl, rfl, rfl, by decide +kernel, rfl, by decide +kernel, by decide +kernel⟩
abbrev sh_law : List Sh := [.pl, .pl, .pl, (.lst .pl), .pl, .pl]
noncomputable def lb_law_0 : Sl → OQ :=
  (seqQ (ifQ (nH sh_law (orB (notB (asB (cbM bIsi (consA (varM 2) (consA (cM (.ty "tuple")) nilA))))) (asB (op2 D.isnt (callM 1 m_stands_at (consA (varM 2) nilA)) (cM .non)))))
  (retQ (qN (nH sh_law (cM (.bl false)))))
  nextQ)
  (asgQ 2 (qN (nH sh_law (callM 1 m_step (consA (varM 2) nilA))))))
noncomputable def bs_law_0 : Sl → OQ :=
  (asgQ 1 (qN (nH sh_law (callM 1 m_l_names (consA (callM 2 m_l_cell_at (consA (varM 0) (consA (cM (.int 0)) nilA))) nilA)))))
noncomputable def bs_law_1 : Sl → OQ :=
  (asgQ 2 (qN (nH sh_law (callM 3 m_l_piece (consA (slM (varM 0) (someM (cM (.int 1))) (someM (cM (.int 31)))) (consA (varM 1) (consA (cM (.int 5)) nilA)))))))
noncomputable def bs_law_2 : Sl → OQ :=
  (asgQ 3 (qLst qNil))
noncomputable def bs_law_3 : Sl → OQ :=
  (asgQ 4 (qCallO 3 2 (mq_l_went 60) (qCons (qN (nH sh_law (varM 2))) (qCons (qN (nH sh_law (cM (.dct [])))) (ownL 3)))))
noncomputable def bs_law_4 : Sl → OQ :=
  (forQ (rngM (consA (cbM bLen (consA (varM 3) nilA)) nilA)) (tgN 5)
  lb_law_0)
noncomputable def bs_law_5 : Sl → OQ :=
  (retQ (qN (nH sh_law (andV (callM 2 (m_l_alike 60) (consA (varM 2) (consA (tupM (consA (cM (.str "num")) (consA (varM 4) nilA))) nilA))) (andV (op2 D.is (callM 1 m_step (consA (varM 2) nilA)) (cM .non)) (op2 D.is (callM 1 m_stands_at (consA (varM 2) nilA)) (cM .non)))))))
noncomputable def bt_law_5 : Sl → OQ := bs_law_5
noncomputable def bt_law_4 : Sl → OQ := seqQ bs_law_4 bt_law_5
noncomputable def bt_law_3 : Sl → OQ := seqQ bs_law_3 bt_law_4
noncomputable def bt_law_2 : Sl → OQ := seqQ bs_law_2 bt_law_3
noncomputable def bt_law_1 : Sl → OQ := seqQ bs_law_1 bt_law_2
noncomputable def bt_law_0 : Sl → OQ := seqQ bs_law_0 bt_law_1
noncomputable def b_law : Sl → OQ :=
  (seqQ (asgQ 1 (qN (nH sh_law (callM 1 m_l_names (consA (callM 2 m_l_cell_at (consA (varM 0) (consA (cM (.int 0)) nilA))) nilA)))))
  (seqQ (asgQ 2 (qN (nH sh_law (callM 3 m_l_piece (consA (slM (varM 0) (someM (cM (.int 1))) (someM (cM (.int 31)))) (consA (varM 1) (consA (cM (.int 5)) nilA)))))))
  (seqQ (asgQ 3 (qLst qNil))
  (seqQ (asgQ 4 (qCallO 3 2 (mq_l_went 60) (qCons (qN (nH sh_law (varM 2))) (qCons (qN (nH sh_law (cM (.dct [])))) (ownL 3)))))
  (seqQ (forQ (rngM (consA (cbM bLen (consA (varM 3) nilA)) nilA)) (tgN 5)
  lb_law_0)
  (retQ (qN (nH sh_law (andV (callM 2 (m_l_alike 60) (consA (varM 2) (consA (tupM (consA (cM (.str "num")) (consA (varM 4) nilA))) nilA))) (andV (op2 D.is (callM 1 m_step (consA (varM 2) nilA)) (cM .non)) (op2 D.is (callM 1 m_stands_at (consA (varM 2) nilA)) (cM .non))))))))))))
theorem bt_law : b_law = bt_law_0 := rfl
noncomputable def mf_law : List D → R D := fnF 1 5 b_law
noncomputable def m_law : List D → R D := fun ds => noErr (mf_law ds)
theorem okR_law {P : Program} {w : World} {K : PySem.W.Frag} {mg : Str → Option Value} {base : Heap} (T : Tx K mg w) {f : Addr} {fd : FuncData} (F : Fun K "law" "law" s_law f fd) (hm : mg "law" = some (.ref f)) (G_l_names : FnI P w K mg base "_law_names" 1 1 m_l_names) (G_l_piece : FnI P w K mg base "_law_piece" 4 3 m_l_piece) (G_l_went : FnQ P w K mg base "_law_went" 61 (.lst .pl) .pl 2 (mq_l_went 60)) (G_l_cell_at : FnI P w K mg base "_law_cell_at" 1 2 m_l_cell_at) (G_step : FnI P w K mg base "step" 64 1 m_step) (G_l_alike : FnI P w K mg base "_law_alike" 62 2 (m_l_alike 60)) (G_stands_at : FnI P w K mg base "stands_at" 3 1 m_stands_at) : FnOk P w K mg base (L2.CX P w) 65 f fd ["_law_script"] (spR K .pl 1 mf_law) :=
  fn_fR (L := [.pl, .pl, (.lst .pl), .pl, .pl]) F sc_law rfl rfl rfl (fun cdv A outer s H E hr =>
  (qss_cons (qs_set 1 (by decide) rfl (mq_n (mn_h (me_call (G_l_names.mono (by decide)) hr (passW_of (takes_of rfl rfl rfl rfl)) rfl (ma_cons (me_call (G_l_cell_at.mono (by decide)) hr (passW_of (takes_of rfl rfl rfl rfl)) rfl (ma_cons (me_var 0) (ma_cons me_int ma_nil))) ma_nil)))) sc_law.nd)
  (qss_cons (qs_set 2 (by decide) rfl (mq_n (mn_h (me_call (G_l_piece.mono (by decide)) hr (passW_of (takes_of rfl rfl rfl rfl)) rfl (ma_cons (me_sl (me_var 0) (mo_some me_int) (mo_some me_int)) (ma_cons (me_var 1) (ma_cons me_int ma_nil)))))) sc_law.nd)
  (qss_cons (qs_set 3 (by decide) rfl (mq_lst (n := 0) (s1 := .pl) mqa_nil) sc_law.nd)
  (qss_cons (qs_set 4 (by decide) rfl (mq_callO rfl (G_l_went.mono (by decide)) hr rfl (mqo_cons (mq_n (mn_h (me_var 2))) (mqo_cons (mq_n (mn_h me_dict0)) (mqo_last 3)))) sc_law.nd)
  (qss_cons (qs_for (passes_of rfl) rfl (mni_rngV rfl T.n_range (ma_cons (me_cb cb_len rfl T.n_len PySem.boot_len (ma_cons (me_var 3) ma_nil)) ma_nil)) (qg_name 5 (by decide) rfl sc_law.nd)
  (qss_cons (qs_if (mnb_h (MW.mt (mw_or (mt_not (mt_val (me_cb cb_isi rfl T.n_isinstance (by decide +kernel) (ma_cons (me_var 2) (ma_cons (me_bltn (v := .ty "tuple") rfl T.n_tuple (by decide +kernel) rfl (fun _ _ => .ty _)) ma_nil))))) (mw_or1 (mt_cmp om_isnt (me_call (G_stands_at.mono (by decide)) hr (passW_of (takes_of rfl rfl rfl rfl)) rfl (ma_cons (me_var 2) ma_nil)) me_non (nomark _))))))
  (qss_one (qs_ret (mq_n (mn_h me_bl))))
  qss_nil)
  (qss_one (qs_set 2 (by decide) rfl (mq_n (mn_h (me_call (G_step.mono (by decide)) hr (passW_of (takes_of rfl rfl rfl rfl)) rfl (ma_cons (me_var 2) ma_nil)))) sc_law.nd))))
  (qss_one (qs_ret (mq_n (mn_h (me_and (me_call (G_l_alike.mono (by decide)) hr (passW_of (takes_of rfl rfl rfl rfl)) rfl (ma_cons (me_var 2) (ma_cons (me_tup (ma_cons me_str (ma_cons (me_var 4) ma_nil))) ma_nil))) (me_and (me_cmp om_is (me_call (G_step.mono (by decide)) hr (passW_of (takes_of rfl rfl rfl rfl)) rfl (ma_cons (me_var 2) ma_nil)) me_non (nomark _)) (me_one (me_cmp om_is (me_call (G_stands_at.mono (by decide)) hr (passW_of (takes_of rfl rfl rfl rfl)) rfl (ma_cons (me_var 2) ma_nil)) me_non (nomark _)))))))))))))))
theorem all_mk {P : Program} {w : World} {K : PySem.W.Frag} {h : Heap} {mg : Str → Option Value} {fa : Addr} (X : K.In h) (G : h.Ns mainGlobals mg) (hfa : mg "law" = some (.ref fa))
    {f0 : Addr} {od0 an0 : Option Addr} {sl0 : Array (Option Value)} {oc0 kV0 dc0 pm0 cd0 ct0 : Value}
    {f1 : Addr} {od1 an1 : Option Addr} {sl1 : Array (Option Value)} {oc1 kV1 dc1 pm1 cd1 ct1 : Value}
    {f2 : Addr} {od2 an2 : Option Addr} {sl2 : Array (Option Value)} {oc2 kV2 dc2 pm2 cd2 ct2 : Value}
    {f3 : Addr} {od3 an3 : Option Addr} {sl3 : Array (Option Value)} {oc3 kV3 dc3 pm3 cd3 ct3 : Value}
    {f4 : Addr} {od4 an4 : Option Addr} {sl4 : Array (Option Value)} {oc4 kV4 dc4 pm4 cd4 ct4 : Value}
    {f5 : Addr} {od5 an5 : Option Addr} {sl5 : Array (Option Value)} {oc5 kV5 dc5 pm5 cd5 ct5 : Value}
    {f6 : Addr} {od6 an6 : Option Addr} {sl6 : Array (Option Value)} {oc6 kV6 dc6 pm6 cd6 ct6 : Value}
    {f7 : Addr} {od7 an7 : Option Addr} {sl7 : Array (Option Value)} {oc7 kV7 dc7 pm7 cd7 ct7 : Value}
    {f8 : Addr} {od8 an8 : Option Addr} {sl8 : Array (Option Value)} {oc8 kV8 dc8 pm8 cd8 ct8 : Value}
    {f9 : Addr} {od9 an9 : Option Addr} {sl9 : Array (Option Value)} {oc9 kV9 dc9 pm9 cd9 ct9 : Value}
    {f10 : Addr} {od10 an10 : Option Addr} {sl10 : Array (Option Value)} {oc10 kV10 dc10 pm10 cd10 ct10 : Value}
    {f11 : Addr} {od11 an11 : Option Addr} {sl11 : Array (Option Value)} {oc11 kV11 dc11 pm11 cd11 ct11 : Value}
    {f12 : Addr} {od12 an12 : Option Addr} {sl12 : Array (Option Value)} {oc12 kV12 dc12 pm12 cd12 ct12 : Value}
    {f13 : Addr} {od13 an13 : Option Addr} {sl13 : Array (Option Value)} {oc13 kV13 dc13 pm13 cd13 ct13 : Value}
    {f14 : Addr} {od14 an14 : Option Addr} {sl14 : Array (Option Value)} {oc14 kV14 dc14 pm14 cd14 ct14 : Value}
    {f15 : Addr} {od15 an15 : Option Addr} {sl15 : Array (Option Value)} {oc15 kV15 dc15 pm15 cd15 ct15 : Value}
    {f16 : Addr} {od16 an16 : Option Addr} {sl16 : Array (Option Value)} {oc16 kV16 dc16 pm16 cd16 ct16 : Value}
    {f17 : Addr} {od17 an17 : Option Addr} {sl17 : Array (Option Value)} {oc17 kV17 dc17 pm17 cd17 ct17 : Value}
    {f18 : Addr} {od18 an18 : Option Addr} {sl18 : Array (Option Value)} {oc18 kV18 dc18 pm18 cd18 ct18 : Value}
    {f19 : Addr} {od19 an19 : Option Addr} {sl19 : Array (Option Value)} {oc19 kV19 dc19 pm19 cd19 ct19 : Value}
    {f20 : Addr} {od20 an20 : Option Addr} {sl20 : Array (Option Value)} {oc20 kV20 dc20 pm20 cd20 ct20 : Value}
    {f21 : Addr} {od21 an21 : Option Addr} {sl21 : Array (Option Value)} {oc21 kV21 dc21 pm21 cd21 ct21 : Value}
    {f22 : Addr} {od22 an22 : Option Addr} {sl22 : Array (Option Value)} {oc22 kV22 dc22 pm22 cd22 ct22 : Value}
    {f23 : Addr} {od23 an23 : Option Addr} {sl23 : Array (Option Value)} {oc23 kV23 dc23 pm23 cd23 ct23 : Value}
    {f24 : Addr} {od24 an24 : Option Addr} {sl24 : Array (Option Value)} {oc24 kV24 dc24 pm24 cd24 ct24 : Value}
    {f25 : Addr} {od25 an25 : Option Addr} {sl25 : Array (Option Value)} {oc25 kV25 dc25 pm25 cd25 ct25 : Value}
    {ad_FORMS : Addr} {es_FORMS : Array DictEntry} {n_FORMS : Nat}
    {tk_LARGEST_NUMBER : Tok}
    {ad_WORKED_OUT : Addr} {es_WORKED_OUT : Array DictEntry} {n_WORKED_OUT : Nat}
    (fa0 : PySem.W.nsIn K mainGlobals "_law_names" = some (some (.ref f0)))
    (fl0 : K.lookup f0 = some ⟨oc0, od0, .func (PySem.W.fnOf "_law_names" "_law_names" (defArgs s_l_names) (defBody s_l_names) (defScope s_l_names) .none kV0 dc0 pm0 an0 cd0 ct0), sl0⟩)
    (fc0 : PySem.W.codeIn K cd0 "_law_names" = true)
    (fk0 : PySem.W.keepIn K (.ref f0) = true)
    (fa1 : PySem.W.nsIn K mainGlobals "_law_made" = some (some (.ref f1)))
    (fl1 : K.lookup f1 = some ⟨oc1, od1, .func (PySem.W.fnOf "_law_made" "_law_made" (defArgs s_l_made) (defBody s_l_made) (defScope s_l_made) .none kV1 dc1 pm1 an1 cd1 ct1), sl1⟩)
    (fc1 : PySem.W.codeIn K cd1 "_law_made" = true)
    (fk1 : PySem.W.keepIn K (.ref f1) = true)
    (fa2 : PySem.W.nsIn K mainGlobals "_law_leaf" = some (some (.ref f2)))
    (fl2 : K.lookup f2 = some ⟨oc2, od2, .func (PySem.W.fnOf "_law_leaf" "_law_leaf" (defArgs s_l_leaf) (defBody s_l_leaf) (defScope s_l_leaf) .none kV2 dc2 pm2 an2 cd2 ct2), sl2⟩)
    (fc2 : PySem.W.codeIn K cd2 "_law_leaf" = true)
    (fk2 : PySem.W.keepIn K (.ref f2) = true)
    (fa3 : PySem.W.nsIn K mainGlobals "_law_put" = some (some (.ref f3)))
    (fl3 : K.lookup f3 = some ⟨oc3, od3, .func (PySem.W.fnOf "_law_put" "_law_put" (defArgs s_l_put) (defBody s_l_put) (defScope s_l_put) .none kV3 dc3 pm3 an3 cd3 ct3), sl3⟩)
    (fc3 : PySem.W.codeIn K cd3 "_law_put" = true)
    (fk3 : PySem.W.keepIn K (.ref f3) = true)
    (fa4 : PySem.W.nsIn K mainGlobals "_law_mixed" = some (some (.ref f4)))
    (fl4 : K.lookup f4 = some ⟨oc4, od4, .func (PySem.W.fnOf "_law_mixed" "_law_mixed" (defArgs s_l_mixed) (defBody s_l_mixed) (defScope s_l_mixed) .none kV4 dc4 pm4 an4 cd4 ct4), sl4⟩)
    (fc4 : PySem.W.codeIn K cd4 "_law_mixed" = true)
    (fk4 : PySem.W.keepIn K (.ref f4) = true)
    (fa5 : PySem.W.nsIn K mainGlobals "_law_open_piece" = some (some (.ref f5)))
    (fl5 : K.lookup f5 = some ⟨oc5, od5, .func (PySem.W.fnOf "_law_open_piece" "_law_open_piece" (defArgs s_l_open_piece) (defBody s_l_open_piece) (defScope s_l_open_piece) .none kV5 dc5 pm5 an5 cd5 ct5), sl5⟩)
    (fc5 : PySem.W.codeIn K cd5 "_law_open_piece" = true)
    (fk5 : PySem.W.keepIn K (.ref f5) = true)
    (fa6 : PySem.W.nsIn K mainGlobals "_law_piece" = some (some (.ref f6)))
    (fl6 : K.lookup f6 = some ⟨oc6, od6, .func (PySem.W.fnOf "_law_piece" "_law_piece" (defArgs s_l_piece) (defBody s_l_piece) (defScope s_l_piece) .none kV6 dc6 pm6 an6 cd6 ct6), sl6⟩)
    (fc6 : PySem.W.codeIn K cd6 "_law_piece" = true)
    (fk6 : PySem.W.keepIn K (.ref f6) = true)
    (fa7 : PySem.W.nsIn K mainGlobals "_law_went" = some (some (.ref f7)))
    (fl7 : K.lookup f7 = some ⟨oc7, od7, .func (PySem.W.fnOf "_law_went" "_law_went" (defArgs s_l_went) (defBody s_l_went) (defScope s_l_went) .none kV7 dc7 pm7 an7 cd7 ct7), sl7⟩)
    (fc7 : PySem.W.codeIn K cd7 "_law_went" = true)
    (fk7 : PySem.W.keepIn K (.ref f7) = true)
    (fa8 : PySem.W.nsIn K mainGlobals "_law_cell_at" = some (some (.ref f8)))
    (fl8 : K.lookup f8 = some ⟨oc8, od8, .func (PySem.W.fnOf "_law_cell_at" "_law_cell_at" (defArgs s_l_cell_at) (defBody s_l_cell_at) (defScope s_l_cell_at) .none kV8 dc8 pm8 an8 cd8 ct8), sl8⟩)
    (fc8 : PySem.W.codeIn K cd8 "_law_cell_at" = true)
    (fk8 : PySem.W.keepIn K (.ref f8) = true)
    (fa9 : PySem.W.nsIn K mainGlobals "next_at" = some (some (.ref f9)))
    (fl9 : K.lookup f9 = some ⟨oc9, od9, .func (PySem.W.fnOf "next_at" "next_at" (defArgs s_next_at) (defBody s_next_at) (defScope s_next_at) .none kV9 dc9 pm9 an9 cd9 ct9), sl9⟩)
    (fc9 : PySem.W.codeIn K cd9 "next_at" = true)
    (fk9 : PySem.W.keepIn K (.ref f9) = true)
    (fa10 : PySem.W.nsIn K mainGlobals "way_to_next" = some (some (.ref f10)))
    (fl10 : K.lookup f10 = some ⟨oc10, od10, .func (PySem.W.fnOf "way_to_next" "way_to_next" (defArgs s_way_to_next) (defBody s_way_to_next) (defScope s_way_to_next) .none kV10 dc10 pm10 an10 cd10 ct10), sl10⟩)
    (fc10 : PySem.W.codeIn K cd10 "way_to_next" = true)
    (fk10 : PySem.W.keepIn K (.ref f10) = true)
    (fa11 : PySem.W.nsIn K mainGlobals "nearest_hand" = some (some (.ref f11)))
    (fl11 : K.lookup f11 = some ⟨oc11, od11, .func (PySem.W.fnOf "nearest_hand" "nearest_hand" (defArgs s_nearest_hand) (defBody s_nearest_hand) (defScope s_nearest_hand) .none kV11 dc11 pm11 an11 cd11 ct11), sl11⟩)
    (fc11 : PySem.W.codeIn K cd11 "nearest_hand" = true)
    (fk11 : PySem.W.keepIn K (.ref f11) = true)
    (fa12 : PySem.W.nsIn K mainGlobals "put_back" = some (some (.ref f12)))
    (fl12 : K.lookup f12 = some ⟨oc12, od12, .func (PySem.W.fnOf "put_back" "put_back" (defArgs s_put_back) (defBody s_put_back) (defScope s_put_back) .none kV12 dc12 pm12 an12 cd12 ct12), sl12⟩)
    (fc12 : PySem.W.codeIn K cd12 "put_back" = true)
    (fk12 : PySem.W.keepIn K (.ref f12) = true)
    (fa13 : PySem.W.nsIn K mainGlobals "places_of" = some (some (.ref f13)))
    (fl13 : K.lookup f13 = some ⟨oc13, od13, .func (PySem.W.fnOf "places_of" "places_of" (defArgs s_places_of) (defBody s_places_of) (defScope s_places_of) .none kV13 dc13 pm13 an13 cd13 ct13), sl13⟩)
    (fc13 : PySem.W.codeIn K cd13 "places_of" = true)
    (fk13 : PySem.W.keepIn K (.ref f13) = true)
    (fa14 : PySem.W.nsIn K mainGlobals "told_at" = some (some (.ref f14)))
    (fl14 : K.lookup f14 = some ⟨oc14, od14, .func (PySem.W.fnOf "told_at" "told_at" (defArgs s_told_at) (defBody s_told_at) (defScope s_told_at) .none kV14 dc14 pm14 an14 cd14 ct14), sl14⟩)
    (fc14 : PySem.W.codeIn K cd14 "told_at" = true)
    (fk14 : PySem.W.keepIn K (.ref f14) = true)
    (fa15 : PySem.W.nsIn K mainGlobals "put_in" = some (some (.ref f15)))
    (fl15 : K.lookup f15 = some ⟨oc15, od15, .func (PySem.W.fnOf "put_in" "put_in" (defArgs s_put_in) (defBody s_put_in) (defScope s_put_in) .none kV15 dc15 pm15 an15 cd15 ct15), sl15⟩)
    (fc15 : PySem.W.codeIn K cd15 "put_in" = true)
    (fk15 : PySem.W.keepIn K (.ref f15) = true)
    (fa16 : PySem.W.nsIn K mainGlobals "names_in" = some (some (.ref f16)))
    (fl16 : K.lookup f16 = some ⟨oc16, od16, .func (PySem.W.fnOf "names_in" "names_in" (defArgs s_names_in) (defBody s_names_in) (defScope s_names_in) .none kV16 dc16 pm16 an16 cd16 ct16), sl16⟩)
    (fc16 : PySem.W.codeIn K cd16 "names_in" = true)
    (fk16 : PySem.W.keepIn K (.ref f16) = true)
    (fa17 : PySem.W.nsIn K mainGlobals "free_name" = some (some (.ref f17)))
    (fl17 : K.lookup f17 = some ⟨oc17, od17, .func (PySem.W.fnOf "free_name" "free_name" (defArgs s_free_name) (defBody s_free_name) (defScope s_free_name) .none kV17 dc17 pm17 an17 cd17 ct17), sl17⟩)
    (fc17 : PySem.W.codeIn K cd17 "free_name" = true)
    (fk17 : PySem.W.keepIn K (.ref f17) = true)
    (fa18 : PySem.W.nsIn K mainGlobals "answered_by_hand" = some (some (.ref f18)))
    (fl18 : K.lookup f18 = some ⟨oc18, od18, .func (PySem.W.fnOf "answered_by_hand" "answered_by_hand" (defArgs s_answered_by_hand) (defBody s_answered_by_hand) (defScope s_answered_by_hand) .none kV18 dc18 pm18 an18 cd18 ct18), sl18⟩)
    (fc18 : PySem.W.codeIn K cd18 "answered_by_hand" = true)
    (fk18 : PySem.W.keepIn K (.ref f18) = true)
    (fa19 : PySem.W.nsIn K mainGlobals "added" = some (some (.ref f19)))
    (fl19 : K.lookup f19 = some ⟨oc19, od19, .func (PySem.W.fnOf "added" "added" (defArgs s_added) (defBody s_added) (defScope s_added) .none kV19 dc19 pm19 an19 cd19 ct19), sl19⟩)
    (fc19 : PySem.W.codeIn K cd19 "added" = true)
    (fk19 : PySem.W.keepIn K (.ref f19) = true)
    (fa20 : PySem.W.nsIn K mainGlobals "worked_out" = some (some (.ref f20)))
    (fl20 : K.lookup f20 = some ⟨oc20, od20, .func (PySem.W.fnOf "worked_out" "worked_out" (defArgs s_worked_out) (defBody s_worked_out) (defScope s_worked_out) .none kV20 dc20 pm20 an20 cd20 ct20), sl20⟩)
    (fc20 : PySem.W.codeIn K cd20 "worked_out" = true)
    (fk20 : PySem.W.keepIn K (.ref f20) = true)
    (fa21 : PySem.W.nsIn K mainGlobals "step" = some (some (.ref f21)))
    (fl21 : K.lookup f21 = some ⟨oc21, od21, .func (PySem.W.fnOf "step" "step" (defArgs s_step) (defBody s_step) (defScope s_step) .none kV21 dc21 pm21 an21 cd21 ct21), sl21⟩)
    (fc21 : PySem.W.codeIn K cd21 "step" = true)
    (fk21 : PySem.W.keepIn K (.ref f21) = true)
    (fa22 : PySem.W.nsIn K mainGlobals "_law_whole" = some (some (.ref f22)))
    (fl22 : K.lookup f22 = some ⟨oc22, od22, .func (PySem.W.fnOf "_law_whole" "_law_whole" (defArgs s_l_whole) (defBody s_l_whole) (defScope s_l_whole) .none kV22 dc22 pm22 an22 cd22 ct22), sl22⟩)
    (fc22 : PySem.W.codeIn K cd22 "_law_whole" = true)
    (fk22 : PySem.W.keepIn K (.ref f22) = true)
    (fa23 : PySem.W.nsIn K mainGlobals "_law_alike" = some (some (.ref f23)))
    (fl23 : K.lookup f23 = some ⟨oc23, od23, .func (PySem.W.fnOf "_law_alike" "_law_alike" (defArgs s_l_alike) (defBody s_l_alike) (defScope s_l_alike) .none kV23 dc23 pm23 an23 cd23 ct23), sl23⟩)
    (fc23 : PySem.W.codeIn K cd23 "_law_alike" = true)
    (fk23 : PySem.W.keepIn K (.ref f23) = true)
    (fa24 : PySem.W.nsIn K mainGlobals "stands_at" = some (some (.ref f24)))
    (fl24 : K.lookup f24 = some ⟨oc24, od24, .func (PySem.W.fnOf "stands_at" "stands_at" (defArgs s_stands_at) (defBody s_stands_at) (defScope s_stands_at) .none kV24 dc24 pm24 an24 cd24 ct24), sl24⟩)
    (fc24 : PySem.W.codeIn K cd24 "stands_at" = true)
    (fk24 : PySem.W.keepIn K (.ref f24) = true)
    (fa25 : PySem.W.nsIn K mainGlobals "law" = some (some (.ref f25)))
    (fl25 : K.lookup f25 = some ⟨oc25, od25, .func (PySem.W.fnOf "law" "law" (defArgs s_law) (defBody s_law) (defScope s_law) .none kV25 dc25 pm25 an25 cd25 ct25), sl25⟩)
    (fc25 : PySem.W.codeIn K cd25 "law" = true)
    (fk25 : PySem.W.keepIn K (.ref f25) = true)
    (n_all : PySem.W.nsIn K mainGlobals "all" = some none)
    (n_bool : PySem.W.nsIn K mainGlobals "bool" = some none)
    (n_dict : PySem.W.nsIn K mainGlobals "dict" = some none)
    (n_enumerate : PySem.W.nsIn K mainGlobals "enumerate" = some none)
    (n_int : PySem.W.nsIn K mainGlobals "int" = some none)
    (n_isinstance : PySem.W.nsIn K mainGlobals "isinstance" = some none)
    (n_len : PySem.W.nsIn K mainGlobals "len" = some none)
    (n_list : PySem.W.nsIn K mainGlobals "list" = some none)
    (n_max : PySem.W.nsIn K mainGlobals "max" = some none)
    (n_range : PySem.W.nsIn K mainGlobals "range" = some none)
    (n_reversed : PySem.W.nsIn K mainGlobals "reversed" = some none)
    (n_str : PySem.W.nsIn K mainGlobals "str" = some none)
    (n_tuple : PySem.W.nsIn K mainGlobals "tuple" = some none)
    (n_zip : PySem.W.nsIn K mainGlobals "zip" = some none)
    (a_FORMS : PySem.W.nsIn K mainGlobals "FORMS" = some (some (.ref ad_FORMS)))
    (l_FORMS : K.lookup ad_FORMS = some ⟨.type "dict", none, .dict es_FORMS n_FORMS, #[]⟩)
    (q_FORMS : PySem.W.KeysLit w.params es_FORMS.toList)
    (z_FORMS : (ad_FORMS == sysModules) = false)
    (e_FORMS : EsT K es_FORMS.toList t_FORMS)
    (a_LARGEST_NUMBER : PySem.W.nsIn K mainGlobals "LARGEST_NUMBER" = some (some (.int 999 tk_LARGEST_NUMBER)))
    (a_WORKED_OUT : PySem.W.nsIn K mainGlobals "WORKED_OUT" = some (some (.ref ad_WORKED_OUT)))
    (l_WORKED_OUT : K.lookup ad_WORKED_OUT = some ⟨.type "dict", none, .dict es_WORKED_OUT n_WORKED_OUT, #[]⟩)
    (q_WORKED_OUT : PySem.W.KeysLit w.params es_WORKED_OUT.toList)
    (z_WORKED_OUT : (ad_WORKED_OUT == sysModules) = false)
    (e_WORKED_OUT : EsT K es_WORKED_OUT.toList t_WORKED_OUT) :
    ∃ fd : FuncData, (∀ (s : Shared) (u : Value), BindsTo s fd ⟨[u], []⟩ [("_law_script", u)]) ∧ ∀ base : Heap, K.In base → base.Ns mainGlobals mg → FnOk P w K mg base (L2.CX P w) 65 fa fd ["_law_script"] (spR K .pl 1 mf_law) := by
  have e := hfa.symm.trans (PySem.W.mg_of X G fa25)
  cases e
  let T : Tx K mg w := { n_all := PySem.W.mg_none_of X G n_all, n_bool := PySem.W.mg_none_of X G n_bool, n_dict := PySem.W.mg_none_of X G n_dict, n_enumerate := PySem.W.mg_none_of X G n_enumerate, n_int := PySem.W.mg_none_of X G n_int, n_isinstance := PySem.W.mg_none_of X G n_isinstance, n_len := PySem.W.mg_none_of X G n_len, n_list := PySem.W.mg_none_of X G n_list, n_max := PySem.W.mg_none_of X G n_max, n_range := PySem.W.mg_none_of X G n_range, n_reversed := PySem.W.mg_none_of X G n_reversed, n_str := PySem.W.mg_none_of X G n_str, n_tuple := PySem.W.mg_none_of X G n_tuple, n_zip := PySem.W.mg_none_of X G n_zip, h_FORMS := ⟨ad_FORMS, es_FORMS, n_FORMS, PySem.W.mg_of X G a_FORMS, ⟨l_FORMS, q_FORMS, z_FORMS⟩, e_FORMS⟩, h_LARGEST_NUMBER := ⟨tk_LARGEST_NUMBER, PySem.W.mg_of X G a_LARGEST_NUMBER⟩, h_WORKED_OUT := ⟨ad_WORKED_OUT, es_WORKED_OUT, n_WORKED_OUT, PySem.W.mg_of X G a_WORKED_OUT, ⟨l_WORKED_OUT, q_WORKED_OUT, z_WORKED_OUT⟩, e_WORKED_OUT⟩ }
  have F0 := fun_mk (st := s_l_names) fl0 fc0 fk0
  have F1 := fun_mk (st := s_l_made) fl1 fc1 fk1
  have F2 := fun_mk (st := s_l_leaf) fl2 fc2 fk2
  have F3 := fun_mk (st := s_l_put) fl3 fc3 fk3
  have F4 := fun_mk (st := s_l_mixed) fl4 fc4 fk4
  have F5 := fun_mk (st := s_l_open_piece) fl5 fc5 fk5
  have F6 := fun_mk (st := s_l_piece) fl6 fc6 fk6
  have F7 := fun_mk (st := s_l_went) fl7 fc7 fk7
  have F8 := fun_mk (st := s_l_cell_at) fl8 fc8 fk8
  have F9 := fun_mk (st := s_next_at) fl9 fc9 fk9
  have F10 := fun_mk (st := s_way_to_next) fl10 fc10 fk10
  have F11 := fun_mk (st := s_nearest_hand) fl11 fc11 fk11
  have F12 := fun_mk (st := s_put_back) fl12 fc12 fk12
  have F13 := fun_mk (st := s_places_of) fl13 fc13 fk13
  have F14 := fun_mk (st := s_told_at) fl14 fc14 fk14
  have F15 := fun_mk (st := s_put_in) fl15 fc15 fk15
  have F16 := fun_mk (st := s_names_in) fl16 fc16 fk16
  have F17 := fun_mk (st := s_free_name) fl17 fc17 fk17
  have F18 := fun_mk (st := s_answered_by_hand) fl18 fc18 fk18
  have F19 := fun_mk (st := s_added) fl19 fc19 fk19
  have F20 := fun_mk (st := s_worked_out) fl20 fc20 fk20
  have F21 := fun_mk (st := s_step) fl21 fc21 fk21
  have F22 := fun_mk (st := s_l_whole) fl22 fc22 fk22
  have F23 := fun_mk (st := s_l_alike) fl23 fc23 fk23
  have F24 := fun_mk (st := s_stands_at) fl24 fc24 fk24
  have F25 := fun_mk (st := s_law) fl25 fc25 fk25
  refine ⟨PySem.W.fnOf "law" "law" (defArgs s_law) (defBody s_law) (defScope s_law) .none kV25 dc25 pm25 an25 cd25 ct25, fun s u => .of_eq rfl, fun base _ _ => ?_⟩
  have G_l_names := ok_l_names (P := P) (base := base) T F0 (PySem.W.mg_of X G fa0) 
  have G_l_made := ok_l_made (P := P) (base := base) T F1 (PySem.W.mg_of X G fa1) 
  have G_l_leaf := ok_l_leaf (P := P) (base := base) T F2 (PySem.W.mg_of X G fa2) 
  have G_l_put := ok_l_put (P := P) (base := base) T F3 (PySem.W.mg_of X G fa3) G_l_made G_l_leaf
  have G_l_mixed := ok_l_mixed (P := P) (base := base) T F4 (PySem.W.mg_of X G fa4) 
  have G_l_open_piece := ok_l_open_piece (P := P) (base := base) T F5 (PySem.W.mg_of X G fa5) G_l_put G_l_mixed
  have G_l_piece := ok_l_piece (P := P) (base := base) T F6 (PySem.W.mg_of X G fa6) G_l_open_piece
  have G_l_went := ok_l_went (P := P) (base := base) T F7 (PySem.W.mg_of X G fa7)  60
  have G_l_cell_at := ok_l_cell_at (P := P) (base := base) T F8 (PySem.W.mg_of X G fa8) 
  have G_next_at := ok_next_at (P := P) (base := base) T F9 (PySem.W.mg_of X G fa9) 
  have G_way_to_next := okx_way_to_next (P := P) (base := base) T F10 (PySem.W.mg_of X G fa10) G_next_at
  have G_nearest_hand := ok_nearest_hand (P := P) (base := base) T F11 (PySem.W.mg_of X G fa11) 
  have G_put_back := ok_put_back (P := P) (base := base) T F12 (PySem.W.mg_of X G fa12) 
  have G_places_of := ok_places_of (P := P) (base := base) T F13 (PySem.W.mg_of X G fa13) 
  have G_told_at := ok_told_at (P := P) (base := base) T F14 (PySem.W.mg_of X G fa14) 
  have G_put_in := okx_put_in (P := P) (base := base) T F15 (PySem.W.mg_of X G fa15) G_places_of G_told_at 60
  have G_names_in := okx_names_in (P := P) (base := base) T F16 (PySem.W.mg_of X G fa16) 
  have G_free_name := ok_free_name (P := P) (base := base) T F17 (PySem.W.mg_of X G fa17) G_names_in
  have G_answered_by_hand := ok_answered_by_hand (P := P) (base := base) T F18 (PySem.W.mg_of X G fa18) G_put_in G_free_name G_put_back
  have G_added := ok_added (P := P) (base := base) T F19 (PySem.W.mg_of X G fa19) 
  have G_worked_out := ok_worked_out (P := P) (base := base) T F20 (PySem.W.mg_of X G fa20) G_put_in G_added
  have G_step := ok_step (P := P) (base := base) T F21 (PySem.W.mg_of X G fa21) G_way_to_next G_nearest_hand G_put_back G_answered_by_hand G_worked_out
  have G_l_whole := ok_l_whole (P := P) (base := base) T F22 (PySem.W.mg_of X G fa22) 
  have G_l_alike := ok_l_alike (P := P) (base := base) T F23 (PySem.W.mg_of X G fa23) G_l_whole 60
  have G_stands_at := ok_stands_at (P := P) (base := base) T F24 (PySem.W.mg_of X G fa24) G_way_to_next G_nearest_hand
  exact okR_law T F25 (PySem.W.mg_of X G fa25) G_l_names G_l_piece G_l_went G_l_cell_at G_step G_l_alike G_stands_at
end My
namespace My
open PySem L2 Evl Ask
theorem forGo_inv {b : D → Sl → Option Sl} {body : Sl → O} (P : Nat → Sl → Prop) : ∀ (ds : List D) (k : Nat) (env : Sl), P k env → (∀ i d env, k ≤ i → ds[i - k]? = some d → P i env → ∃ e1 e2, b d env = some e1 ∧ body e1 = .nx e2 ∧ P (i + 1) e2) → ∃ e', forGo b body ds env = .nx e' ∧ P (k + ds.length) e'
  | [], k, env, h, _ => ⟨env, rfl, h⟩
  | d :: ds, k, env, h, st => by
    obtain ⟨e1, e2, h1, h2, h3⟩ := st k d env (Nat.le_refl _) (by rw [Nat.sub_self]; rfl) h
    obtain ⟨e', g1, g2⟩ := forGo_inv (b := b) (body := body) P ds (k + 1) e2 h3 (fun i d' env' hi hd hp => st i d' env' (by omega) (by
      have : i - k = (i - (k + 1)) + 1 := by omega
      rw [this]; exact hd) hp)
    refine ⟨e', ?_, by rw [List.length_cons]; rw [show k + (ds.length + 1) = k + 1 + ds.length by omega]; exact g2⟩
    simp only [forGo, h1, h2, g1]
theorem lcGo_all {b : D → Sl → Option Sl} {el : Sl → R D} {env : Sl} (P : D → Prop) : ∀ ds : List D, (∀ d ∈ ds, ∃ e1 y, b d env = some e1 ∧ el e1 = .ok y ∧ P y) → ∃ ys, lcGo b yesM el env ds = .ok ys ∧ ys.length = ds.length ∧ ∀ y ∈ ys, P y
  | [], _ => ⟨[], rfl, rfl, fun _ h => by cases h⟩
  | d :: ds, h => by
    obtain ⟨e1, y, h1, h2, h3⟩ := h d List.mem_cons_self
    obtain ⟨ys, g1, g2, g3⟩ := lcGo_all (b := b) (el := el) (env := env) P ds (fun d hd => h d (List.mem_cons_of_mem _ hd))
    refine ⟨y :: ys, ?_, by simp [g2], fun z hz => ?_⟩
    · simp only [lcGo, h1, yesM, R.bind, if_true, h2, g1]
    · rcases List.mem_cons.mp hz with rfl | hz
      · exact h3
      · exact g3 z hz
theorem rangeD_get {lo : Int} {n i : Nat} {d : D} (h : (rangeD lo n)[i]? = some d) : i < n ∧ d = .int (lo + i) := by
  unfold rangeD at h
  rw [List.getElem?_map] at h
  cases hr : (List.range n)[i]? with
  | none => rw [hr] at h; cases h
  | some j =>
    rw [hr] at h
    cases h
    obtain ⟨h1, h2⟩ := List.getElem?_eq_some_iff.mp hr
    rw [List.getElem_range] at h2
    rw [List.length_range] at h1
    exact ⟨h1, by rw [h2]⟩
theorem rangeD_mem {n : Nat} {d : D} (h : d ∈ rangeD 0 n) : ∃ i : Nat, i < n ∧ d = .int (i : Int) := by
  obtain ⟨i, hi⟩ := List.getElem?_of_mem h
  obtain ⟨h1, h2⟩ := rangeD_get hi
  exact ⟨i, h1, by rw [h2, Int.zero_add]⟩
theorem rangeD_len {lo : Int} {n : Nat} : (rangeD lo n).length = n := by unfold rangeD; rw [List.length_map, List.length_range]
theorem atI_mem {α : Type} {xs : List α} {i : Int} (h0 : 0 ≤ i) (h1 : i < xs.length) : ∃ d ∈ xs, atI xs i = some d := by
  obtain ⟨k, rfl⟩ : ∃ k : Nat, i = k := ⟨i.toNat, by omega⟩
  rw [atI_int]
  have hk : k < xs.length := by omega
  exact ⟨xs[k], List.getElem_mem hk, List.getElem?_eq_getElem hk⟩
def Let (z : Str) : Prop := ∀ c ∈ z.cps.toList, 97 ≤ c ∧ c ≤ 122
abbrev abc : Str := "abcdefghijklmnopqrstuvwxyz"
theorem abc_len : abc.cps.toList.length = 26 := by decide
theorem abc_len2 : abc.length = 26 := by decide
theorem abc_let : Let abc := by unfold Let; decide
theorem len_cps (z : Str) : z.cps.toList.length = z.length := by simp [Str.length]
/-- a sign of the row of letters -/
theorem abc_ix (m : Int) : ∃ c, 97 ≤ c ∧ c ≤ 122 ∧ D.ix (.str abc) (.int (m % 26)) = some (.str ⟨#[c]⟩) := by
  have h1 := Int.emod_nonneg m (by decide : (26 : Int) ≠ 0)
  have h2 := Int.emod_lt_of_pos m (by decide : (0 : Int) < 26)
  obtain ⟨c, hc, e⟩ := atI_mem (xs := abc.cps.toList) h1 (by rw [abc_len]; exact h2)
  refine ⟨c, (abc_let c hc).1, (abc_let c hc).2, ?_⟩
  show (if abc.length ≤ 100000 then match atI abc.cps.toList (m % 26) with
    | some c => some (D.str ⟨#[c]⟩)
    | none => none else none) = some (.str ⟨#[c]⟩)
  rw [if_pos (by rw [abc_len2]; decide), e]
theorem join_empty (ys : List Str) : (Txt.join "" ys).cps.toList = (ys.map fun y => y.cps.toList).flatten := by
  rw [TL.join_eq]
  have h := TL.tl_join "" ys
  have e : ∀ l : List (List Nat), TL.joinL [] l = l.flatten := by
    intro l
    induction l with
    | nil => rfl
    | cons a r ih =>
      cases r with
      | nil => simp [TL.joinL]
      | cons b r => rw [TL.joinL, ih]; simp
  have h0 : TL.tl ("" : Str) = [] := by decide
  rw [h0, e] at h
  exact h
def One (d : D) : Prop := ∃ c, 97 ≤ c ∧ c ≤ 122 ∧ d = .str ⟨#[c]⟩
theorem ones_strs : ∀ (ys : List D), (∀ y ∈ ys, One y) → ∃ zs : List Str, strsOf ys = some zs ∧ zs.length = ys.length ∧ (∀ z ∈ zs, z.length = 1 ∧ Let z)
  | [], _ => ⟨[], rfl, rfl, fun _ h => by cases h⟩
  | y :: ys, h => by
    obtain ⟨c, h1, h2, rfl⟩ := h y List.mem_cons_self
    obtain ⟨zs, g1, g2, g3⟩ := ones_strs ys (fun y hy => h y (List.mem_cons_of_mem _ hy))
    refine ⟨⟨#[c]⟩ :: zs, by simp only [strsOf, g1], by simp [g2], fun z hz => ?_⟩
    rcases List.mem_cons.mp hz with rfl | hz
    · refine ⟨rfl, fun k hk => ?_⟩
      have : k = c := by simpa using hk
      subst this
      exact ⟨h1, h2⟩
    · exact g3 z hz
theorem join_ones (zs : List Str) (h : ∀ z ∈ zs, z.length = 1 ∧ Let z) : (Txt.join "" zs).length = zs.length ∧ Let (Txt.join "" zs) ∧ (zs.map (·.length)).sum = zs.length := by
  have e := join_empty zs
  have hs : ∀ (zs : List Str), (∀ z ∈ zs, z.length = 1 ∧ Let z) → (zs.map fun y => y.cps.toList).flatten.length = zs.length ∧ (∀ c ∈ (zs.map fun y => y.cps.toList).flatten, 97 ≤ c ∧ c ≤ 122) ∧ (zs.map (·.length)).sum = zs.length := by
    intro zs
    induction zs with
    | nil => intro _; exact ⟨rfl, (fun _ h => by cases h), rfl⟩
    | cons z r ih =>
      intro h
      obtain ⟨i1, i2, i3⟩ := ih (fun z hz => h z (List.mem_cons_of_mem _ hz))
      obtain ⟨h1, h2⟩ := h z List.mem_cons_self
      refine ⟨?_, fun c hc => ?_, ?_⟩
      · rw [List.map_cons, List.flatten_cons, List.length_append, i1, len_cps, h1, List.length_cons]; omega
      · rw [List.map_cons, List.flatten_cons] at hc
        rcases List.mem_append.mp hc with hc | hc
        · exact h2 c hc
        · exact i2 c hc
      · rw [List.map_cons, List.sum_cons, i3, h1, List.length_cons]; omega
  obtain ⟨h1, h2, h3⟩ := hs zs h
  refine ⟨by rw [← len_cps, e, h1], fun c hc => h2 c (by rw [← e]; exact hc), h3⟩
theorem cutS_let {z : Str} {lo hi : Option Int} (h : Let z) : Let (cutS z lo hi) := fun c hc => by
  unfold cutS at hc
  exact h c (List.mem_of_mem_drop (List.mem_of_mem_take (by simpa using hc)))
theorem app_let {a b : Str} (ha : Let a) (hb : Let b) : Let (a ++ b) := fun c hc => by
  have e : (a ++ b).cps.toList = a.cps.toList ++ b.cps.toList := by
    show (a.cps ++ b.cps).toList = _
    simp
  rw [e] at hc
  rcases List.mem_append.mp hc with h | h
  · exact ha c h
  · exact hb c h
theorem cutS_len (z : Str) (lo hi : Option Int) : (cutS z lo hi).length = min (HT.sIx z.length z.length hi - HT.sIx z.length 0 lo) (z.length - HT.sIx z.length 0 lo) := by
  rw [← len_cps]
  unfold cutS
  simp [List.length_take, List.length_drop, len_cps]
  rfl
theorem good_of {z : Str} (h1 : 1 ≤ z.length) (h2 : z.length ≤ 8) (h3 : Let z) : GoodN z := ⟨h1, h2, h3⟩
end My
namespace My
open PySem L2 Evl Ask
theorem abc_at (m : Int) : ∃ c, 97 ≤ c ∧ c ≤ 122 ∧ atI abc.cps.toList (m % 26) = some c := by
  have h1 := Int.emod_nonneg m (by decide : (26 : Int) ≠ 0)
  have h2 := Int.emod_lt_of_pos m (by decide : (0 : Int) < 26)
  obtain ⟨c, hc, e⟩ := atI_mem (xs := abc.cps.toList) h1 (by rw [abc_len]; exact h2)
  exact ⟨c, (abc_let c hc).1, (abc_let c hc).2, e⟩
theorem one_let {c : Nat} (h1 : 97 ≤ c) (h2 : c ≤ 122) : Let ⟨#[c]⟩ := fun k hk => by
  have : k = c := by simpa using hk
  subst this
  exact ⟨h1, h2⟩
theorem one_len {c : Nat} : (⟨#[c]⟩ : Str).length = 1 := rfl
theorem rgN (n : Nat) : ((n : Int)).toNat = n := rfl
theorem tail_ok (c : Int) (sz : D) : ∃ ds t, lcM (rngM (consA (cM (.int 8)) nilA)) [8] (tgN 8) yesM le_l_names_0 [some (.int c), some (.str abc), none, some sz, none, none, none, none, none] = .ok (.lst ds) ∧ D.join (.str "") (.lst ds) = some (.str t) ∧ t.length = 8 ∧ Let t := by
  obtain ⟨ys, h1, h2, h3⟩ := lcGo_all (b := tgN 8) (el := le_l_names_0) (env := [some (.int c), some (.str abc), none, some sz, none, none, none, none, none]) One (rangeD 0 8) (fun d hd => by
    obtain ⟨i, hi, rfl⟩ := rangeD_mem hd
    obtain ⟨a, ha1, ha2, ha⟩ := abc_at (c / 128 + 11 * (i : Int))
    refine ⟨_, .str ⟨#[a]⟩, rfl, ?_, a, ha1, ha2, rfl⟩
    simp (decide := true) [fnM, seqM, asgM, retM, dropM, op2, cM, cbM, consA, nilA, varM, notV, andV, orV, notB, andB, orB, asB, ifS, ifM, tupM, lstM, callM, slM, someM, noM, itM, rngM, Ask.forM, chM, joinM, negM, augM, nextM, raiseM, R.bind, R.of, toO, bInt, bLen, bType, bAll, bMax, bIsi, D.add, D.sub, D.mul, D.fdiv, D.mod, D.lt, D.le, D.gt, D.ge, D.eq, D.ne, D.is, D.isnt, D.inn, D.ix, D.sl, D.items, D.flat, D.isNon, D.tyN, D.tyM, scal, tgN, tg2, isT, kgetM, zipM, jsM, nilJ, consJ, fmtM, retMo, asgMo, dropMo, ifSo, augMo, forMo, newMo, appMo, retOwn, wipeE, le_l_names_0, ha])
  obtain ⟨zs, g1, g2, g3⟩ := ones_strs ys h3
  obtain ⟨j1, j2, j3⟩ := join_ones zs g3
  have h2' := h2
  rw [rangeD_len] at h2'
  have l8 : zs.length = 8 := by omega
  have e0 : ("" : Str).length = 0 := rfl
  refine ⟨ys, Txt.join "" zs, ?_, ?_, by rw [j1, g2, h2, rangeD_len], j2⟩
  · simp (decide := true) [fnM, seqM, asgM, retM, dropM, op2, cM, cbM, consA, nilA, varM, notV, andV, orV, notB, andB, orB, asB, ifS, ifM, tupM, lstM, callM, slM, someM, noM, itM, rngM, Ask.forM, chM, joinM, negM, augM, nextM, raiseM, R.bind, R.of, toO, bInt, bLen, bType, bAll, bMax, bIsi, D.add, D.sub, D.mul, D.fdiv, D.mod, D.lt, D.le, D.gt, D.ge, D.eq, D.ne, D.is, D.isnt, D.inn, D.ix, D.sl, D.items, D.flat, D.isNon, D.tyN, D.tyM, scal, tgN, tg2, isT, kgetM, zipM, jsM, nilJ, consJ, fmtM, retMo, asgMo, dropMo, ifSo, augMo, forMo, newMo, appMo, retOwn, wipeE, lcM, h1]
  · simp (decide := true) [D.join, g1, j3, l8, e0]
/-- one turn of the loop over the four names -/
theorem names_turn (c k : Int) (hk : 0 ≤ k ∧ k < 4) (zs : List Str) (hz : zs.length ≤ 10) (t : Str) (ht : t.length = 8) (hl : Let t) (x6 x7 x8 : Option D) :
    ∃ w y7 y8, GoodN w ∧ lb_l_names_2 [some (.int c), some (.str abc), some (.lst (zs.map .str)), some (.int (1 + c / 3 % 8)), some (.str t), some (.int k), x6, x7, x8] = .nx [some (.int c), some (.str abc), some (.lst ((zs ++ [w]).map .str)), some (.int (1 + c / 3 % 8)), some (.str t), some (.int k), some (.str w), y7, y8] := by
  obtain ⟨a, ha1, ha2, ha⟩ := abc_at (c / 128 + 5 * k)
  have hz' : zs.length ≤ 50000 := by omega
  by_cases h1 : c % 3 = 1
  · have hs0 := Int.emod_nonneg (c / 3) (by decide : (8 : Int) ≠ 0)
    have hs1 := Int.emod_lt_of_pos (c / 3) (by decide : (0 : Int) < 8)
    generalize hs : c / 3 % 8 = s at hs0 hs1
    have hp0 := Int.emod_nonneg (c / 24) (show (1 + s : Int) ≠ 0 by omega)
    have hp1 := Int.emod_lt_of_pos (c / 24) (show (0 : Int) < 1 + s by omega)
    generalize hp : c / 24 % (1 + s) = p at hp0 hp1
    have hpos : 0 < 1 + s := by omega
    have c1 : (cutS t none (some p)).length = p.toNat := by
      rw [cutS_len, ht]
      have e : HT.sIx 8 8 (some p) = p.toNat := by simp only [HT.sIx]; rw [if_neg (by omega)]; omega
      rw [e]
      show min (p.toNat - 0) (8 - 0) = _
      omega
    have c2 : (cutS t (some (p + 1)) (some (1 + s))).length = (1 + s).toNat - (p + 1).toNat := by
      rw [cutS_len, ht]
      have e : HT.sIx 8 8 (some (1 + s)) = (1 + s).toNat := by simp only [HT.sIx]; rw [if_neg (by omega)]; omega
      have e2 : HT.sIx 8 0 (some (p + 1)) = (p + 1).toNat := by simp only [HT.sIx]; rw [if_neg (by omega)]; omega
      rw [e, e2]
      omega
    have f1 : (cutS t none (some p)).length + (⟨#[a]⟩ : Str).length ≤ 100000 := by rw [one_len]; omega
    have f0 : (cutS t none (some p) ++ ⟨#[a]⟩).length = p.toNat + 1 := by rw [str_len_app, c1, one_len]
    have f2 : (cutS t none (some p) ++ ⟨#[a]⟩).length + (cutS t (some (p + 1)) (some (1 + s))).length ≤ 100000 := by rw [f0, c2]; omega
    have f3 : (cutS t none (some p) ++ ⟨#[a]⟩ ++ cutS t (some (p + 1)) (some (1 + s))).length = p.toNat + 1 + ((1 + s).toNat - (p + 1).toNat) := by rw [str_len_app, f0, c2]
    refine ⟨cutS t none (some p) ++ ⟨#[a]⟩ ++ cutS t (some (p + 1)) (some (1 + s)), some (.int p), x8, ?_, ?_⟩
    · exact good_of (by omega) (by omega) (app_let (app_let (cutS_let hl) (one_let ha1 ha2)) (cutS_let hl))
    · simp (decide := true) [fnM, seqM, asgM, retM, dropM, op2, cM, cbM, consA, nilA, varM, notV, andV, orV, notB, andB, orB, asB, ifS, ifM, tupM, lstM, callM, slM, someM, noM, itM, rngM, Ask.forM, chM, joinM, negM, augM, nextM, raiseM, R.bind, R.of, toO, bInt, bLen, bType, bAll, bMax, bIsi, D.add, D.sub, D.mul, D.fdiv, D.mod, D.lt, D.le, D.gt, D.ge, D.eq, D.ne, D.is, D.isnt, D.inn, D.ix, D.sl, D.items, D.flat, D.isNon, D.tyN, D.tyM, scal, tgN, tg2, isT, kgetM, zipM, jsM, nilJ, consJ, fmtM, retMo, asgMo, dropMo, ifSo, augMo, forMo, newMo, appMo, retOwn, wipeE, lb_l_names_2, ha, h1, hs, hp, ht, hpos, f1, f2, hz']
  · by_cases h2 : c % 3 = 2
    · have hp0 := Int.emod_nonneg (c / 24) (by decide : (5 : Int) ≠ 0)
      have hp1 := Int.emod_lt_of_pos (c / 24) (by decide : (0 : Int) < 5)
      generalize hp : c / 24 % 5 = p at hp0 hp1
      have c1 : (cutS t none (some (1 + k + p))).length = (1 + k + p).toNat := by
        rw [cutS_len, ht]
        have e : HT.sIx 8 8 (some (1 + k + p)) = (1 + k + p).toNat := by simp only [HT.sIx]; rw [if_neg (by omega)]; omega
        rw [e]
        show min ((1 + k + p).toNat - 0) (8 - 0) = _
        omega
      refine ⟨cutS t none (some (1 + k + p)), x7, x8, ?_, ?_⟩
      · exact good_of (by omega) (by omega) (cutS_let hl)
      · simp (decide := true) [fnM, seqM, asgM, retM, dropM, op2, cM, cbM, consA, nilA, varM, notV, andV, orV, notB, andB, orB, asB, ifS, ifM, tupM, lstM, callM, slM, someM, noM, itM, rngM, Ask.forM, chM, joinM, negM, augM, nextM, raiseM, R.bind, R.of, toO, bInt, bLen, bType, bAll, bMax, bIsi, D.add, D.sub, D.mul, D.fdiv, D.mod, D.lt, D.le, D.gt, D.ge, D.eq, D.ne, D.is, D.isnt, D.inn, D.ix, D.sl, D.items, D.flat, D.isNon, D.tyN, D.tyM, scal, tgN, tg2, isT, kgetM, zipM, jsM, nilJ, consJ, fmtM, retMo, asgMo, dropMo, ifSo, augMo, forMo, newMo, appMo, retOwn, wipeE, lb_l_names_2, ha, h1, h2, hp, ht, hz']
    · have hm0 := Int.emod_nonneg (c / 26 + 3 * k) (by decide : (8 : Int) ≠ 0)
      have hm1 := Int.emod_lt_of_pos (c / 26 + 3 * k) (by decide : (0 : Int) < 8)
      generalize hm : (c / 26 + 3 * k) % 8 = m at hm0 hm1
      obtain ⟨e', g1, w, y8, g2, g3, g4⟩ := forGo_inv (b := tgN 8) (body := lb_l_names_1) (fun i env => ∃ (w : Str) (y8 : Option D), env = [some (.int c), some (.str abc), some (.lst (zs.map .str)), some (.int (1 + c / 3 % 8)), some (.str t), some (.int k), some (.str w), x7, y8] ∧ w.length = 1 + i ∧ Let w)
        (rangeD 0 m.toNat) 0 [some (.int c), some (.str abc), some (.lst (zs.map .str)), some (.int (1 + c / 3 % 8)), some (.str t), some (.int k), some (.str ⟨#[a]⟩), x7, x8] ⟨_, _, rfl, rfl, one_let ha1 ha2⟩ (fun i d env _ hd ⟨w, y8, he, hw, hlw⟩ => by
          subst he
          obtain ⟨hi, rfl⟩ := rangeD_get hd
          obtain ⟨b, hb1, hb2, hb⟩ := abc_at (c / 7 + 11 * (i : Int) + k)
          have f1 : w.length + (⟨#[b]⟩ : Str).length ≤ 100000 := by rw [one_len]; omega
          refine ⟨_, _, rfl, ?_, w ++ ⟨#[b]⟩, some (.int (0 + ((i - 0 : Nat) : Int))), rfl, by rw [str_len_app, one_len]; omega, app_let hlw (one_let hb1 hb2)⟩
          simp (decide := true) [fnM, seqM, asgM, retM, dropM, op2, cM, cbM, consA, nilA, varM, notV, andV, orV, notB, andB, orB, asB, ifS, ifM, tupM, lstM, callM, slM, someM, noM, itM, rngM, Ask.forM, chM, joinM, negM, augM, nextM, raiseM, R.bind, R.of, toO, bInt, bLen, bType, bAll, bMax, bIsi, D.add, D.sub, D.mul, D.fdiv, D.mod, D.lt, D.le, D.gt, D.ge, D.eq, D.ne, D.is, D.isnt, D.inn, D.ix, D.sl, D.items, D.flat, D.isNon, D.tyN, D.tyM, scal, tgN, tg2, isT, kgetM, zipM, jsM, nilJ, consJ, fmtM, retMo, asgMo, dropMo, ifSo, augMo, forMo, newMo, appMo, retOwn, wipeE, lb_l_names_1, hb, f1])
      subst g2
      rw [rangeD_len] at g3
      refine ⟨w, x7, y8, good_of (by omega) (by omega) g4, ?_⟩
      have i1 : -10000000 ≤ m := by omega
      have i2 : m ≤ 10000000 := by omega
      simp (decide := true) [fnM, seqM, asgM, retM, dropM, op2, cM, cbM, consA, nilA, varM, notV, andV, orV, notB, andB, orB, asB, ifS, ifM, tupM, lstM, callM, slM, someM, noM, itM, rngM, Ask.forM, chM, joinM, negM, augM, nextM, raiseM, R.bind, R.of, toO, bInt, bLen, bType, bAll, bMax, bIsi, D.add, D.sub, D.mul, D.fdiv, D.mod, D.lt, D.le, D.gt, D.ge, D.eq, D.ne, D.is, D.isnt, D.inn, D.ix, D.sl, D.items, D.flat, D.isNon, D.tyN, D.tyM, scal, tgN, tg2, isT, kgetM, zipM, jsM, nilJ, consJ, fmtM, retMo, asgMo, dropMo, ifSo, augMo, forMo, newMo, appMo, retOwn, wipeE, lb_l_names_2, ha, h1, h2, hm, i1, i2, hz', g1]
theorem names_ok (c : Int) : ∃ names : List Str, m_l_names [.int c] = .ok (.lst (names.map .str)) ∧ names.length = 4 ∧ ∀ x ∈ names, GoodN x := by
  obtain ⟨ds, t, t0, t1, t2, t3⟩ := tail_ok c (.int (1 + c / 3 % 8))
  obtain ⟨e', g1, zs, x5, x6, x7, x8, g2, g3, g4⟩ := forGo_inv (b := tgN 5) (body := lb_l_names_2) (fun i env => ∃ (zs : List Str) (x5 x6 x7 x8 : Option D), env = [some (.int c), some (.str abc), some (.lst (zs.map .str)), some (.int (1 + c / 3 % 8)), some (.str t), x5, x6, x7, x8] ∧ zs.length = i ∧ i ≤ 4 ∧ ∀ z ∈ zs, GoodN z)
    (rangeD 0 4) 0 [some (.int c), some (.str abc), some (.lst []), some (.int (1 + c / 3 % 8)), some (.str t), none, none, none, none] ⟨[], _, _, _, _, rfl, rfl, by omega, fun _ h => by cases h⟩ (fun i d env _ hd ⟨zs, x5, x6, x7, x8, he, hz, hi4, hg⟩ => by
      subst he
      obtain ⟨hi, rfl⟩ := rangeD_get hd
      obtain ⟨w, y7, y8, w1, w2⟩ := names_turn c (0 + ((i - 0 : Nat) : Int)) (by omega) zs (by omega) t t2 t3 x6 x7 x8
      refine ⟨_, _, rfl, w2, zs ++ [w], _, _, _, _, rfl, by simp [hz], by omega, fun z hz => ?_⟩
      rcases List.mem_append.mp hz with h | h
      · exact hg z h
      · rw [List.mem_singleton] at h
        subst h
        exact w1)
  subst g2
  rw [rangeD_len] at g3
  refine ⟨zs, ?_, g3, g4.2⟩
  simp (decide := true) [fnM, seqM, asgM, retM, dropM, op2, cM, cbM, consA, nilA, varM, notV, andV, orV, notB, andB, orB, asB, ifS, ifM, tupM, lstM, callM, slM, someM, noM, itM, rngM, Ask.forM, chM, joinM, negM, augM, nextM, raiseM, R.bind, R.of, toO, bInt, bLen, bType, bAll, bMax, bIsi, D.add, D.sub, D.mul, D.fdiv, D.mod, D.lt, D.le, D.gt, D.ge, D.eq, D.ne, D.is, D.isnt, D.inn, D.ix, D.sl, D.items, D.flat, D.isNon, D.tyN, D.tyM, scal, tgN, tg2, isT, kgetM, zipM, jsM, nilJ, consJ, fmtM, retMo, asgMo, dropMo, ifSo, augMo, forMo, newMo, appMo, retOwn, wipeE, m_l_names, b_l_names, t0, t1, g1]
end My
namespace My
open PySem L2 Evl Ask
open Th (Ok ok_num ok_name ok_sum ok_let ok_choose ok_ask ok_hand GoodK)
theorem cell_at (ns : List Int) (k : Nat) : m_l_cell_at [.klst (ns.map D.int), .int k] = .ok (.int (ns.getD k 0)) := by
  simp (decide := true) [fnM, seqM, asgM, retM, dropM, op2, cM, cbM, consA, nilA, varM, notV, andV, orV, notB, andB, orB, asB, ifS, ifM, tupM, lstM, callM, slM, someM, noM, itM, rngM, Ask.forM, chM, joinM, negM, augM, nextM, raiseM, R.bind, R.of, toO, bInt, bLen, bType, bAll, bMax, bIsi, D.add, D.sub, D.mul, D.fdiv, D.mod, D.lt, D.le, D.gt, D.ge, D.eq, D.ne, D.is, D.isnt, D.inn, D.ix, D.sl, D.items, D.flat, D.isNon, D.tyN, D.tyM, scal, tgN, tg2, isT, kgetM, zipM, jsM, nilJ, consJ, fmtM, retMo, asgMo, dropMo, ifSo, augMo, forMo, newMo, appMo, retOwn, wipeE, m_l_cell_at, b_l_cell_at, atI_int]
  by_cases h : k < ns.length
  · simp [h]
  · simp [h]
theorem mixed_ok (c k : Int) : ∃ r, m_l_mixed [.int c, .int k] = .ok (.int r) ∧ 0 ≤ r ∧ r < 2147483647 := by
  have h1 := Int.emod_nonneg ((c + 7 * k + 3) * 48271) (by decide : (2147483647 : Int) ≠ 0)
  have h2 := Int.emod_lt_of_pos ((c + 7 * k + 3) * 48271) (by decide : (0 : Int) < 2147483647)
  generalize hr : ((c + 7 * k + 3) * 48271) % 2147483647 = r at h1 h2
  have h3 := Int.emod_nonneg (r * r) (by decide : (2147483647 : Int) ≠ 0)
  have h4 := Int.emod_lt_of_pos (r * r) (by decide : (0 : Int) < 2147483647)
  refine ⟨r * r % 2147483647, ?_, h3, h4⟩
  have hc : -18446744073709551616 < r ∧ r < 18446744073709551616 := by omega
  simp (decide := true) [fnM, seqM, asgM, retM, dropM, op2, cM, cbM, consA, nilA, varM, notV, andV, orV, notB, andB, orB, asB, ifS, ifM, tupM, lstM, callM, slM, someM, noM, itM, rngM, Ask.forM, chM, joinM, negM, augM, nextM, raiseM, R.bind, R.of, toO, bInt, bLen, bType, bAll, bMax, bIsi, D.add, D.sub, D.mul, D.fdiv, D.mod, D.lt, D.le, D.gt, D.ge, D.eq, D.ne, D.is, D.isnt, D.inn, D.ix, D.sl, D.items, D.flat, D.isNon, D.tyN, D.tyM, scal, tgN, tg2, isT, kgetM, zipM, jsM, nilJ, consJ, fmtM, retMo, asgMo, dropMo, ifSo, augMo, forMo, newMo, appMo, retOwn, wipeE, m_l_mixed, b_l_mixed, hr, hc]
/-- four good names -/
structure Names (names : List Str) : Prop where
  len : names.length = 4
  good : ∀ x ∈ names, GoodN x
theorem Names.at {names : List Str} (h : Names names) (m : Int) : ∃ x, x ∈ names ∧ atI (names.map D.str) (m % 4) = some (.str x) := by
  have h1 := Int.emod_nonneg m (by decide : (4 : Int) ≠ 0)
  have h2 := Int.emod_lt_of_pos m (by decide : (0 : Int) < 4)
  obtain ⟨d, hd, e⟩ := atI_mem (xs := names.map D.str) h1 (by rw [List.length_map, h.len]; exact h2)
  obtain ⟨x, hx, rfl⟩ := List.mem_map.mp hd
  exact ⟨x, hx, e⟩
theorem leaf_ok {names : List Str} (h : Names names) (na : Prop) (n : Int) (hn : 0 ≤ n) : ∃ p : Th.Pc, m_l_leaf [.int n, .lst (names.map D.str)] = .ok (toD p) ∧ Ok names na p 1 1 := by
  by_cases h2 : n % 2 = 0
  · obtain ⟨x, hx, e⟩ := h.at (n / 2)
    refine ⟨.name x, ?_, ok_name hx⟩
    simp (decide := true) [fnM, seqM, asgM, retM, dropM, op2, cM, cbM, consA, nilA, varM, notV, andV, orV, notB, andB, orB, asB, ifS, ifM, tupM, lstM, callM, slM, someM, noM, itM, rngM, Ask.forM, chM, joinM, negM, augM, nextM, raiseM, R.bind, R.of, toO, bInt, bLen, bType, bAll, bMax, bIsi, D.add, D.sub, D.mul, D.fdiv, D.mod, D.lt, D.le, D.gt, D.ge, D.eq, D.ne, D.is, D.isnt, D.inn, D.ix, D.sl, D.items, D.flat, D.isNon, D.tyN, D.tyM, scal, tgN, tg2, isT, kgetM, zipM, jsM, nilJ, consJ, fmtM, retMo, asgMo, dropMo, ifSo, augMo, forMo, newMo, appMo, retOwn, wipeE, m_l_leaf, b_l_leaf, h2, e, toD]
  · have a1 := Int.emod_nonneg (n / 14) (by decide : (1000 : Int) ≠ 0)
    have a2 := Int.emod_lt_of_pos (n / 14) (by decide : (0 : Int) < 1000)
    have a3 := Int.emod_nonneg (n / 14) (by decide : (5 : Int) ≠ 0)
    have a4 := Int.emod_lt_of_pos (n / 14) (by decide : (0 : Int) < 5)
    have b1 := Int.emod_nonneg (n / 2) (by decide : (7 : Int) ≠ 0)
    have b2 := Int.emod_lt_of_pos (n / 2) (by decide : (0 : Int) < 7)
    obtain ⟨d, hd, e⟩ := atI_mem (xs := [D.int 0, .int 1, .int 2, .int 999, .int (n / 14 % 1000), .int 0, .int (n / 14 % 5)]) b1 (by simpa using b2)
    have hv : ∃ v, d = .int v ∧ 0 ≤ v ∧ v ≤ 999 := by
      simp only [List.mem_cons, List.not_mem_nil, or_false] at hd
      rcases hd with rfl | rfl | rfl | rfl | rfl | rfl | rfl <;> exact ⟨_, rfl, by omega, by omega⟩
    obtain ⟨v, rfl, v1, v2⟩ := hv
    refine ⟨.num v, ?_, ok_num ⟨v1, v2⟩⟩
    simp (decide := true) [fnM, seqM, asgM, retM, dropM, op2, cM, cbM, consA, nilA, varM, notV, andV, orV, notB, andB, orB, asB, ifS, ifM, tupM, lstM, callM, slM, someM, noM, itM, rngM, Ask.forM, chM, joinM, negM, augM, nextM, raiseM, R.bind, R.of, toO, bInt, bLen, bType, bAll, bMax, bIsi, D.add, D.sub, D.mul, D.fdiv, D.mod, D.lt, D.le, D.gt, D.ge, D.eq, D.ne, D.is, D.isnt, D.inn, D.ix, D.sl, D.items, D.flat, D.isNon, D.tyN, D.tyM, scal, tgN, tg2, isT, kgetM, zipM, jsM, nilJ, consJ, fmtM, retMo, asgMo, dropMo, ifSo, augMo, forMo, newMo, appMo, retOwn, wipeE, m_l_leaf, b_l_leaf, h2, e, toD]
theorem kinds_ok (m k : Int) : ∃ ks : List Str, atI [D.lst [.str "line", .str "coin", .str "line", .str "coin", .str "fail"], .lst [.str "fail", .str "line", .str "fail"], .lst [.str "coin"]] (m % 3) = some (.lst (ks.map D.str)) ∧ 0 < ks.length ∧ ∃ x, atI (ks.map D.str) (k % (ks.length : Int)) = some (.str x) ∧ GoodK x := by
  have h1 := Int.emod_nonneg m (by decide : (3 : Int) ≠ 0)
  have h2 := Int.emod_lt_of_pos m (by decide : (0 : Int) < 3)
  have key : ∀ ks : List Str, 0 < ks.length → (∀ x ∈ ks, GoodK x) → 0 < ks.length ∧ ∃ x, atI (ks.map D.str) (k % (ks.length : Int)) = some (.str x) ∧ GoodK x := fun ks h0 hg => by
    have g1 := Int.emod_nonneg k (show (ks.length : Int) ≠ 0 by omega)
    have g2 := Int.emod_lt_of_pos k (show (0 : Int) < ks.length by omega)
    obtain ⟨d, hd, e⟩ := atI_mem (xs := ks.map D.str) g1 (by rw [List.length_map]; exact g2)
    obtain ⟨x, hx, rfl⟩ := List.mem_map.mp hd
    exact ⟨h0, x, e, hg x hx⟩
  have hc : m % 3 = 0 ∨ m % 3 = 1 ∨ m % 3 = 2 := by omega
  rcases hc with h | h | h
  · exact ⟨["line", "coin", "line", "coin", "fail"], by rw [h, atI_0]; rfl, key _ (by decide) (by unfold GoodK; simp)⟩
  · exact ⟨["fail", "line", "fail"], by rw [h, atI_1]; rfl, key _ (by decide) (by unfold GoodK; simp)⟩
  · exact ⟨["coin"], by rw [h, atI_2]; rfl, key _ (by decide) (by unfold GoodK; simp)⟩
/-- how many parts -/
def many (way : Int) : Nat := if way < 4 then 2 else if way < 5 then 3 else if way < 9 then 1 else 2
theorem many_is (way : Int) : (many way = 2 ∧ way < 4) ∨ (many way = 3 ∧ 4 ≤ way ∧ way < 5) ∨ (many way = 1 ∧ 5 ≤ way ∧ way < 9) ∨ (many way = 2 ∧ 9 ≤ way) := by
  unfold many
  by_cases h1 : way < 4
  · rw [if_pos h1]; exact .inl ⟨rfl, h1⟩
  · rw [if_neg h1]
    by_cases h2 : way < 5
    · rw [if_pos h2]; exact .inr (.inl ⟨rfl, by omega, h2⟩)
    · rw [if_neg h2]
      by_cases h3 : way < 9
      · rw [if_pos h3]; exact .inr (.inr (.inl ⟨rfl, by omega, h3⟩))
      · rw [if_neg h3]; exact .inr (.inr (.inr ⟨rfl, by omega⟩))
/-- so high -/
def maxN : List Nat → Nat
  | [] => 0
  | a :: r => max a (maxN r)
theorem made_ok {names : List Str} (h : Names names) (na : Prop) (way rest : Int) (hw : 0 ≤ way ∧ way < 13) (hna : na → way < 5) (ps : List (Th.Pc × Nat × Nat)) (hp : ∀ p ∈ ps, Ok names na p.1 p.2.1 p.2.2) (hl : ps.length = many way) :
    ∃ p : Th.Pc, m_l_made [.int way, .int rest, .lst ((ps.map (·.1)).map toD), .lst (names.map D.str)] = .ok (toD p) ∧ Ok names na p (1 + maxN (ps.map (·.2.1))) (1 + (ps.map (·.2.2)).sum) := by
  obtain ⟨x, hx, e1⟩ := h.at rest
  obtain ⟨n0, hn0⟩ : ∃ n0, (names.map D.str)[0]? = some (.str n0) ∧ GoodN n0 := by
    match names, h with
    | a :: r, h => exact ⟨a, rfl, h.good a List.mem_cons_self⟩
    | [], h => exact absurd h.len (by decide)
  have n8 : n0.length ≤ 100000 := by have := hn0.2.2.1; omega
  obtain ⟨ks, k1, k2, k, k3, k4⟩ := kinds_ok (n0.length : Int) (rest / 4)
  have k2' : (0 : Int) < ks.length := by omega
  match ps, hl with
  | [], hl => have hl' : 0 = many way := hl; have := many_is way; omega
  | [(a, ha, sa)], hl =>
    have hl' : 1 = many way := hl
    have hm := many_is way
    have hw2 : 5 ≤ way ∧ way < 9 := by omega
    have c1 : ¬ way < 2 := by omega
    have c2 : ¬ way < 4 := by omega
    have c3 : ¬ way < 5 := by omega
    have oa : Ok names na a ha sa := hp (a, ha, sa) List.mem_cons_self
    refine ⟨.ask k a, ?_, (ok_ask (fun z => by have := hna z; omega) k4 oa (Nat.le_refl _)).imp (by simp [maxN]) (by simp)⟩
    simp (decide := true) [fnM, seqM, asgM, retM, dropM, op2, cM, cbM, consA, nilA, varM, notV, andV, orV, notB, andB, orB, asB, ifS, ifM, tupM, lstM, callM, slM, someM, noM, itM, rngM, Ask.forM, chM, joinM, negM, augM, nextM, raiseM, R.bind, R.of, toO, bInt, bLen, bType, bAll, bMax, bIsi, D.add, D.sub, D.mul, D.fdiv, D.mod, D.lt, D.le, D.gt, D.ge, D.eq, D.ne, D.is, D.isnt, D.inn, D.ix, D.sl, D.items, D.flat, D.isNon, D.tyN, D.tyM, scal, tgN, tg2, isT, kgetM, zipM, jsM, nilJ, consJ, fmtM, retMo, asgMo, dropMo, ifSo, augMo, forMo, newMo, appMo, retOwn, wipeE, m_l_made, b_l_made, e1, atI_0, hn0.1, n8, k1, k2, k3, c1, c2, c3, hw2.2, toD]
  | [(a, ha, sa), (b, hb, sb)], hl =>
    have oa : Ok names na a ha sa := hp (a, ha, sa) List.mem_cons_self
    have ob : Ok names na b hb sb := hp (b, hb, sb) (List.mem_cons_of_mem _ List.mem_cons_self)
    have hl' : 2 = many way := hl
    have hm := many_is way
    have hw2 : way < 4 ∨ 9 ≤ way := by omega
    have mx1 : ha ≤ max ha hb := Nat.le_max_left _ _
    have mx2 : hb ≤ max ha hb := Nat.le_max_right _ _
    by_cases c1 : way < 2
    · refine ⟨.sum a b, ?_, (ok_sum oa ob mx1 mx2).imp (by simp [maxN]) (by simp)⟩
      simp (decide := true) [fnM, seqM, asgM, retM, dropM, op2, cM, cbM, consA, nilA, varM, notV, andV, orV, notB, andB, orB, asB, ifS, ifM, tupM, lstM, callM, slM, someM, noM, itM, rngM, Ask.forM, chM, joinM, negM, augM, nextM, raiseM, R.bind, R.of, toO, bInt, bLen, bType, bAll, bMax, bIsi, D.add, D.sub, D.mul, D.fdiv, D.mod, D.lt, D.le, D.gt, D.ge, D.eq, D.ne, D.is, D.isnt, D.inn, D.ix, D.sl, D.items, D.flat, D.isNon, D.tyN, D.tyM, scal, tgN, tg2, isT, kgetM, zipM, jsM, nilJ, consJ, fmtM, retMo, asgMo, dropMo, ifSo, augMo, forMo, newMo, appMo, retOwn, wipeE, m_l_made, b_l_made, e1, atI_0, atI_1, hn0.1, n8, k1, k2, k3, c1, toD]
    · by_cases c2 : way < 4
      · refine ⟨.let_ x a b, ?_, (ok_let hx oa ob mx1 mx2).imp (by simp [maxN]) (by simp)⟩
        simp (decide := true) [fnM, seqM, asgM, retM, dropM, op2, cM, cbM, consA, nilA, varM, notV, andV, orV, notB, andB, orB, asB, ifS, ifM, tupM, lstM, callM, slM, someM, noM, itM, rngM, Ask.forM, chM, joinM, negM, augM, nextM, raiseM, R.bind, R.of, toO, bInt, bLen, bType, bAll, bMax, bIsi, D.add, D.sub, D.mul, D.fdiv, D.mod, D.lt, D.le, D.gt, D.ge, D.eq, D.ne, D.is, D.isnt, D.inn, D.ix, D.sl, D.items, D.flat, D.isNon, D.tyN, D.tyM, scal, tgN, tg2, isT, kgetM, zipM, jsM, nilJ, consJ, fmtM, retMo, asgMo, dropMo, ifSo, augMo, forMo, newMo, appMo, retOwn, wipeE, m_l_made, b_l_made, e1, atI_0, atI_1, hn0.1, n8, k1, k2, k3, c1, c2, toD]
      · have c3 : ¬ way < 5 := by omega
        have c4 : ¬ way < 9 := by omega
        refine ⟨.hand k x a b, ?_, (ok_hand (fun z => by have := hna z; omega) k4 hx oa ob mx1 mx2).imp (by simp [maxN]) (by simp)⟩
        simp (decide := true) [fnM, seqM, asgM, retM, dropM, op2, cM, cbM, consA, nilA, varM, notV, andV, orV, notB, andB, orB, asB, ifS, ifM, tupM, lstM, callM, slM, someM, noM, itM, rngM, Ask.forM, chM, joinM, negM, augM, nextM, raiseM, R.bind, R.of, toO, bInt, bLen, bType, bAll, bMax, bIsi, D.add, D.sub, D.mul, D.fdiv, D.mod, D.lt, D.le, D.gt, D.ge, D.eq, D.ne, D.is, D.isnt, D.inn, D.ix, D.sl, D.items, D.flat, D.isNon, D.tyN, D.tyM, scal, tgN, tg2, isT, kgetM, zipM, jsM, nilJ, consJ, fmtM, retMo, asgMo, dropMo, ifSo, augMo, forMo, newMo, appMo, retOwn, wipeE, m_l_made, b_l_made, e1, atI_0, atI_1, hn0.1, n8, k1, k2, k3, c1, c2, c3, c4, toD]
  | [(a, ha, sa), (b, hb, sb), (c, hc, sc)], hl =>
    have oa : Ok names na a ha sa := hp (a, ha, sa) List.mem_cons_self
    have ob : Ok names na b hb sb := hp (b, hb, sb) (List.mem_cons_of_mem _ List.mem_cons_self)
    have oc : Ok names na c hc sc := hp (c, hc, sc) (List.mem_cons_of_mem _ (List.mem_cons_of_mem _ List.mem_cons_self))
    have hl' : 3 = many way := hl
    have hm := many_is way
    have hw2 : 4 ≤ way ∧ way < 5 := by omega
    have c1 : ¬ way < 2 := by omega
    have c2 : ¬ way < 4 := by omega
    refine ⟨.choose a b c, ?_, (ok_choose (h := max ha (max hb hc)) oa ob oc (by omega) (by omega) (by omega)).imp (by simp [maxN]) (by simp)⟩
    simp (decide := true) [fnM, seqM, asgM, retM, dropM, op2, cM, cbM, consA, nilA, varM, notV, andV, orV, notB, andB, orB, asB, ifS, ifM, tupM, lstM, callM, slM, someM, noM, itM, rngM, Ask.forM, chM, joinM, negM, augM, nextM, raiseM, R.bind, R.of, toO, bInt, bLen, bType, bAll, bMax, bIsi, D.add, D.sub, D.mul, D.fdiv, D.mod, D.lt, D.le, D.gt, D.ge, D.eq, D.ne, D.is, D.isnt, D.inn, D.ix, D.sl, D.items, D.flat, D.isNon, D.tyN, D.tyM, scal, tgN, tg2, isT, kgetM, zipM, jsM, nilJ, consJ, fmtM, retMo, asgMo, dropMo, ifSo, augMo, forMo, newMo, appMo, retOwn, wipeE, m_l_made, b_l_made, e1, atI_0, atI_1, atI_2, hn0.1, n8, k1, k2, k3, c1, c2, hw2.2, toD]
  | a :: b :: c :: d :: r, hl => have hl' : r.length + 4 = many way := hl; have := many_is way; omega
theorem maxI_maxN : ∀ (l : List Nat), l ≠ [] → maxI (l.map fun (n : Nat) => (n : Int)) = (maxN l : Int)
  | [], h => absurd rfl h
  | [a], _ => by simp [maxI, maxN]
  | a :: b :: r, _ => by
    have ih := maxI_maxN (b :: r) (by simp)
    simp only [List.map_cons] at ih ⊢
    simp only [maxI, ih, maxN]
    omega
end My
namespace My
open PySem L2 Evl Ask
theorem forGoQ_inv {b : D → Sl → Option Sl} {body : Sl → OQ} (P : Nat → Sl → Prop) : ∀ (ds : List D) (k : Nat) (env : Sl), P k env → (∀ i d env, k ≤ i → ds[i - k]? = some d → P i env → ∃ e1 e2, b d env = some e1 ∧ body e1 = .nx e2 ∧ P (i + 1) e2) → ∃ e', forGoQ b body ds env = .nx e' ∧ P (k + ds.length) e'
  | [], k, env, h, _ => ⟨env, rfl, h⟩
  | d :: ds, k, env, h, st => by
    obtain ⟨e1, e2, h1, h2, h3⟩ := st k d env (Nat.le_refl _) (by rw [Nat.sub_self]; rfl) h
    have ih := forGoQ_inv (b := b) (body := body) P ds (k + 1) e2 h3 (fun i d' env' hi hd hp => st i d' env' (by omega) (by
      have : i - k = (i - (k + 1)) + 1 := by omega
      rw [this]; exact hd) hp)
    have e : forGoQ b body (d :: ds) env = forGoQ b body ds e2 := by simp only [forGoQ, h1, h2]
    rw [e, List.length_cons, show k + (ds.length + 1) = k + 1 + ds.length by omega]
    exact ih
theorem rng_at0 {N : Int} {M : Nat} {m : Sl → R (List D)} {env : Sl} (h : m env = .ok [.int N]) (c : -10000000 ≤ N ∧ N ≤ 10000000) (e : N.toNat = M) : rngM m env = .ok (rangeD 0 M) := by
  unfold rngM
  rw [h]
  simp only [R.bind]
  rw [if_pos c, e]
end My
namespace My
open PySem L2 Evl Ask
theorem seqq_nx {a b : Sl → OQ} {env e : Sl} (h : a env = .nx e) : seqQ a b env = b e := by unfold seqQ; rw [h]
theorem seqq_rt {a b : Sl → OQ} {env e : Sl} {d : D} (h : a env = .rt d e) : seqQ a b env = .rt d e := by unfold seqQ; rw [h]
theorem forq_eq {it : Sl → R (List D)} {b : D → Sl → Option Sl} {body : Sl → OQ} {env : Sl} {ds : List D} (h1 : it env = .ok ds) : Ask.forQ it b body env = forGoQ b body ds env := by
  unfold Ask.forQ
  rw [h1]
  rfl
theorem fnf_rt {n nl : Nat} {body : Sl → OQ} {ds : List D} {d : D} {e : Sl} (hn : ds.length = n) (h : body (ds.map some ++ List.replicate nl none) = .rt d e) : fnF n nl body ds = .ok d := by
  unfold fnF
  rw [if_pos hn, h]
theorem cut_len (ns : List Int) (a b : Nat) : HT.sIx ns.length ns.length (some (b : Int)) - HT.sIx ns.length 0 (some (a : Int)) ≤ b - a := by
  have e1 : HT.sIx ns.length ns.length (some (b : Int)) = min b ns.length := by simp only [HT.sIx]; rw [if_neg (by omega)]; omega
  have e2 : HT.sIx ns.length 0 (some (a : Int)) = min a ns.length := by simp only [HT.sIx]; rw [if_neg (by omega)]; omega
  rw [e1, e2]
  omega
end My
namespace My
open PySem L2 Evl Ask
open Th (Ok ok_num ok_name ok_sum ok_let ok_choose ok_ask ok_hand GoodK)
abbrev Sp := Th.Pc × Nat × Nat
theorem lcGo_map {b : D → Sl → Option Sl} {el : Sl → R D} {env : Sl} (f : D → D) : ∀ ds : List D, (∀ d ∈ ds, ∃ e1, b d env = some e1 ∧ el e1 = .ok (f d)) → lcGo b yesM el env ds = .ok (ds.map f)
  | [], _ => rfl
  | d :: ds, h => by
    obtain ⟨e1, h1, h2⟩ := h d List.mem_cons_self
    have ih := lcGo_map (b := b) (el := el) (env := env) f ds (fun d hd => h d (List.mem_cons_of_mem _ hd))
    simp only [lcGo, h1, yesM, R.bind, if_true, h2, ih, List.map_cons]
/-- what stands on the stack -/
def spD (s : Sp) : D := .tup [toD s.1, .int (s.2.1 : Int)]
def lvI (ss : List Sp) : List Int := (ss.map (·.2.1)).map fun (n : Nat) => (n : Int)
theorem intsOf_map : ∀ l : List Int, intsOf (l.map D.int) = some l
  | [] => rfl
  | a :: r => by simp only [List.map_cons, intsOf, intsOf_map r]
theorem bMax_map {l : List Int} (h : l ≠ []) : bMax [.lst (l.map D.int)] = some (.int (maxI l)) := by
  unfold bMax
  simp only [intsOf_map]
  cases l with
  | nil => exact absurd rfl h
  | cons a r => rfl
def fstD : D → D
  | .tup (d :: _) => d
  | d => d
def sndD : D → D
  | .tup (_ :: d :: _) => d
  | d => d
theorem map_fst (ss : List Sp) : (ss.map spD).map fstD = (ss.map (·.1)).map toD := by
  rw [List.map_map, List.map_map]; rfl
theorem map_snd (ss : List Sp) : (ss.map spD).map sndD = (lvI ss).map D.int := by
  unfold lvI; rw [List.map_map, List.map_map, List.map_map]; rfl
/-- the last n of them -/
theorem cut_last (ss : List Sp) {n : Nat} (h : n ≤ ss.length) : cutD (ss.map spD) (some ((ss.length : Int) - (n : Int))) none = (ss.drop (ss.length - n)).map spD := by
  unfold cutD
  have e1 : HT.sIx (ss.map spD).length 0 (some ((ss.length : Int) - (n : Int))) = ss.length - n := by
    simp only [HT.sIx, List.length_map]
    rw [if_neg (by omega)]
    omega
  rw [e1]
  show ((ss.map spD).drop (ss.length - n)).take ((ss.map spD).length - (ss.length - n)) = _
  rw [← List.map_drop, ← List.map_take, List.length_map, List.take_of_length_le (by rw [List.length_drop]; omega)]
theorem cut_first (ss : List Sp) {n : Nat} (h : n ≤ ss.length) : cutD (ss.map spD) none (some ((ss.length : Int) - (n : Int))) = (ss.take (ss.length - n)).map spD := by
  unfold cutD
  have e1 : HT.sIx (ss.map spD).length (ss.map spD).length (some ((ss.length : Int) - (n : Int))) = ss.length - n := by
    simp only [HT.sIx, List.length_map]
    rw [if_neg (by omega)]
    omega
  rw [e1]
  show ((ss.map spD).drop 0).take (ss.length - n - 0) = _
  rw [List.drop_zero, Nat.sub_zero, ← List.map_take]
/-- the way's numbers -/
theorem many_at (w wy : Int) (hwy : wy = 13 ∨ wy = 5) (hw : 0 ≤ w ∧ w < 17) : ∃ way : Int, (if wy ≤ w then w % 5 else w) = way ∧ 0 ≤ way ∧ way < wy ∧ atI [D.int 2, .int 2, .int 2, .int 2, .int 3, .int 1, .int 1, .int 1, .int 1, .int 2, .int 2, .int 2, .int 2, .int 99, .int 99, .int 99, .int 99] way = some (.int (many way)) := by
  have go : ∀ way : Int, 0 ≤ way ∧ way < 13 → atI [D.int 2, .int 2, .int 2, .int 2, .int 3, .int 1, .int 1, .int 1, .int 1, .int 2, .int 2, .int 2, .int 2, .int 99, .int 99, .int 99, .int 99] way = some (.int (many way)) := by
    intro way h
    have hc : way = 0 ∨ way = 1 ∨ way = 2 ∨ way = 3 ∨ way = 4 ∨ way = 5 ∨ way = 6 ∨ way = 7 ∨ way = 8 ∨ way = 9 ∨ way = 10 ∨ way = 11 ∨ way = 12 := by omega
    rcases hc with rfl | rfl | rfl | rfl | rfl | rfl | rfl | rfl | rfl | rfl | rfl | rfl | rfl <;> rfl
  by_cases h : wy ≤ w
  · rw [if_pos h]
    have h1 := Int.emod_nonneg w (by decide : (5 : Int) ≠ 0)
    have h2 := Int.emod_lt_of_pos w (by decide : (0 : Int) < 5)
    exact ⟨_, rfl, h1, by omega, go _ ⟨h1, by omega⟩⟩
  · rw [if_neg h]
    exact ⟨_, rfl, hw.1, by omega, go _ ⟨hw.1, by omega⟩⟩
/-- what holds of the stack -/
def StOk (names : List Str) (na : Prop) (ss : List Sp) : Prop := ∀ s ∈ ss, Ok names na s.1 s.2.1 s.2.2 ∧ s.2.1 ≤ 14
def szs (ss : List Sp) : Nat := (ss.map (·.2.2)).sum
theorem szs_app (a b : List Sp) : szs (a ++ b) = szs a + szs b := by unfold szs; rw [List.map_append, List.sum_append]
theorem put_ok {names : List Str} (h : Names names) (na : Prop) (wy : Int) (hwy : wy = 13 ∨ wy = 5) (hna : na → wy = 5) (number : Int) (hn : 0 ≤ number) (ss : List Sp) (hs : StOk names na ss) (hl : ss.length ≤ 1000) :
    ∃ ss' : List Sp, m_l_put [.lst (ss.map spD), .int number, .lst (names.map D.str), .int wy] = .ok (.lst (ss'.map spD)) ∧ StOk names na ss' ∧ ss'.length ≤ ss.length + 1 ∧ szs ss' ≤ szs ss + 1 := by
  have w1 := Int.emod_nonneg number (by decide : (17 : Int) ≠ 0)
  have w2 := Int.emod_lt_of_pos number (by decide : (0 : Int) < 17)
  generalize hw : number % 17 = w at w1 w2
  obtain ⟨way, e1, y1, y2, e2⟩ := many_at w wy hwy ⟨w1, w2⟩
  have hr : 0 ≤ number / 17 := Int.ediv_nonneg hn (by decide)
  obtain ⟨lf, l1, l2⟩ := leaf_ok h na (number / 17) hr
  have hl2 : ss.length + 1 ≤ 100000 := by omega
  have leafS : (ss.map spD) ++ [.tup [toD lf, .int 1]] = (ss ++ [(lf, 1, 1)]).map spD := by rw [List.map_append]; rfl
  have leafG : StOk names na (ss ++ [(lf, 1, 1)]) := fun s hm => by
    rcases List.mem_append.mp hm with hm | hm
    · exact hs s hm
    · rw [List.mem_singleton] at hm; subst hm; exact ⟨l2, by show 1 ≤ 14; decide⟩
  have leafZ : szs (ss ++ [(lf, 1, 1)]) ≤ szs ss + 1 := by rw [szs_app]; exact Nat.le_refl _
  have mk := many_is way
  have m0 : 0 < many way := by omega
  by_cases hm : ss.length < many way
  · refine ⟨ss ++ [(lf, 1, 1)], ?_, leafG, by simp, leafZ⟩
    rw [← leafS]
    by_cases h13 : wy ≤ w
    · rw [if_pos h13] at e1
      simp (decide := true) [fnM, seqM, asgM, retM, dropM, op2, cM, cbM, consA, nilA, varM, notV, andV, orV, notB, andB, orB, asB, ifS, ifM, tupM, lstM, callM, slM, someM, noM, itM, rngM, Ask.forM, chM, joinM, negM, augM, nextM, raiseM, R.bind, R.of, toO, bInt, bLen, bType, bAll, bMax, bIsi, D.add, D.sub, D.mul, D.fdiv, D.mod, D.lt, D.le, D.gt, D.ge, D.eq, D.ne, D.is, D.isnt, D.inn, D.ix, D.sl, D.items, D.flat, D.isNon, D.tyN, D.tyM, scal, tgN, tg2, isT, kgetM, zipM, jsM, nilJ, consJ, fmtM, retMo, asgMo, dropMo, ifSo, augMo, forMo, newMo, appMo, retOwn, wipeE, m_l_put, b_l_put, hw, h13, e1, e2, hm, l1, hl2]
    · rw [if_neg h13] at e1
      subst e1
      simp (decide := true) [fnM, seqM, asgM, retM, dropM, op2, cM, cbM, consA, nilA, varM, notV, andV, orV, notB, andB, orB, asB, ifS, ifM, tupM, lstM, callM, slM, someM, noM, itM, rngM, Ask.forM, chM, joinM, negM, augM, nextM, raiseM, R.bind, R.of, toO, bInt, bLen, bType, bAll, bMax, bIsi, D.add, D.sub, D.mul, D.fdiv, D.mod, D.lt, D.le, D.gt, D.ge, D.eq, D.ne, D.is, D.isnt, D.inn, D.ix, D.sl, D.items, D.flat, D.isNon, D.tyN, D.tyM, scal, tgN, tg2, isT, kgetM, zipM, jsM, nilJ, consJ, fmtM, retMo, asgMo, dropMo, ifSo, augMo, forMo, newMo, appMo, retOwn, wipeE, m_l_put, b_l_put, hw, h13, e2, hm, l1, hl2]
  · have hm' : many way ≤ ss.length := by omega
    have hmi : ¬ ss.length < many way := hm
    have c1 := cut_last ss hm'
    have c2 := cut_first ss hm'
    generalize htk : ss.drop (ss.length - many way) = tk at c1
    have tl : tk.length = many way := by rw [← htk, List.length_drop]; omega
    have tl5 : tk.length ≤ 8000000 := by omega
    have tkG : StOk names na tk := fun s hm => hs s (by rw [← htk] at hm; exact List.mem_of_mem_drop hm)
    have tkZ : szs ss = szs (ss.take (ss.length - many way)) + szs tk := by rw [← szs_app, ← htk, List.take_append_drop]
    have g0 : ∀ env : Sl, env.length = 10 → lcGo (tgN 9) yesM le_l_put_0 env (tk.map spD) = .ok ((lvI tk).map D.int) := fun env he => by
      rw [← map_snd]
      refine lcGo_map sndD _ fun d hd => ⟨_, rfl, ?_⟩
      obtain ⟨s, _, rfl⟩ := List.mem_map.mp hd
      have : (env.set 9 (some (.tup [toD s.1, .int (s.2.1 : Int)])))[9]? = some (some (.tup [toD s.1, .int (s.2.1 : Int)])) := List.getElem?_set_self (by omega)
      simp (decide := true) [fnM, seqM, asgM, retM, dropM, op2, cM, cbM, consA, nilA, varM, notV, andV, orV, notB, andB, orB, asB, ifS, ifM, tupM, lstM, callM, slM, someM, noM, itM, rngM, Ask.forM, chM, joinM, negM, augM, nextM, raiseM, R.bind, R.of, toO, bInt, bLen, bType, bAll, bMax, bIsi, D.add, D.sub, D.mul, D.fdiv, D.mod, D.lt, D.le, D.gt, D.ge, D.eq, D.ne, D.is, D.isnt, D.inn, D.ix, D.sl, D.items, D.flat, D.isNon, D.tyN, D.tyM, scal, tgN, tg2, isT, kgetM, zipM, jsM, nilJ, consJ, fmtM, retMo, asgMo, dropMo, ifSo, augMo, forMo, newMo, appMo, retOwn, wipeE, le_l_put_0, this, spD, atI_1, sndD]
    have g1 : ∀ env : Sl, env.length = 10 → lcGo (tgN 9) yesM le_l_put_1 env (tk.map spD) = .ok ((tk.map (·.1)).map toD) := fun env he => by
      rw [← map_fst]
      refine lcGo_map fstD _ fun d hd => ⟨_, rfl, ?_⟩
      obtain ⟨s, _, rfl⟩ := List.mem_map.mp hd
      have : (env.set 9 (some (.tup [toD s.1, .int (s.2.1 : Int)])))[9]? = some (some (.tup [toD s.1, .int (s.2.1 : Int)])) := List.getElem?_set_self (by omega)
      simp (decide := true) [fnM, seqM, asgM, retM, dropM, op2, cM, cbM, consA, nilA, varM, notV, andV, orV, notB, andB, orB, asB, ifS, ifM, tupM, lstM, callM, slM, someM, noM, itM, rngM, Ask.forM, chM, joinM, negM, augM, nextM, raiseM, R.bind, R.of, toO, bInt, bLen, bType, bAll, bMax, bIsi, D.add, D.sub, D.mul, D.fdiv, D.mod, D.lt, D.le, D.gt, D.ge, D.eq, D.ne, D.is, D.isnt, D.inn, D.ix, D.sl, D.items, D.flat, D.isNon, D.tyN, D.tyM, scal, tgN, tg2, isT, kgetM, zipM, jsM, nilJ, consJ, fmtM, retMo, asgMo, dropMo, ifSo, augMo, forMo, newMo, appMo, retOwn, wipeE, le_l_put_1, this, spD, atI_0, fstD]
    have g2 : ∀ env : Sl, env.length = 10 → lcGo (tgN 9) yesM le_l_put_2 env (tk.map spD) = .ok ((lvI tk).map D.int) := fun env he => by
      rw [← map_snd]
      refine lcGo_map sndD _ fun d hd => ⟨_, rfl, ?_⟩
      obtain ⟨s, _, rfl⟩ := List.mem_map.mp hd
      have : (env.set 9 (some (.tup [toD s.1, .int (s.2.1 : Int)])))[9]? = some (some (.tup [toD s.1, .int (s.2.1 : Int)])) := List.getElem?_set_self (by omega)
      simp (decide := true) [fnM, seqM, asgM, retM, dropM, op2, cM, cbM, consA, nilA, varM, notV, andV, orV, notB, andB, orB, asB, ifS, ifM, tupM, lstM, callM, slM, someM, noM, itM, rngM, Ask.forM, chM, joinM, negM, augM, nextM, raiseM, R.bind, R.of, toO, bInt, bLen, bType, bAll, bMax, bIsi, D.add, D.sub, D.mul, D.fdiv, D.mod, D.lt, D.le, D.gt, D.ge, D.eq, D.ne, D.is, D.isnt, D.inn, D.ix, D.sl, D.items, D.flat, D.isNon, D.tyN, D.tyM, scal, tgN, tg2, isT, kgetM, zipM, jsM, nilJ, consJ, fmtM, retMo, asgMo, dropMo, ifSo, augMo, forMo, newMo, appMo, retOwn, wipeE, le_l_put_2, this, spD, atI_1, sndD]
    have hne0 : tk.map (·.2.1) ≠ [] := fun e => by
      have := congrArg List.length e
      rw [List.length_map, tl] at this
      simp at this
      omega
    have hmxN : maxI (lvI tk) = (maxN (tk.map (·.2.1)) : Int) := maxI_maxN _ hne0
    have hne : lvI tk ≠ [] := fun e => hne0 (List.map_eq_nil_iff.mp e)
    obtain ⟨p, p1, p2⟩ := made_ok h na way (number / 17) ⟨y1, by omega⟩ (fun z => by have := hna z; omega) tk (fun p hp => (tkG p hp).1) tl
    generalize hmn : maxN (tk.map (·.2.1)) = mn at hmxN p2
    have szT : (tk.map (·.2.2)).sum = szs tk := rfl
    rw [szT] at p2
    generalize tk.map (·.1) = pp at g1 p1
    generalize lvI tk = hh at g0 g2 hne hmxN
    cases hh with
    | nil => exact absurd rfl hne
    | cons hi his =>
    have hfirst : (ss.take (ss.length - many way)).length = ss.length - many way := by rw [List.length_take]; omega
    have hl3 : ss.length ≤ 99999 + many way := by omega
    have outL : (ss.take (ss.length - many way)).length + 1 ≤ 100000 := by rw [hfirst]; omega
    have outS : ((ss.take (ss.length - many way)).map spD) ++ [.tup [toD p, .int (1 + (mn : Int))]] = (ss.take (ss.length - many way) ++ [(p, 1 + mn, 1 + szs tk)]).map spD := by
      rw [List.map_append, List.map_singleton]; unfold spD; rw [show ((1 + mn : Nat) : Int) = 1 + (mn : Int) by omega]
    have outG : mn ≤ 13 → StOk names na (ss.take (ss.length - many way) ++ [(p, 1 + mn, 1 + szs tk)]) := fun hle s hm => by
      rcases List.mem_append.mp hm with hm | hm
      · exact hs s (List.mem_of_mem_take hm)
      · rw [List.mem_singleton] at hm; subst hm; exact ⟨p2, by show 1 + mn ≤ 14; omega⟩
    have outZ : szs (ss.take (ss.length - many way) ++ [(p, 1 + mn, 1 + szs tk)]) ≤ szs ss + 1 := by
      rw [szs_app, tkZ]
      show szs _ + (1 + szs tk) ≤ _
      omega
    by_cases h13 : wy ≤ w
    · rw [if_pos h13] at e1
      by_cases hx : (13 : Int) < (mn : Int)
      · refine ⟨ss ++ [(lf, 1, 1)], ?_, leafG, by simp, leafZ⟩
        rw [← leafS]
        simp (decide := true) [fnM, seqM, asgM, retM, dropM, op2, cM, cbM, consA, nilA, varM, notV, andV, orV, notB, andB, orB, asB, ifS, ifM, tupM, lstM, callM, slM, someM, noM, itM, rngM, Ask.forM, chM, joinM, negM, augM, nextM, raiseM, R.bind, R.of, toO, bInt, bLen, bType, bAll, bMax, bIsi, D.add, D.sub, D.mul, D.fdiv, D.mod, D.lt, D.le, D.gt, D.ge, D.eq, D.ne, D.is, D.isnt, D.inn, D.ix, D.sl, D.items, D.flat, D.isNon, D.tyN, D.tyM, scal, tgN, tg2, isT, kgetM, zipM, jsM, nilJ, consJ, fmtM, retMo, asgMo, dropMo, ifSo, augMo, forMo, newMo, appMo, retOwn, wipeE, m_l_put, b_l_put, hw, h13, e1, e2, hmi, l1, hl2, c1, lcM, tl5, g0, intsOf, intsOf_map, hmxN, hx]
      · refine ⟨_, ?_, outG (by omega), by rw [List.length_append, hfirst, List.length_singleton]; omega, outZ⟩
        rw [← outS]
        simp (decide := true) [fnM, seqM, asgM, retM, dropM, op2, cM, cbM, consA, nilA, varM, notV, andV, orV, notB, andB, orB, asB, ifS, ifM, tupM, lstM, callM, slM, someM, noM, itM, rngM, Ask.forM, chM, joinM, negM, augM, nextM, raiseM, R.bind, R.of, toO, bInt, bLen, bType, bAll, bMax, bIsi, D.add, D.sub, D.mul, D.fdiv, D.mod, D.lt, D.le, D.gt, D.ge, D.eq, D.ne, D.is, D.isnt, D.inn, D.ix, D.sl, D.items, D.flat, D.isNon, D.tyN, D.tyM, scal, tgN, tg2, isT, kgetM, zipM, jsM, nilJ, consJ, fmtM, retMo, asgMo, dropMo, ifSo, augMo, forMo, newMo, appMo, retOwn, wipeE, m_l_put, b_l_put, hw, h13, e1, e2, hmi, l1, hl2, c1, c2, lcM, tl5, g0, g1, g2, intsOf, intsOf_map, hmxN, hx, p1, outL, hl3]
    · rw [if_neg h13] at e1
      subst e1
      by_cases hx : (13 : Int) < (mn : Int)
      · refine ⟨ss ++ [(lf, 1, 1)], ?_, leafG, by simp, leafZ⟩
        rw [← leafS]
        simp (decide := true) [fnM, seqM, asgM, retM, dropM, op2, cM, cbM, consA, nilA, varM, notV, andV, orV, notB, andB, orB, asB, ifS, ifM, tupM, lstM, callM, slM, someM, noM, itM, rngM, Ask.forM, chM, joinM, negM, augM, nextM, raiseM, R.bind, R.of, toO, bInt, bLen, bType, bAll, bMax, bIsi, D.add, D.sub, D.mul, D.fdiv, D.mod, D.lt, D.le, D.gt, D.ge, D.eq, D.ne, D.is, D.isnt, D.inn, D.ix, D.sl, D.items, D.flat, D.isNon, D.tyN, D.tyM, scal, tgN, tg2, isT, kgetM, zipM, jsM, nilJ, consJ, fmtM, retMo, asgMo, dropMo, ifSo, augMo, forMo, newMo, appMo, retOwn, wipeE, m_l_put, b_l_put, hw, h13, e2, hmi, l1, hl2, c1, lcM, tl5, g0, intsOf, intsOf_map, hmxN, hx]
      · refine ⟨_, ?_, outG (by omega), by rw [List.length_append, hfirst, List.length_singleton]; omega, outZ⟩
        rw [← outS]
        simp (decide := true) [fnM, seqM, asgM, retM, dropM, op2, cM, cbM, consA, nilA, varM, notV, andV, orV, notB, andB, orB, asB, ifS, ifM, tupM, lstM, callM, slM, someM, noM, itM, rngM, Ask.forM, chM, joinM, negM, augM, nextM, raiseM, R.bind, R.of, toO, bInt, bLen, bType, bAll, bMax, bIsi, D.add, D.sub, D.mul, D.fdiv, D.mod, D.lt, D.le, D.gt, D.ge, D.eq, D.ne, D.is, D.isnt, D.inn, D.ix, D.sl, D.items, D.flat, D.isNon, D.tyN, D.tyM, scal, tgN, tg2, isT, kgetM, zipM, jsM, nilJ, consJ, fmtM, retMo, asgMo, dropMo, ifSo, augMo, forMo, newMo, appMo, retOwn, wipeE, m_l_put, b_l_put, hw, h13, e2, hmi, l1, hl2, c1, c2, lcM, tl5, g0, g1, g2, intsOf, intsOf_map, hmxN, hx, p1, outL, hl3]
end My
namespace My
open PySem L2 Evl Ask
open Th (Ok ok_num ok_name ok_sum ok_let ok_choose ok_ask ok_hand GoodK)
theorem cells_cut (ns : List Int) (a b : Int) : ∃ cells : List Int, cutD (ns.map D.int) (some a) (some b) = cells.map D.int ∧ (cells.length : Nat) ≤ HT.sIx ns.length ns.length (some b) - HT.sIx ns.length 0 (some a) := by
  refine ⟨(ns.drop (HT.sIx ns.length 0 (some a))).take (HT.sIx ns.length ns.length (some b) - HT.sIx ns.length 0 (some a)), ?_, by rw [List.length_take]; omega⟩
  unfold cutD
  rw [List.length_map, List.map_take, List.map_drop]
/-- the piece of a stack, its names not told -/
theorem open_ok {names : List Str} (h : Names names) (na : Prop) (wy : Int) (hwy : wy = 13 ∨ wy = 5) (hna : na → wy = 5) (cells : List Int) (hl : cells.length ≤ 100) : ∃ p : Th.Pc, m_l_open_piece [.lst (cells.map D.int), .lst (names.map D.str), .int wy] = .ok (toD p) ∧ Ok names na p 18 (cells.length + 5) := by
  obtain ⟨e', g1, ss, x4, x5, x6, g2, g3, g4, g5, g6⟩ := forGo_inv (b := tgN 4) (body := lb_l_open_piece_0) (fun i env => ∃ (ss : List Sp) (x4 x5 x6 : Option D), env = [some (.lst (cells.map D.int)), some (.lst (names.map D.str)), some (.int wy), some (.lst (ss.map spD)), x4, x5, x6] ∧ ss.length ≤ i ∧ i ≤ cells.length ∧ StOk names na ss ∧ szs ss ≤ i)
    (rangeD 0 cells.length) 0 [some (.lst (cells.map D.int)), some (.lst (names.map D.str)), some (.int wy), some (.lst []), none, none, none] ⟨[], _, _, _, rfl, Nat.le_refl _, Nat.zero_le _, (fun _ h => by cases h), Nat.le_refl _⟩ (fun i d env _ hd ⟨ss, x4, x5, x6, he, hz, hi4, hg, hsz⟩ => by
      subst he
      obtain ⟨hi, rfl⟩ := rangeD_get hd
      rw [Nat.sub_zero] at hi
      obtain ⟨r, r1, r2, r3⟩ := mixed_ok (cells[i]) (i : Int)
      obtain ⟨ss', s1, s2, s3, s4⟩ := put_ok h na wy hwy hna r r2 ss hg (by omega)
      refine ⟨_, _, rfl, ?_, ss', some (.int (i : Int)), x5, x6, rfl, by omega, by omega, s2, by omega⟩
      have ha : atI (cells.map D.int) (i : Int) = some (.int (cells[i])) := by rw [atI_int, List.getElem?_map, List.getElem?_eq_getElem hi]; rfl
      simp (decide := true) [fnM, seqM, asgM, retM, dropM, op2, cM, cbM, consA, nilA, varM, notV, andV, orV, notB, andB, orB, asB, ifS, ifM, tupM, lstM, callM, slM, someM, noM, itM, rngM, Ask.forM, chM, joinM, negM, augM, nextM, raiseM, R.bind, R.of, toO, bInt, bLen, bType, bAll, bMax, bIsi, D.add, D.sub, D.mul, D.fdiv, D.mod, D.lt, D.le, D.gt, D.ge, D.eq, D.ne, D.is, D.isnt, D.inn, D.ix, D.sl, D.items, D.flat, D.isNon, D.tyN, D.tyM, scal, tgN, tg2, isT, kgetM, zipM, jsM, nilJ, consJ, fmtM, retMo, asgMo, dropMo, ifSo, augMo, forMo, newMo, appMo, retOwn, wipeE, lb_l_open_piece_0, ha, r1, s1])
  subst g2
  rw [rangeD_len] at g3 g4 g6
  have hcut : cutD (ss.map spD) (some (-4)) none = (ss.drop (ss.length - 4)).map spD := by
    unfold cutD
    have e1 : HT.sIx (ss.map spD).length 0 (some (-4)) = ss.length - 4 := by
      simp only [HT.sIx, List.length_map]
      rw [if_pos (by omega)]
      omega
    rw [e1]
    show ((ss.map spD).drop (ss.length - 4)).take ((ss.map spD).length - (ss.length - 4)) = _
    rw [← List.map_drop, ← List.map_take, List.length_map, List.take_of_length_le (by rw [List.length_drop]; omega)]
  have hsub : szs (ss.drop (ss.length - 4)) ≤ szs ss := by
    have e : szs ss = szs (ss.take (ss.length - 4)) + szs (ss.drop (ss.length - 4)) := by rw [← szs_app, List.take_append_drop]
    omega
  have hlen : (ss.drop (ss.length - 4)).length ≤ 4 := by rw [List.length_drop]; omega
  have hok : StOk names na (ss.drop (ss.length - 4)) := fun s hm => g5 s (List.mem_of_mem_drop hm)
  generalize htk : ss.drop (ss.length - 4) = tk at hcut hsub hlen hok
  have h0 : Th.Num (cells.length : Int) := ⟨by omega, by omega⟩
  obtain ⟨e2, k1, p, x6', k2, k3⟩ := forGo_inv (b := tgN 6) (body := lb_l_open_piece_1) (fun i env => ∃ (p : Th.Pc) (x6 : Option D), env = [some (.lst (cells.map D.int)), some (.lst (names.map D.str)), some (.int wy), some (.lst (ss.map spD)), x4, some (toD p), x6] ∧ Ok names na p (14 + i) (1 + i + szs (tk.take i)))
    (tk.map spD) 0 [some (.lst (cells.map D.int)), some (.lst (names.map D.str)), some (.int wy), some (.lst (ss.map spD)), x4, some (toD (.num (cells.length : Int))), x6] ⟨_, _, rfl, (ok_num h0).imp (by omega) (by omega)⟩ (fun i d env _ hd ⟨p, x6, he, hp⟩ => by
      subst he
      rw [Nat.sub_zero, List.getElem?_map] at hd
      cases hs : tk[i]? with
      | none => rw [hs] at hd; cases hd
      | some s =>
        rw [hs] at hd
        cases hd
        have hi : i < tk.length := by
          by_cases q : i < tk.length
          · exact q
          · rw [List.getElem?_eq_none (by omega)] at hs; cases hs
        have hmem : s ∈ tk := List.mem_of_getElem? hs
        have ok := hok s hmem
        have es : szs (tk.take (i + 1)) = szs (tk.take i) + s.2.2 := by
          rw [List.take_add_one, hs, szs_app]; unfold szs; simp
        refine ⟨_, _, rfl, ?_, .sum s.1 p, some (spD s), rfl, (ok_sum (h := 14 + i) ok.1 hp (by have := ok.2; omega) (Nat.le_refl _)).imp (by omega) (by rw [es]; omega)⟩
        simp (decide := true) [fnM, seqM, asgM, retM, dropM, op2, cM, cbM, consA, nilA, varM, notV, andV, orV, notB, andB, orB, asB, ifS, ifM, tupM, lstM, callM, slM, someM, noM, itM, rngM, Ask.forM, chM, joinM, negM, augM, nextM, raiseM, R.bind, R.of, toO, bInt, bLen, bType, bAll, bMax, bIsi, D.add, D.sub, D.mul, D.fdiv, D.mod, D.lt, D.le, D.gt, D.ge, D.eq, D.ne, D.is, D.isnt, D.inn, D.ix, D.sl, D.items, D.flat, D.isNon, D.tyN, D.tyM, scal, tgN, tg2, isT, kgetM, zipM, jsM, nilJ, consJ, fmtM, retMo, asgMo, dropMo, ifSo, augMo, forMo, newMo, appMo, retOwn, wipeE, lb_l_open_piece_1, spD, atI_0, toD])
  subst k2
  rw [List.length_map] at k3
  have ht : szs (tk.take (0 + tk.length)) = szs tk := by rw [Nat.zero_add, List.take_length]
  rw [ht] at k3
  refine ⟨p, ?_, k3.imp (by omega) (by omega)⟩
  have i1 : -10000000 ≤ (cells.length : Int) := by omega
  have i2 : (cells.length : Int) ≤ 10000000 := by omega
  rw [toD] at k1
  simp (decide := true) [fnM, seqM, asgM, retM, dropM, op2, cM, cbM, consA, nilA, varM, notV, andV, orV, notB, andB, orB, asB, ifS, ifM, tupM, lstM, callM, slM, someM, noM, itM, rngM, Ask.forM, chM, joinM, negM, augM, nextM, raiseM, R.bind, R.of, toO, bInt, bLen, bType, bAll, bMax, bIsi, D.add, D.sub, D.mul, D.fdiv, D.mod, D.lt, D.le, D.gt, D.ge, D.eq, D.ne, D.is, D.isnt, D.inn, D.ix, D.sl, D.items, D.flat, D.isNon, D.tyN, D.tyM, scal, tgN, tg2, isT, kgetM, zipM, jsM, nilJ, consJ, fmtM, retMo, asgMo, dropMo, ifSo, augMo, forMo, newMo, appMo, retOwn, wipeE, m_l_open_piece, b_l_open_piece, i1, i2, g1, hcut, k1]
end My
namespace My
open PySem L2 Evl Ask
open Th (Ok ok_num ok_name ok_sum ok_let ok_choose ok_ask ok_hand GoodK)
/-- let upon let -/
def lets (p : Th.Pc) (l : Int) : List Str → Nat → Th.Pc
  | [], _ => p
  | x :: r, k => lets (.let_ x (.num ((l + 331 * (k : Int)) % 1000)) p) l r (k + 1)
theorem piece_ok {names : List Str} (h : Names names) (na : Prop) (wy : Int) (hwy : wy = 13 ∨ wy = 5) (hna : na → wy = 5) (cells : List Int) (hl : cells.length ≤ 100) : ∃ p : Th.Pc, m_l_piece [.lst (cells.map D.int), .lst (names.map D.str), .int wy] = .ok (toD p) ∧ Ok names na p 22 (cells.length + 13) ∧ Th.Told p (fun _ => False) := by
  obtain ⟨p0, o1, o2⟩ := open_ok h na wy hwy hna cells hl
  have t0 : Th.Told p0 (fun x => ∃ j : Nat, 0 ≤ j ∧ names[j]? = some x) := Th.told_names fun x hx => by
    obtain ⟨j, hj⟩ := List.getElem?_of_mem (o2.nm x hx)
    exact ⟨j, Nat.zero_le _, hj⟩
  obtain ⟨e2, k1, p, x6', k2, k3, k4⟩ := forGo_inv (b := tgN 4) (body := lb_l_piece_0) (fun i env => ∃ (p : Th.Pc) (x6 : Option D), env = [some (.lst (cells.map D.int)), some (.lst (names.map D.str)), some (.int wy), some (toD p), x6] ∧ Ok names na p (18 + i) (cells.length + 5 + 2 * i) ∧ Th.Told p (fun x => ∃ j : Nat, i ≤ j ∧ names[j]? = some x))
    (rangeD 0 4) 0 [some (.lst (cells.map D.int)), some (.lst (names.map D.str)), some (.int wy), some (toD p0), none] ⟨_, _, rfl, o2, t0⟩ (fun i d env _ hd ⟨p, x6, he, hp, ht⟩ => by
      subst he
      obtain ⟨hi, rfl⟩ := rangeD_get hd
      rw [Nat.sub_zero] at hi
      have hlt : i < names.length := by rw [h.len]; exact hi
      have ex : atI (names.map D.str) (i : Int) = some (.str names[i]) := by rw [atI_int, List.getElem?_map, List.getElem?_eq_getElem hlt]; rfl
      have hx : names[i] ∈ names := List.getElem_mem hlt
      have n1 := Int.emod_nonneg ((cells.length : Int) + 331 * (i : Int)) (by decide : (1000 : Int) ≠ 0)
      have n2 := Int.emod_lt_of_pos ((cells.length : Int) + 331 * (i : Int)) (by decide : (0 : Int) < 1000)
      have on : Ok names na (.num (((cells.length : Int) + 331 * (i : Int)) % 1000)) 1 1 := ok_num ⟨n1, by omega⟩
      refine ⟨_, _, rfl, ?_, .let_ names[i] (.num (((cells.length : Int) + 331 * (i : Int)) % 1000)) p, some (.int (i : Int)), rfl, (ok_let (h := 18 + i) hx on hp (by omega) (Nat.le_refl _)).imp (by omega) (by omega), True.intro, ht.imp fun y ⟨j, j1, j2⟩ => ?_⟩
      · simp (decide := true) [fnM, seqM, asgM, retM, dropM, op2, cM, cbM, consA, nilA, varM, notV, andV, orV, notB, andB, orB, asB, ifS, ifM, tupM, lstM, callM, slM, someM, noM, itM, rngM, Ask.forM, chM, joinM, negM, augM, nextM, raiseM, R.bind, R.of, toO, bInt, bLen, bType, bAll, bMax, bIsi, D.add, D.sub, D.mul, D.fdiv, D.mod, D.lt, D.le, D.gt, D.ge, D.eq, D.ne, D.is, D.isnt, D.inn, D.ix, D.sl, D.items, D.flat, D.isNon, D.tyN, D.tyM, scal, tgN, tg2, isT, kgetM, zipM, jsM, nilJ, consJ, fmtM, retMo, asgMo, dropMo, ifSo, augMo, forMo, newMo, appMo, retOwn, wipeE, lb_l_piece_0, ex, toD]
      · by_cases hj : j = i
        · subst hj
          rw [List.getElem?_eq_getElem hlt] at j2
          cases j2
          exact .inl rfl
        · exact .inr ⟨j, by omega, j2⟩)
  subst k2
  refine ⟨p, ?_, k3.imp (by rw [rangeD_len]; omega) (by rw [rangeD_len]; omega), k4.imp fun y ⟨j, j1, j2⟩ => ?_⟩
  · simp (decide := true) [fnM, seqM, asgM, retM, dropM, op2, cM, cbM, consA, nilA, varM, notV, andV, orV, notB, andB, orB, asB, ifS, ifM, tupM, lstM, callM, slM, someM, noM, itM, rngM, Ask.forM, chM, joinM, negM, augM, nextM, raiseM, R.bind, R.of, toO, bInt, bLen, bType, bAll, bMax, bIsi, D.add, D.sub, D.mul, D.fdiv, D.mod, D.lt, D.le, D.gt, D.ge, D.eq, D.ne, D.is, D.isnt, D.inn, D.ix, D.sl, D.items, D.flat, D.isNon, D.tyN, D.tyM, scal, tgN, tg2, isT, kgetM, zipM, jsM, nilJ, consJ, fmtM, retMo, asgMo, dropMo, ifSo, augMo, forMo, newMo, appMo, retOwn, wipeE, m_l_piece, b_l_piece, o1, k1]
  · rw [rangeD_len] at j1
    rw [List.getElem?_eq_none (by rw [h.len]; omega)] at j2
    cases j2
end My
namespace My
open PySem L2 Evl Ask
/-- what holds of the piece at each turn -/
structure PInv (c i : Nat) (p : Th.Pc) : Prop where
  gd : Th.Gd p
  told : Th.Told p fun _ => False
  wh : Th.wh Th.isFig p ≤ 44
  sz : Th.size p ≤ c * (i + 1)
  ma : Th.mxa p ≤ c
theorem PInv.ht {c i : Nat} {p : Th.Pc} (h : PInv c i p) : Th.hgt p ≤ 44 := Nat.le_trans (Th.hgt_wh p).1 h.wh
theorem mul_up (c i : Nat) : c * (i + 1 + 1) = c * (i + 1) + c := by rw [Nat.mul_add c (i + 1) 1, Nat.mul_one]
theorem PInv.go {c i : Nat} {p q : Th.Pc} (h : PInv c i p) (s : Th.stp Th.figs p = .go q) : PInv c (i + 1) q :=
  ⟨Th.gd_step h.gd s, Th.told_step h.told s, Nat.le_trans (Th.wh_step Th.figs_fig s) h.wh, by have := (Th.size_step s).1; have := h.sz; have := h.ma; have e := mul_up c i; omega, Nat.le_trans (Th.size_step s).2 h.ma⟩
theorem PInv.of {names : List Str} {na : Prop} {p : Th.Pc} {c : Nat} (o : Th.Ok names na p 22 c) (t : Th.Told p fun _ => False) : PInv c 0 p :=
  ⟨o.gd, t, Nat.le_trans (Th.wh_hgt p) (by have := o.ht; omega), by have := o.sz; omega, Nat.le_trans (Th.mxa_size p) o.sz⟩
theorem names_size : ∀ p : Th.Pc, (Th.namesIn p).length ≤ Th.size p
  | .num _ => Nat.zero_le _
  | .name _ => Nat.le_refl _
  | .sum a b => by have := names_size a; have := names_size b; simp only [Th.namesIn, Th.size, List.length_append]; omega
  | .let_ _ a b => by have := names_size a; have := names_size b; simp only [Th.namesIn, Th.size, List.length_append, List.length_cons]; omega
  | .choose a b c => by have := names_size a; have := names_size b; have := names_size c; simp only [Th.namesIn, Th.size, List.length_append]; omega
  | .ask _ a => by have := names_size a; simp only [Th.namesIn, Th.size]; omega
  | .hand _ _ a b => by have := names_size a; have := names_size b; simp only [Th.namesIn, Th.size, List.length_append, List.length_cons]; omega
theorem few (p : Th.Pc) (h : Th.size p ≤ 50000) : ∃ L : List Str, L.length ≤ 50000 ∧ ∀ y ∈ Th.namesIn p, y ∈ L := ⟨Th.namesIn p, by have := names_size p; omega, fun y h => h⟩
end My
namespace My
open PySem L2 Evl Ask
theorem fk_num : List.lookup ("num" : Str) t_FORMS = some (.ktup [.str "number"]) := by with_unfolding_all rfl
theorem fk_name : List.lookup ("name" : Str) t_FORMS = some (.ktup [.str "name"]) := by with_unfolding_all rfl
theorem fk_sum : List.lookup ("sum" : Str) t_FORMS = some (.ktup [.str "piece", .str "piece"]) := by with_unfolding_all rfl
theorem fk_let : List.lookup ("let" : Str) t_FORMS = some (.ktup [.str "name", .str "piece", .str "piece"]) := by with_unfolding_all rfl
theorem fk_choose : List.lookup ("choose" : Str) t_FORMS = some (.ktup [.str "piece", .str "piece", .str "piece"]) := by with_unfolding_all rfl
theorem fk_ask : List.lookup ("ask" : Str) t_FORMS = some (.ktup [.str "kind", .str "piece"]) := by with_unfolding_all rfl
theorem fk_hand : List.lookup ("hand" : Str) t_FORMS = some (.ktup [.str "kind", .str "name", .str "piece", .str "piece"]) := by with_unfolding_all rfl
theorem places_num (n : Int) : m_places_of [toD (.num n)] = .ok (.lst []) := by simp (decide := true) [fnM, seqM, asgM, retM, dropM, op2, cM, cbM, consA, nilA, varM, notV, andV, orV, notB, andB, orB, asB, ifS, ifM, tupM, lstM, callM, slM, someM, noM, itM, rngM, Ask.forM, chM, joinM, negM, augM, nextM, raiseM, R.bind, R.of, toO, bInt, bLen, bType, bAll, bMax, bIsi, D.add, D.sub, D.mul, D.fdiv, D.mod, D.lt, D.le, D.gt, D.ge, D.eq, D.ne, D.is, D.isnt, D.inn, D.ix, D.sl, D.items, D.flat, D.isNon, D.tyN, D.tyM, scal, tgN, tg2, isT, kgetM, zipM, jsM, nilJ, consJ, fmtM, retMo, asgMo, dropMo, ifSo, augMo, forMo, newMo, appMo, retOwn, wipeE, qCallOV, consV, nilV, dstM, dispM, insM, plK, seqQ, asgQ, retQ, dropQ, ifQ, ifQe, qN, nH, nV, nVA, noK, noKs, wipeQ, qCons, qNil, qList, Ask.forQ, forGoQ, fnF, fnQf, fnQ2, startQ, toQ, chUp, onL, onD, chO, chPut, putQL, putQD, delQD, rdP, ixP, ixD, ixL, slP, pl0, plF, plK, noErr, nextQ, enM, enumD, kixM, revM, dinM, truM, unpM, unpQ, tg3, fldM, qApp, appF, qExt, extF, qUpd, updF, qPop, popF, pop0F, qMove, qLst, qTup, qDct, q2, qCall, qCallO, ownL, qMeth, qMethL, qMake, fldQ, augQ, dictP, qDict, bTuple, bList, lcM, lcGo, yesM, ixN, m_places_of, b_places_of, lt_places_of_0, le_places_of_1, toD, atI_0, fk_num]
theorem places_name (n : Str) : m_places_of [toD (.name n)] = .ok (.lst []) := by simp (decide := true) [fnM, seqM, asgM, retM, dropM, op2, cM, cbM, consA, nilA, varM, notV, andV, orV, notB, andB, orB, asB, ifS, ifM, tupM, lstM, callM, slM, someM, noM, itM, rngM, Ask.forM, chM, joinM, negM, augM, nextM, raiseM, R.bind, R.of, toO, bInt, bLen, bType, bAll, bMax, bIsi, D.add, D.sub, D.mul, D.fdiv, D.mod, D.lt, D.le, D.gt, D.ge, D.eq, D.ne, D.is, D.isnt, D.inn, D.ix, D.sl, D.items, D.flat, D.isNon, D.tyN, D.tyM, scal, tgN, tg2, isT, kgetM, zipM, jsM, nilJ, consJ, fmtM, retMo, asgMo, dropMo, ifSo, augMo, forMo, newMo, appMo, retOwn, wipeE, qCallOV, consV, nilV, dstM, dispM, insM, plK, seqQ, asgQ, retQ, dropQ, ifQ, ifQe, qN, nH, nV, nVA, noK, noKs, wipeQ, qCons, qNil, qList, Ask.forQ, forGoQ, fnF, fnQf, fnQ2, startQ, toQ, chUp, onL, onD, chO, chPut, putQL, putQD, delQD, rdP, ixP, ixD, ixL, slP, pl0, plF, plK, noErr, nextQ, enM, enumD, kixM, revM, dinM, truM, unpM, unpQ, tg3, fldM, qApp, appF, qExt, extF, qUpd, updF, qPop, popF, pop0F, qMove, qLst, qTup, qDct, q2, qCall, qCallO, ownL, qMeth, qMethL, qMake, fldQ, augQ, dictP, qDict, bTuple, bList, lcM, lcGo, yesM, ixN, m_places_of, b_places_of, lt_places_of_0, le_places_of_1, toD, atI_0, fk_name]
theorem places_sum (a b : Th.Pc) : m_places_of [toD (.sum a b)] = .ok (.lst [.int 1, .int 2]) := by simp (decide := true) [fnM, seqM, asgM, retM, dropM, op2, cM, cbM, consA, nilA, varM, notV, andV, orV, notB, andB, orB, asB, ifS, ifM, tupM, lstM, callM, slM, someM, noM, itM, rngM, Ask.forM, chM, joinM, negM, augM, nextM, raiseM, R.bind, R.of, toO, bInt, bLen, bType, bAll, bMax, bIsi, D.add, D.sub, D.mul, D.fdiv, D.mod, D.lt, D.le, D.gt, D.ge, D.eq, D.ne, D.is, D.isnt, D.inn, D.ix, D.sl, D.items, D.flat, D.isNon, D.tyN, D.tyM, scal, tgN, tg2, isT, kgetM, zipM, jsM, nilJ, consJ, fmtM, retMo, asgMo, dropMo, ifSo, augMo, forMo, newMo, appMo, retOwn, wipeE, qCallOV, consV, nilV, dstM, dispM, insM, plK, seqQ, asgQ, retQ, dropQ, ifQ, ifQe, qN, nH, nV, nVA, noK, noKs, wipeQ, qCons, qNil, qList, Ask.forQ, forGoQ, fnF, fnQf, fnQ2, startQ, toQ, chUp, onL, onD, chO, chPut, putQL, putQD, delQD, rdP, ixP, ixD, ixL, slP, pl0, plF, plK, noErr, nextQ, enM, enumD, kixM, revM, dinM, truM, unpM, unpQ, tg3, fldM, qApp, appF, qExt, extF, qUpd, updF, qPop, popF, pop0F, qMove, qLst, qTup, qDct, q2, qCall, qCallO, ownL, qMeth, qMethL, qMake, fldQ, augQ, dictP, qDict, bTuple, bList, lcM, lcGo, yesM, ixN, m_places_of, b_places_of, lt_places_of_0, le_places_of_1, toD, atI_0, fk_sum]
theorem places_let (x : Str) (a b : Th.Pc) : m_places_of [toD (.let_ x a b)] = .ok (.lst [.int 2, .int 3]) := by simp (decide := true) [fnM, seqM, asgM, retM, dropM, op2, cM, cbM, consA, nilA, varM, notV, andV, orV, notB, andB, orB, asB, ifS, ifM, tupM, lstM, callM, slM, someM, noM, itM, rngM, Ask.forM, chM, joinM, negM, augM, nextM, raiseM, R.bind, R.of, toO, bInt, bLen, bType, bAll, bMax, bIsi, D.add, D.sub, D.mul, D.fdiv, D.mod, D.lt, D.le, D.gt, D.ge, D.eq, D.ne, D.is, D.isnt, D.inn, D.ix, D.sl, D.items, D.flat, D.isNon, D.tyN, D.tyM, scal, tgN, tg2, isT, kgetM, zipM, jsM, nilJ, consJ, fmtM, retMo, asgMo, dropMo, ifSo, augMo, forMo, newMo, appMo, retOwn, wipeE, qCallOV, consV, nilV, dstM, dispM, insM, plK, seqQ, asgQ, retQ, dropQ, ifQ, ifQe, qN, nH, nV, nVA, noK, noKs, wipeQ, qCons, qNil, qList, Ask.forQ, forGoQ, fnF, fnQf, fnQ2, startQ, toQ, chUp, onL, onD, chO, chPut, putQL, putQD, delQD, rdP, ixP, ixD, ixL, slP, pl0, plF, plK, noErr, nextQ, enM, enumD, kixM, revM, dinM, truM, unpM, unpQ, tg3, fldM, qApp, appF, qExt, extF, qUpd, updF, qPop, popF, pop0F, qMove, qLst, qTup, qDct, q2, qCall, qCallO, ownL, qMeth, qMethL, qMake, fldQ, augQ, dictP, qDict, bTuple, bList, lcM, lcGo, yesM, ixN, m_places_of, b_places_of, lt_places_of_0, le_places_of_1, toD, atI_0, fk_let]
theorem places_choose (a b c : Th.Pc) : m_places_of [toD (.choose a b c)] = .ok (.lst [.int 1, .int 2, .int 3]) := by simp (decide := true) [fnM, seqM, asgM, retM, dropM, op2, cM, cbM, consA, nilA, varM, notV, andV, orV, notB, andB, orB, asB, ifS, ifM, tupM, lstM, callM, slM, someM, noM, itM, rngM, Ask.forM, chM, joinM, negM, augM, nextM, raiseM, R.bind, R.of, toO, bInt, bLen, bType, bAll, bMax, bIsi, D.add, D.sub, D.mul, D.fdiv, D.mod, D.lt, D.le, D.gt, D.ge, D.eq, D.ne, D.is, D.isnt, D.inn, D.ix, D.sl, D.items, D.flat, D.isNon, D.tyN, D.tyM, scal, tgN, tg2, isT, kgetM, zipM, jsM, nilJ, consJ, fmtM, retMo, asgMo, dropMo, ifSo, augMo, forMo, newMo, appMo, retOwn, wipeE, qCallOV, consV, nilV, dstM, dispM, insM, plK, seqQ, asgQ, retQ, dropQ, ifQ, ifQe, qN, nH, nV, nVA, noK, noKs, wipeQ, qCons, qNil, qList, Ask.forQ, forGoQ, fnF, fnQf, fnQ2, startQ, toQ, chUp, onL, onD, chO, chPut, putQL, putQD, delQD, rdP, ixP, ixD, ixL, slP, pl0, plF, plK, noErr, nextQ, enM, enumD, kixM, revM, dinM, truM, unpM, unpQ, tg3, fldM, qApp, appF, qExt, extF, qUpd, updF, qPop, popF, pop0F, qMove, qLst, qTup, qDct, q2, qCall, qCallO, ownL, qMeth, qMethL, qMake, fldQ, augQ, dictP, qDict, bTuple, bList, lcM, lcGo, yesM, ixN, m_places_of, b_places_of, lt_places_of_0, le_places_of_1, toD, atI_0, fk_choose]
theorem places_ask (k : Str) (a : Th.Pc) : m_places_of [toD (.ask k a)] = .ok (.lst [.int 2]) := by simp (decide := true) [fnM, seqM, asgM, retM, dropM, op2, cM, cbM, consA, nilA, varM, notV, andV, orV, notB, andB, orB, asB, ifS, ifM, tupM, lstM, callM, slM, someM, noM, itM, rngM, Ask.forM, chM, joinM, negM, augM, nextM, raiseM, R.bind, R.of, toO, bInt, bLen, bType, bAll, bMax, bIsi, D.add, D.sub, D.mul, D.fdiv, D.mod, D.lt, D.le, D.gt, D.ge, D.eq, D.ne, D.is, D.isnt, D.inn, D.ix, D.sl, D.items, D.flat, D.isNon, D.tyN, D.tyM, scal, tgN, tg2, isT, kgetM, zipM, jsM, nilJ, consJ, fmtM, retMo, asgMo, dropMo, ifSo, augMo, forMo, newMo, appMo, retOwn, wipeE, qCallOV, consV, nilV, dstM, dispM, insM, plK, seqQ, asgQ, retQ, dropQ, ifQ, ifQe, qN, nH, nV, nVA, noK, noKs, wipeQ, qCons, qNil, qList, Ask.forQ, forGoQ, fnF, fnQf, fnQ2, startQ, toQ, chUp, onL, onD, chO, chPut, putQL, putQD, delQD, rdP, ixP, ixD, ixL, slP, pl0, plF, plK, noErr, nextQ, enM, enumD, kixM, revM, dinM, truM, unpM, unpQ, tg3, fldM, qApp, appF, qExt, extF, qUpd, updF, qPop, popF, pop0F, qMove, qLst, qTup, qDct, q2, qCall, qCallO, ownL, qMeth, qMethL, qMake, fldQ, augQ, dictP, qDict, bTuple, bList, lcM, lcGo, yesM, ixN, m_places_of, b_places_of, lt_places_of_0, le_places_of_1, toD, atI_0, fk_ask]
theorem places_hand (k x : Str) (a b : Th.Pc) : m_places_of [toD (.hand k x a b)] = .ok (.lst [.int 3, .int 4]) := by simp (decide := true) [fnM, seqM, asgM, retM, dropM, op2, cM, cbM, consA, nilA, varM, notV, andV, orV, notB, andB, orB, asB, ifS, ifM, tupM, lstM, callM, slM, someM, noM, itM, rngM, Ask.forM, chM, joinM, negM, augM, nextM, raiseM, R.bind, R.of, toO, bInt, bLen, bType, bAll, bMax, bIsi, D.add, D.sub, D.mul, D.fdiv, D.mod, D.lt, D.le, D.gt, D.ge, D.eq, D.ne, D.is, D.isnt, D.inn, D.ix, D.sl, D.items, D.flat, D.isNon, D.tyN, D.tyM, scal, tgN, tg2, isT, kgetM, zipM, jsM, nilJ, consJ, fmtM, retMo, asgMo, dropMo, ifSo, augMo, forMo, newMo, appMo, retOwn, wipeE, qCallOV, consV, nilV, dstM, dispM, insM, plK, seqQ, asgQ, retQ, dropQ, ifQ, ifQe, qN, nH, nV, nVA, noK, noKs, wipeQ, qCons, qNil, qList, Ask.forQ, forGoQ, fnF, fnQf, fnQ2, startQ, toQ, chUp, onL, onD, chO, chPut, putQL, putQD, delQD, rdP, ixP, ixD, ixL, slP, pl0, plF, plK, noErr, nextQ, enM, enumD, kixM, revM, dinM, truM, unpM, unpQ, tg3, fldM, qApp, appF, qExt, extF, qUpd, updF, qPop, popF, pop0F, qMove, qLst, qTup, qDct, q2, qCall, qCallO, ownL, qMeth, qMethL, qMake, fldQ, augQ, dictP, qDict, bTuple, bList, lcM, lcGo, yesM, ixN, m_places_of, b_places_of, lt_places_of_0, le_places_of_1, toD, atI_0, fk_hand]
end My
namespace My
open PySem L2 Evl Ask
def toldD : Th.Pc → Int → D
  | .let_ x _ _, 3 => .str x
  | .hand _ x _ _, 3 => .str x
  | _, _ => .non
theorem told_num (n i : Int) : m_told_at [toD (.num n), .int i] = .ok .non := by simp (decide := true) [fnM, seqM, asgM, retM, dropM, op2, cM, cbM, consA, nilA, varM, notV, andV, orV, notB, andB, orB, asB, ifS, ifM, tupM, lstM, callM, slM, someM, noM, itM, rngM, Ask.forM, chM, joinM, negM, augM, nextM, raiseM, R.bind, R.of, toO, bInt, bLen, bType, bAll, bMax, bIsi, D.add, D.sub, D.mul, D.fdiv, D.mod, D.lt, D.le, D.gt, D.ge, D.eq, D.ne, D.is, D.isnt, D.inn, D.ix, D.sl, D.items, D.flat, D.isNon, D.tyN, D.tyM, scal, tgN, tg2, isT, kgetM, zipM, jsM, nilJ, consJ, fmtM, retMo, asgMo, dropMo, ifSo, augMo, forMo, newMo, appMo, retOwn, wipeE, m_told_at, b_told_at, toD, atI_0]
theorem told_name (n : Str) (i : Int) : m_told_at [toD (.name n), .int i] = .ok .non := by simp (decide := true) [fnM, seqM, asgM, retM, dropM, op2, cM, cbM, consA, nilA, varM, notV, andV, orV, notB, andB, orB, asB, ifS, ifM, tupM, lstM, callM, slM, someM, noM, itM, rngM, Ask.forM, chM, joinM, negM, augM, nextM, raiseM, R.bind, R.of, toO, bInt, bLen, bType, bAll, bMax, bIsi, D.add, D.sub, D.mul, D.fdiv, D.mod, D.lt, D.le, D.gt, D.ge, D.eq, D.ne, D.is, D.isnt, D.inn, D.ix, D.sl, D.items, D.flat, D.isNon, D.tyN, D.tyM, scal, tgN, tg2, isT, kgetM, zipM, jsM, nilJ, consJ, fmtM, retMo, asgMo, dropMo, ifSo, augMo, forMo, newMo, appMo, retOwn, wipeE, m_told_at, b_told_at, toD, atI_0]
theorem told_sum (a b : Th.Pc) (i : Int) : m_told_at [toD (.sum a b), .int i] = .ok .non := by simp (decide := true) [fnM, seqM, asgM, retM, dropM, op2, cM, cbM, consA, nilA, varM, notV, andV, orV, notB, andB, orB, asB, ifS, ifM, tupM, lstM, callM, slM, someM, noM, itM, rngM, Ask.forM, chM, joinM, negM, augM, nextM, raiseM, R.bind, R.of, toO, bInt, bLen, bType, bAll, bMax, bIsi, D.add, D.sub, D.mul, D.fdiv, D.mod, D.lt, D.le, D.gt, D.ge, D.eq, D.ne, D.is, D.isnt, D.inn, D.ix, D.sl, D.items, D.flat, D.isNon, D.tyN, D.tyM, scal, tgN, tg2, isT, kgetM, zipM, jsM, nilJ, consJ, fmtM, retMo, asgMo, dropMo, ifSo, augMo, forMo, newMo, appMo, retOwn, wipeE, m_told_at, b_told_at, toD, atI_0]
theorem told_choose (a b c : Th.Pc) (i : Int) : m_told_at [toD (.choose a b c), .int i] = .ok .non := by simp (decide := true) [fnM, seqM, asgM, retM, dropM, op2, cM, cbM, consA, nilA, varM, notV, andV, orV, notB, andB, orB, asB, ifS, ifM, tupM, lstM, callM, slM, someM, noM, itM, rngM, Ask.forM, chM, joinM, negM, augM, nextM, raiseM, R.bind, R.of, toO, bInt, bLen, bType, bAll, bMax, bIsi, D.add, D.sub, D.mul, D.fdiv, D.mod, D.lt, D.le, D.gt, D.ge, D.eq, D.ne, D.is, D.isnt, D.inn, D.ix, D.sl, D.items, D.flat, D.isNon, D.tyN, D.tyM, scal, tgN, tg2, isT, kgetM, zipM, jsM, nilJ, consJ, fmtM, retMo, asgMo, dropMo, ifSo, augMo, forMo, newMo, appMo, retOwn, wipeE, m_told_at, b_told_at, toD, atI_0]
theorem told_ask (k : Str) (a : Th.Pc) (i : Int) : m_told_at [toD (.ask k a), .int i] = .ok .non := by simp (decide := true) [fnM, seqM, asgM, retM, dropM, op2, cM, cbM, consA, nilA, varM, notV, andV, orV, notB, andB, orB, asB, ifS, ifM, tupM, lstM, callM, slM, someM, noM, itM, rngM, Ask.forM, chM, joinM, negM, augM, nextM, raiseM, R.bind, R.of, toO, bInt, bLen, bType, bAll, bMax, bIsi, D.add, D.sub, D.mul, D.fdiv, D.mod, D.lt, D.le, D.gt, D.ge, D.eq, D.ne, D.is, D.isnt, D.inn, D.ix, D.sl, D.items, D.flat, D.isNon, D.tyN, D.tyM, scal, tgN, tg2, isT, kgetM, zipM, jsM, nilJ, consJ, fmtM, retMo, asgMo, dropMo, ifSo, augMo, forMo, newMo, appMo, retOwn, wipeE, m_told_at, b_told_at, toD, atI_0]
theorem told_let2 (x : Str) (a b : Th.Pc) : m_told_at [toD (.let_ x a b), .int 2] = .ok .non := by simp (decide := true) [fnM, seqM, asgM, retM, dropM, op2, cM, cbM, consA, nilA, varM, notV, andV, orV, notB, andB, orB, asB, ifS, ifM, tupM, lstM, callM, slM, someM, noM, itM, rngM, Ask.forM, chM, joinM, negM, augM, nextM, raiseM, R.bind, R.of, toO, bInt, bLen, bType, bAll, bMax, bIsi, D.add, D.sub, D.mul, D.fdiv, D.mod, D.lt, D.le, D.gt, D.ge, D.eq, D.ne, D.is, D.isnt, D.inn, D.ix, D.sl, D.items, D.flat, D.isNon, D.tyN, D.tyM, scal, tgN, tg2, isT, kgetM, zipM, jsM, nilJ, consJ, fmtM, retMo, asgMo, dropMo, ifSo, augMo, forMo, newMo, appMo, retOwn, wipeE, m_told_at, b_told_at, toD, atI_0]
theorem told_let3 (x : Str) (a b : Th.Pc) : m_told_at [toD (.let_ x a b), .int 3] = .ok (.str x) := by simp (decide := true) [fnM, seqM, asgM, retM, dropM, op2, cM, cbM, consA, nilA, varM, notV, andV, orV, notB, andB, orB, asB, ifS, ifM, tupM, lstM, callM, slM, someM, noM, itM, rngM, Ask.forM, chM, joinM, negM, augM, nextM, raiseM, R.bind, R.of, toO, bInt, bLen, bType, bAll, bMax, bIsi, D.add, D.sub, D.mul, D.fdiv, D.mod, D.lt, D.le, D.gt, D.ge, D.eq, D.ne, D.is, D.isnt, D.inn, D.ix, D.sl, D.items, D.flat, D.isNon, D.tyN, D.tyM, scal, tgN, tg2, isT, kgetM, zipM, jsM, nilJ, consJ, fmtM, retMo, asgMo, dropMo, ifSo, augMo, forMo, newMo, appMo, retOwn, wipeE, m_told_at, b_told_at, toD, atI_0, atI_1]
theorem told_hand4 (k x : Str) (a b : Th.Pc) : m_told_at [toD (.hand k x a b), .int 4] = .ok .non := by simp (decide := true) [fnM, seqM, asgM, retM, dropM, op2, cM, cbM, consA, nilA, varM, notV, andV, orV, notB, andB, orB, asB, ifS, ifM, tupM, lstM, callM, slM, someM, noM, itM, rngM, Ask.forM, chM, joinM, negM, augM, nextM, raiseM, R.bind, R.of, toO, bInt, bLen, bType, bAll, bMax, bIsi, D.add, D.sub, D.mul, D.fdiv, D.mod, D.lt, D.le, D.gt, D.ge, D.eq, D.ne, D.is, D.isnt, D.inn, D.ix, D.sl, D.items, D.flat, D.isNon, D.tyN, D.tyM, scal, tgN, tg2, isT, kgetM, zipM, jsM, nilJ, consJ, fmtM, retMo, asgMo, dropMo, ifSo, augMo, forMo, newMo, appMo, retOwn, wipeE, m_told_at, b_told_at, toD, atI_0]
theorem told_hand3 (k x : Str) (a b : Th.Pc) : m_told_at [toD (.hand k x a b), .int 3] = .ok (.str x) := by simp (decide := true) [fnM, seqM, asgM, retM, dropM, op2, cM, cbM, consA, nilA, varM, notV, andV, orV, notB, andB, orB, asB, ifS, ifM, tupM, lstM, callM, slM, someM, noM, itM, rngM, Ask.forM, chM, joinM, negM, augM, nextM, raiseM, R.bind, R.of, toO, bInt, bLen, bType, bAll, bMax, bIsi, D.add, D.sub, D.mul, D.fdiv, D.mod, D.lt, D.le, D.gt, D.ge, D.eq, D.ne, D.is, D.isnt, D.inn, D.ix, D.sl, D.items, D.flat, D.isNon, D.tyN, D.tyM, scal, tgN, tg2, isT, kgetM, zipM, jsM, nilJ, consJ, fmtM, retMo, asgMo, dropMo, ifSo, augMo, forMo, newMo, appMo, retOwn, wipeE, m_told_at, b_told_at, toD, atI_0, atI_2]
/-- the program's putting in -/
theorem put_ok2 : ∀ (n : Nat) (p : Th.Pc) (x : Str) (k : Int), Th.hgt p ≤ n → mf_put_in n [toD p, .str x, .int k] = .ok (toD (Th.putIn x k p))
  | 0, p, x, k, h => by cases p <;> (unfold Th.hgt at h; omega)
  | n + 1, p, x, k, h => by
    have ih := put_ok2 n
    cases p with
    | num m =>
      have hp : m_places_of [.tup [.str "num", .int m]] = _ := places_num m
      simp (decide := true) [fnM, seqM, asgM, retM, dropM, op2, cM, cbM, consA, nilA, varM, notV, andV, orV, notB, andB, orB, asB, ifS, ifM, tupM, lstM, callM, slM, someM, noM, itM, rngM, Ask.forM, chM, joinM, negM, augM, nextM, raiseM, R.bind, R.of, toO, bInt, bLen, bType, bAll, bMax, bIsi, D.add, D.sub, D.mul, D.fdiv, D.mod, D.lt, D.le, D.gt, D.ge, D.eq, D.ne, D.is, D.isnt, D.inn, D.ix, D.sl, D.items, D.flat, D.isNon, D.tyN, D.tyM, scal, tgN, tg2, isT, kgetM, zipM, jsM, nilJ, consJ, fmtM, retMo, asgMo, dropMo, ifSo, augMo, forMo, newMo, appMo, retOwn, wipeE, qCallOV, consV, nilV, dstM, dispM, insM, plK, seqQ, asgQ, retQ, dropQ, ifQ, ifQe, qN, nH, nV, nVA, noK, noKs, wipeQ, qCons, qNil, qList, Ask.forQ, forGoQ, fnF, fnQf, fnQ2, startQ, toQ, chUp, onL, onD, chO, chPut, putQL, putQD, delQD, rdP, ixP, ixD, ixL, slP, pl0, plF, plK, noErr, nextQ, enM, enumD, kixM, revM, dinM, truM, unpM, unpQ, tg3, fldM, qApp, appF, qExt, extF, qUpd, updF, qPop, popF, pop0F, qMove, qLst, qTup, qDct, q2, qCall, qCallO, ownL, qMeth, qMethL, qMake, fldQ, augQ, dictP, qDict, bTuple, bList, lcM, lcGo, yesM, ixN, mf_put_in, b_put_in, toD, Th.putIn, atI_0, atI_1, hp]
    | name y =>
      have hp : m_places_of [.tup [.str "name", .str y]] = _ := places_name y
      by_cases hy : y = x
      · simp (decide := true) [fnM, seqM, asgM, retM, dropM, op2, cM, cbM, consA, nilA, varM, notV, andV, orV, notB, andB, orB, asB, ifS, ifM, tupM, lstM, callM, slM, someM, noM, itM, rngM, Ask.forM, chM, joinM, negM, augM, nextM, raiseM, R.bind, R.of, toO, bInt, bLen, bType, bAll, bMax, bIsi, D.add, D.sub, D.mul, D.fdiv, D.mod, D.lt, D.le, D.gt, D.ge, D.eq, D.ne, D.is, D.isnt, D.inn, D.ix, D.sl, D.items, D.flat, D.isNon, D.tyN, D.tyM, scal, tgN, tg2, isT, kgetM, zipM, jsM, nilJ, consJ, fmtM, retMo, asgMo, dropMo, ifSo, augMo, forMo, newMo, appMo, retOwn, wipeE, qCallOV, consV, nilV, dstM, dispM, insM, plK, seqQ, asgQ, retQ, dropQ, ifQ, ifQe, qN, nH, nV, nVA, noK, noKs, wipeQ, qCons, qNil, qList, Ask.forQ, forGoQ, fnF, fnQf, fnQ2, startQ, toQ, chUp, onL, onD, chO, chPut, putQL, putQD, delQD, rdP, ixP, ixD, ixL, slP, pl0, plF, plK, noErr, nextQ, enM, enumD, kixM, revM, dinM, truM, unpM, unpQ, tg3, fldM, qApp, appF, qExt, extF, qUpd, updF, qPop, popF, pop0F, qMove, qLst, qTup, qDct, q2, qCall, qCallO, ownL, qMeth, qMethL, qMake, fldQ, augQ, dictP, qDict, bTuple, bList, lcM, lcGo, yesM, ixN, mf_put_in, b_put_in, toD, Th.putIn, atI_0, atI_1, hp, hy]
      · simp (decide := true) [fnM, seqM, asgM, retM, dropM, op2, cM, cbM, consA, nilA, varM, notV, andV, orV, notB, andB, orB, asB, ifS, ifM, tupM, lstM, callM, slM, someM, noM, itM, rngM, Ask.forM, chM, joinM, negM, augM, nextM, raiseM, R.bind, R.of, toO, bInt, bLen, bType, bAll, bMax, bIsi, D.add, D.sub, D.mul, D.fdiv, D.mod, D.lt, D.le, D.gt, D.ge, D.eq, D.ne, D.is, D.isnt, D.inn, D.ix, D.sl, D.items, D.flat, D.isNon, D.tyN, D.tyM, scal, tgN, tg2, isT, kgetM, zipM, jsM, nilJ, consJ, fmtM, retMo, asgMo, dropMo, ifSo, augMo, forMo, newMo, appMo, retOwn, wipeE, qCallOV, consV, nilV, dstM, dispM, insM, plK, seqQ, asgQ, retQ, dropQ, ifQ, ifQe, qN, nH, nV, nVA, noK, noKs, wipeQ, qCons, qNil, qList, Ask.forQ, forGoQ, fnF, fnQf, fnQ2, startQ, toQ, chUp, onL, onD, chO, chPut, putQL, putQD, delQD, rdP, ixP, ixD, ixL, slP, pl0, plF, plK, noErr, nextQ, enM, enumD, kixM, revM, dinM, truM, unpM, unpQ, tg3, fldM, qApp, appF, qExt, extF, qUpd, updF, qPop, popF, pop0F, qMove, qLst, qTup, qDct, q2, qCall, qCallO, ownL, qMeth, qMethL, qMake, fldQ, augQ, dictP, qDict, bTuple, bList, lcM, lcGo, yesM, ixN, mf_put_in, b_put_in, toD, Th.putIn, atI_0, atI_1, hp, hy]
    | sum a b =>
      unfold Th.hgt at h
      have hp : m_places_of [.tup [.str "sum", toD a, toD b]] = _ := places_sum a b
      have ht : ∀ i : Int, m_told_at [.tup [.str "sum", toD a, toD b], .int i] = _ := told_sum a b
      have i1 := ih a x k (by omega)
      have i2 := ih b x k (by omega)
      simp (decide := true) [fnM, seqM, asgM, retM, dropM, op2, cM, cbM, consA, nilA, varM, notV, andV, orV, notB, andB, orB, asB, ifS, ifM, tupM, lstM, callM, slM, someM, noM, itM, rngM, Ask.forM, chM, joinM, negM, augM, nextM, raiseM, R.bind, R.of, toO, bInt, bLen, bType, bAll, bMax, bIsi, D.add, D.sub, D.mul, D.fdiv, D.mod, D.lt, D.le, D.gt, D.ge, D.eq, D.ne, D.is, D.isnt, D.inn, D.ix, D.sl, D.items, D.flat, D.isNon, D.tyN, D.tyM, scal, tgN, tg2, isT, kgetM, zipM, jsM, nilJ, consJ, fmtM, retMo, asgMo, dropMo, ifSo, augMo, forMo, newMo, appMo, retOwn, wipeE, qCallOV, consV, nilV, dstM, dispM, insM, plK, seqQ, asgQ, retQ, dropQ, ifQ, ifQe, qN, nH, nV, nVA, noK, noKs, wipeQ, qCons, qNil, qList, Ask.forQ, forGoQ, fnF, fnQf, fnQ2, startQ, toQ, chUp, onL, onD, chO, chPut, putQL, putQD, delQD, rdP, ixP, ixD, ixL, slP, pl0, plF, plK, noErr, nextQ, enM, enumD, kixM, revM, dinM, truM, unpM, unpQ, tg3, fldM, qApp, appF, qExt, extF, qUpd, updF, qPop, popF, pop0F, qMove, qLst, qTup, qDct, q2, qCall, qCallO, ownL, qMeth, qMethL, qMake, fldQ, augQ, dictP, qDict, bTuple, bList, lcM, lcGo, yesM, ixN, mf_put_in, b_put_in, lb_put_in_0, toD, Th.putIn, noK_pc, atI_0, atI_1, atI_2, hp, ht, i1, i2]
    | let_ y a b =>
      unfold Th.hgt at h
      have hp : m_places_of [.tup [.str "let", .str y, toD a, toD b]] = _ := places_let y a b
      have h2 : m_told_at [.tup [.str "let", .str y, toD a, toD b], .int 2] = _ := told_let2 y a b
      have h3 : m_told_at [.tup [.str "let", .str y, toD a, toD b], .int 3] = _ := told_let3 y a b
      have i1 := ih a x k (by omega)
      have i2 := ih b x k (by omega)
      by_cases hy : y = x
      · subst hy
        simp (decide := true) [fnM, seqM, asgM, retM, dropM, op2, cM, cbM, consA, nilA, varM, notV, andV, orV, notB, andB, orB, asB, ifS, ifM, tupM, lstM, callM, slM, someM, noM, itM, rngM, Ask.forM, chM, joinM, negM, augM, nextM, raiseM, R.bind, R.of, toO, bInt, bLen, bType, bAll, bMax, bIsi, D.add, D.sub, D.mul, D.fdiv, D.mod, D.lt, D.le, D.gt, D.ge, D.eq, D.ne, D.is, D.isnt, D.inn, D.ix, D.sl, D.items, D.flat, D.isNon, D.tyN, D.tyM, scal, tgN, tg2, isT, kgetM, zipM, jsM, nilJ, consJ, fmtM, retMo, asgMo, dropMo, ifSo, augMo, forMo, newMo, appMo, retOwn, wipeE, qCallOV, consV, nilV, dstM, dispM, insM, plK, seqQ, asgQ, retQ, dropQ, ifQ, ifQe, qN, nH, nV, nVA, noK, noKs, wipeQ, qCons, qNil, qList, Ask.forQ, forGoQ, fnF, fnQf, fnQ2, startQ, toQ, chUp, onL, onD, chO, chPut, putQL, putQD, delQD, rdP, ixP, ixD, ixL, slP, pl0, plF, plK, noErr, nextQ, enM, enumD, kixM, revM, dinM, truM, unpM, unpQ, tg3, fldM, qApp, appF, qExt, extF, qUpd, updF, qPop, popF, pop0F, qMove, qLst, qTup, qDct, q2, qCall, qCallO, ownL, qMeth, qMethL, qMake, fldQ, augQ, dictP, qDict, bTuple, bList, lcM, lcGo, yesM, ixN, mf_put_in, b_put_in, lb_put_in_0, toD, Th.putIn, noK_pc, atI_0, atI_1, atI_2, atI_3, hp, h2, h3, i1, i2]
      · simp (decide := true) [fnM, seqM, asgM, retM, dropM, op2, cM, cbM, consA, nilA, varM, notV, andV, orV, notB, andB, orB, asB, ifS, ifM, tupM, lstM, callM, slM, someM, noM, itM, rngM, Ask.forM, chM, joinM, negM, augM, nextM, raiseM, R.bind, R.of, toO, bInt, bLen, bType, bAll, bMax, bIsi, D.add, D.sub, D.mul, D.fdiv, D.mod, D.lt, D.le, D.gt, D.ge, D.eq, D.ne, D.is, D.isnt, D.inn, D.ix, D.sl, D.items, D.flat, D.isNon, D.tyN, D.tyM, scal, tgN, tg2, isT, kgetM, zipM, jsM, nilJ, consJ, fmtM, retMo, asgMo, dropMo, ifSo, augMo, forMo, newMo, appMo, retOwn, wipeE, qCallOV, consV, nilV, dstM, dispM, insM, plK, seqQ, asgQ, retQ, dropQ, ifQ, ifQe, qN, nH, nV, nVA, noK, noKs, wipeQ, qCons, qNil, qList, Ask.forQ, forGoQ, fnF, fnQf, fnQ2, startQ, toQ, chUp, onL, onD, chO, chPut, putQL, putQD, delQD, rdP, ixP, ixD, ixL, slP, pl0, plF, plK, noErr, nextQ, enM, enumD, kixM, revM, dinM, truM, unpM, unpQ, tg3, fldM, qApp, appF, qExt, extF, qUpd, updF, qPop, popF, pop0F, qMove, qLst, qTup, qDct, q2, qCall, qCallO, ownL, qMeth, qMethL, qMake, fldQ, augQ, dictP, qDict, bTuple, bList, lcM, lcGo, yesM, ixN, mf_put_in, b_put_in, lb_put_in_0, toD, Th.putIn, noK_pc, atI_0, atI_1, atI_2, atI_3, hp, h2, h3, i1, i2, hy]
    | choose a b c =>
      unfold Th.hgt at h
      have hp : m_places_of [.tup [.str "choose", toD a, toD b, toD c]] = _ := places_choose a b c
      have ht : ∀ i : Int, m_told_at [.tup [.str "choose", toD a, toD b, toD c], .int i] = _ := told_choose a b c
      have i1 := ih a x k (by omega)
      have i2 := ih b x k (by omega)
      have i3 := ih c x k (by omega)
      simp (decide := true) [fnM, seqM, asgM, retM, dropM, op2, cM, cbM, consA, nilA, varM, notV, andV, orV, notB, andB, orB, asB, ifS, ifM, tupM, lstM, callM, slM, someM, noM, itM, rngM, Ask.forM, chM, joinM, negM, augM, nextM, raiseM, R.bind, R.of, toO, bInt, bLen, bType, bAll, bMax, bIsi, D.add, D.sub, D.mul, D.fdiv, D.mod, D.lt, D.le, D.gt, D.ge, D.eq, D.ne, D.is, D.isnt, D.inn, D.ix, D.sl, D.items, D.flat, D.isNon, D.tyN, D.tyM, scal, tgN, tg2, isT, kgetM, zipM, jsM, nilJ, consJ, fmtM, retMo, asgMo, dropMo, ifSo, augMo, forMo, newMo, appMo, retOwn, wipeE, qCallOV, consV, nilV, dstM, dispM, insM, plK, seqQ, asgQ, retQ, dropQ, ifQ, ifQe, qN, nH, nV, nVA, noK, noKs, wipeQ, qCons, qNil, qList, Ask.forQ, forGoQ, fnF, fnQf, fnQ2, startQ, toQ, chUp, onL, onD, chO, chPut, putQL, putQD, delQD, rdP, ixP, ixD, ixL, slP, pl0, plF, plK, noErr, nextQ, enM, enumD, kixM, revM, dinM, truM, unpM, unpQ, tg3, fldM, qApp, appF, qExt, extF, qUpd, updF, qPop, popF, pop0F, qMove, qLst, qTup, qDct, q2, qCall, qCallO, ownL, qMeth, qMethL, qMake, fldQ, augQ, dictP, qDict, bTuple, bList, lcM, lcGo, yesM, ixN, mf_put_in, b_put_in, lb_put_in_0, toD, Th.putIn, noK_pc, atI_0, atI_1, atI_2, atI_3, hp, ht, i1, i2, i3]
    | ask kd a =>
      unfold Th.hgt at h
      have hp : m_places_of [.tup [.str "ask", .str kd, toD a]] = _ := places_ask kd a
      have ht : ∀ i : Int, m_told_at [.tup [.str "ask", .str kd, toD a], .int i] = _ := told_ask kd a
      have i1 := ih a x k (by omega)
      simp (decide := true) [fnM, seqM, asgM, retM, dropM, op2, cM, cbM, consA, nilA, varM, notV, andV, orV, notB, andB, orB, asB, ifS, ifM, tupM, lstM, callM, slM, someM, noM, itM, rngM, Ask.forM, chM, joinM, negM, augM, nextM, raiseM, R.bind, R.of, toO, bInt, bLen, bType, bAll, bMax, bIsi, D.add, D.sub, D.mul, D.fdiv, D.mod, D.lt, D.le, D.gt, D.ge, D.eq, D.ne, D.is, D.isnt, D.inn, D.ix, D.sl, D.items, D.flat, D.isNon, D.tyN, D.tyM, scal, tgN, tg2, isT, kgetM, zipM, jsM, nilJ, consJ, fmtM, retMo, asgMo, dropMo, ifSo, augMo, forMo, newMo, appMo, retOwn, wipeE, qCallOV, consV, nilV, dstM, dispM, insM, plK, seqQ, asgQ, retQ, dropQ, ifQ, ifQe, qN, nH, nV, nVA, noK, noKs, wipeQ, qCons, qNil, qList, Ask.forQ, forGoQ, fnF, fnQf, fnQ2, startQ, toQ, chUp, onL, onD, chO, chPut, putQL, putQD, delQD, rdP, ixP, ixD, ixL, slP, pl0, plF, plK, noErr, nextQ, enM, enumD, kixM, revM, dinM, truM, unpM, unpQ, tg3, fldM, qApp, appF, qExt, extF, qUpd, updF, qPop, popF, pop0F, qMove, qLst, qTup, qDct, q2, qCall, qCallO, ownL, qMeth, qMethL, qMake, fldQ, augQ, dictP, qDict, bTuple, bList, lcM, lcGo, yesM, ixN, mf_put_in, b_put_in, lb_put_in_0, toD, Th.putIn, noK_pc, atI_0, atI_1, atI_2, hp, ht, i1]
    | hand kd y a b =>
      unfold Th.hgt at h
      have hp : m_places_of [.tup [.str "hand", .str kd, .str y, toD a, toD b]] = _ := places_hand kd y a b
      have h3 : m_told_at [.tup [.str "hand", .str kd, .str y, toD a, toD b], .int 3] = _ := told_hand3 kd y a b
      have h4 : m_told_at [.tup [.str "hand", .str kd, .str y, toD a, toD b], .int 4] = _ := told_hand4 kd y a b
      have i1 := ih a x k (by omega)
      have i2 := ih b x k (by omega)
      by_cases hy : y = x
      · subst hy
        simp (decide := true) [fnM, seqM, asgM, retM, dropM, op2, cM, cbM, consA, nilA, varM, notV, andV, orV, notB, andB, orB, asB, ifS, ifM, tupM, lstM, callM, slM, someM, noM, itM, rngM, Ask.forM, chM, joinM, negM, augM, nextM, raiseM, R.bind, R.of, toO, bInt, bLen, bType, bAll, bMax, bIsi, D.add, D.sub, D.mul, D.fdiv, D.mod, D.lt, D.le, D.gt, D.ge, D.eq, D.ne, D.is, D.isnt, D.inn, D.ix, D.sl, D.items, D.flat, D.isNon, D.tyN, D.tyM, scal, tgN, tg2, isT, kgetM, zipM, jsM, nilJ, consJ, fmtM, retMo, asgMo, dropMo, ifSo, augMo, forMo, newMo, appMo, retOwn, wipeE, qCallOV, consV, nilV, dstM, dispM, insM, plK, seqQ, asgQ, retQ, dropQ, ifQ, ifQe, qN, nH, nV, nVA, noK, noKs, wipeQ, qCons, qNil, qList, Ask.forQ, forGoQ, fnF, fnQf, fnQ2, startQ, toQ, chUp, onL, onD, chO, chPut, putQL, putQD, delQD, rdP, ixP, ixD, ixL, slP, pl0, plF, plK, noErr, nextQ, enM, enumD, kixM, revM, dinM, truM, unpM, unpQ, tg3, fldM, qApp, appF, qExt, extF, qUpd, updF, qPop, popF, pop0F, qMove, qLst, qTup, qDct, q2, qCall, qCallO, ownL, qMeth, qMethL, qMake, fldQ, augQ, dictP, qDict, bTuple, bList, lcM, lcGo, yesM, ixN, mf_put_in, b_put_in, lb_put_in_0, toD, Th.putIn, noK_pc, atI_0, atI_1, atI_2, atI_3, atI_4, hp, h3, h4, i1, i2]
      · simp (decide := true) [fnM, seqM, asgM, retM, dropM, op2, cM, cbM, consA, nilA, varM, notV, andV, orV, notB, andB, orB, asB, ifS, ifM, tupM, lstM, callM, slM, someM, noM, itM, rngM, Ask.forM, chM, joinM, negM, augM, nextM, raiseM, R.bind, R.of, toO, bInt, bLen, bType, bAll, bMax, bIsi, D.add, D.sub, D.mul, D.fdiv, D.mod, D.lt, D.le, D.gt, D.ge, D.eq, D.ne, D.is, D.isnt, D.inn, D.ix, D.sl, D.items, D.flat, D.isNon, D.tyN, D.tyM, scal, tgN, tg2, isT, kgetM, zipM, jsM, nilJ, consJ, fmtM, retMo, asgMo, dropMo, ifSo, augMo, forMo, newMo, appMo, retOwn, wipeE, qCallOV, consV, nilV, dstM, dispM, insM, plK, seqQ, asgQ, retQ, dropQ, ifQ, ifQe, qN, nH, nV, nVA, noK, noKs, wipeQ, qCons, qNil, qList, Ask.forQ, forGoQ, fnF, fnQf, fnQ2, startQ, toQ, chUp, onL, onD, chO, chPut, putQL, putQD, delQD, rdP, ixP, ixD, ixL, slP, pl0, plF, plK, noErr, nextQ, enM, enumD, kixM, revM, dinM, truM, unpM, unpQ, tg3, fldM, qApp, appF, qExt, extF, qUpd, updF, qPop, popF, pop0F, qMove, qLst, qTup, qDct, q2, qCall, qCallO, ownL, qMeth, qMethL, qMake, fldQ, augQ, dictP, qDict, bTuple, bList, lcM, lcGo, yesM, ixN, mf_put_in, b_put_in, lb_put_in_0, toD, Th.putIn, noK_pc, atI_0, atI_1, atI_2, atI_3, atI_4, hp, h3, h4, i1, i2, hy]
theorem put_plain (n : Nat) (p : Th.Pc) (x : Str) (k : Int) (h : Th.hgt p ≤ n) : m_put_in n [toD p, .str x, .int k] = .ok (toD (Th.putIn x k p)) := by
  unfold m_put_in
  rw [put_ok2 n p x k h]
  rfl
end My
namespace My
open PySem L2 Evl Ask
theorem hd_is (p : Th.Pc) : ∃ w ds, toD p = .tup (.str w :: ds) ∧ ((w = ("num" : Str)) ↔ p.isNum = true) := by
  cases p <;> refine ⟨_, _, rfl, ?_⟩ <;> first | exact ⟨fun _ => rfl, fun _ => rfl⟩ | exact ⟨fun h => absurd h (by decide), fun h => by cases h⟩
theorem wk_num : List.lookup ("num" : Str) t_WORKED_OUT = some (.ktup []) := by with_unfolding_all rfl
theorem wk_name : List.lookup ("name" : Str) t_WORKED_OUT = some (.ktup []) := by with_unfolding_all rfl
theorem wk_sum : List.lookup ("sum" : Str) t_WORKED_OUT = some (.ktup [.int 1, .int 2]) := by with_unfolding_all rfl
theorem wk_let : List.lookup ("let" : Str) t_WORKED_OUT = some (.ktup [.int 2]) := by with_unfolding_all rfl
theorem wk_choose : List.lookup ("choose" : Str) t_WORKED_OUT = some (.ktup [.int 1]) := by with_unfolding_all rfl
theorem wk_ask : List.lookup ("ask" : Str) t_WORKED_OUT = some (.ktup [.int 2]) := by with_unfolding_all rfl
theorem wk_hand : List.lookup ("hand" : Str) t_WORKED_OUT = some (.ktup [.int 4]) := by with_unfolding_all rfl
def nxD : Option (Nat × Th.Pc) → D
  | some (i, _) => .int (i : Int)
  | none => .non
theorem next_at_ok (p : Th.Pc) : m_next_at [toD p] = .ok (nxD (Th.nxt p)) := by
  cases p with
  | num n => simp (decide := true) [fnM, seqM, asgM, retM, dropM, op2, cM, cbM, consA, nilA, varM, notV, andV, orV, notB, andB, orB, asB, ifS, ifM, tupM, lstM, callM, slM, someM, noM, itM, rngM, Ask.forM, chM, joinM, negM, augM, nextM, raiseM, R.bind, R.of, toO, bInt, bLen, bType, bAll, bMax, bIsi, D.add, D.sub, D.mul, D.fdiv, D.mod, D.lt, D.le, D.gt, D.ge, D.eq, D.ne, D.is, D.isnt, D.inn, D.ix, D.sl, D.items, D.flat, D.isNon, D.tyN, D.tyM, scal, tgN, tg2, isT, kgetM, zipM, jsM, nilJ, consJ, fmtM, retMo, asgMo, dropMo, ifSo, augMo, forMo, newMo, appMo, retOwn, wipeE, qCallOV, consV, nilV, dstM, dispM, insM, plK, seqQ, asgQ, retQ, dropQ, ifQ, ifQe, qN, nH, nV, nVA, noK, noKs, wipeQ, qCons, qNil, qList, Ask.forQ, forGoQ, fnF, fnQf, fnQ2, startQ, toQ, chUp, onL, onD, chO, chPut, putQL, putQD, delQD, rdP, ixP, ixD, ixL, slP, pl0, plF, plK, noErr, nextQ, enM, enumD, kixM, revM, dinM, truM, unpM, unpQ, tg3, fldM, qApp, appF, qExt, extF, qUpd, updF, qPop, popF, pop0F, qMove, qLst, qTup, qDct, q2, qCall, qCallO, ownL, qMeth, qMethL, qMake, fldQ, augQ, dictP, qDict, bTuple, bList, lcM, lcGo, yesM, ixN, m_next_at, b_next_at, lb_next_at_0, toD, atI_0, wk_num, Th.nxt, nxD, Ask.forGo]
  | name n => simp (decide := true) [fnM, seqM, asgM, retM, dropM, op2, cM, cbM, consA, nilA, varM, notV, andV, orV, notB, andB, orB, asB, ifS, ifM, tupM, lstM, callM, slM, someM, noM, itM, rngM, Ask.forM, chM, joinM, negM, augM, nextM, raiseM, R.bind, R.of, toO, bInt, bLen, bType, bAll, bMax, bIsi, D.add, D.sub, D.mul, D.fdiv, D.mod, D.lt, D.le, D.gt, D.ge, D.eq, D.ne, D.is, D.isnt, D.inn, D.ix, D.sl, D.items, D.flat, D.isNon, D.tyN, D.tyM, scal, tgN, tg2, isT, kgetM, zipM, jsM, nilJ, consJ, fmtM, retMo, asgMo, dropMo, ifSo, augMo, forMo, newMo, appMo, retOwn, wipeE, qCallOV, consV, nilV, dstM, dispM, insM, plK, seqQ, asgQ, retQ, dropQ, ifQ, ifQe, qN, nH, nV, nVA, noK, noKs, wipeQ, qCons, qNil, qList, Ask.forQ, forGoQ, fnF, fnQf, fnQ2, startQ, toQ, chUp, onL, onD, chO, chPut, putQL, putQD, delQD, rdP, ixP, ixD, ixL, slP, pl0, plF, plK, noErr, nextQ, enM, enumD, kixM, revM, dinM, truM, unpM, unpQ, tg3, fldM, qApp, appF, qExt, extF, qUpd, updF, qPop, popF, pop0F, qMove, qLst, qTup, qDct, q2, qCall, qCallO, ownL, qMeth, qMethL, qMake, fldQ, augQ, dictP, qDict, bTuple, bList, lcM, lcGo, yesM, ixN, m_next_at, b_next_at, lb_next_at_0, toD, atI_0, wk_name, Th.nxt, nxD, Ask.forGo]
  | sum a b =>
    obtain ⟨w, ds, e, hw⟩ := hd_is a
    obtain ⟨w2, ds2, e2, hw2⟩ := hd_is b
    by_cases ha : a.isNum = true
    · have h1 := hw.mpr ha
      by_cases hb : b.isNum = true
      · have h2 := hw2.mpr hb
        subst h1 h2
        simp (decide := true) [fnM, seqM, asgM, retM, dropM, op2, cM, cbM, consA, nilA, varM, notV, andV, orV, notB, andB, orB, asB, ifS, ifM, tupM, lstM, callM, slM, someM, noM, itM, rngM, Ask.forM, chM, joinM, negM, augM, nextM, raiseM, R.bind, R.of, toO, bInt, bLen, bType, bAll, bMax, bIsi, D.add, D.sub, D.mul, D.fdiv, D.mod, D.lt, D.le, D.gt, D.ge, D.eq, D.ne, D.is, D.isnt, D.inn, D.ix, D.sl, D.items, D.flat, D.isNon, D.tyN, D.tyM, scal, tgN, tg2, isT, kgetM, zipM, jsM, nilJ, consJ, fmtM, retMo, asgMo, dropMo, ifSo, augMo, forMo, newMo, appMo, retOwn, wipeE, qCallOV, consV, nilV, dstM, dispM, insM, plK, seqQ, asgQ, retQ, dropQ, ifQ, ifQe, qN, nH, nV, nVA, noK, noKs, wipeQ, qCons, qNil, qList, Ask.forQ, forGoQ, fnF, fnQf, fnQ2, startQ, toQ, chUp, onL, onD, chO, chPut, putQL, putQD, delQD, rdP, ixP, ixD, ixL, slP, pl0, plF, plK, noErr, nextQ, enM, enumD, kixM, revM, dinM, truM, unpM, unpQ, tg3, fldM, qApp, appF, qExt, extF, qUpd, updF, qPop, popF, pop0F, qMove, qLst, qTup, qDct, q2, qCall, qCallO, ownL, qMeth, qMethL, qMake, fldQ, augQ, dictP, qDict, bTuple, bList, lcM, lcGo, yesM, ixN, m_next_at, b_next_at, lb_next_at_0, toD, atI_0, atI_1, atI_2, wk_sum, Th.nxt, nxD, Ask.forGo, e, e2, ha, hb]
      · have h2 : ¬ w2 = ("num" : Str) := fun z => hb (hw2.mp z)
        subst h1
        simp (decide := true) [fnM, seqM, asgM, retM, dropM, op2, cM, cbM, consA, nilA, varM, notV, andV, orV, notB, andB, orB, asB, ifS, ifM, tupM, lstM, callM, slM, someM, noM, itM, rngM, Ask.forM, chM, joinM, negM, augM, nextM, raiseM, R.bind, R.of, toO, bInt, bLen, bType, bAll, bMax, bIsi, D.add, D.sub, D.mul, D.fdiv, D.mod, D.lt, D.le, D.gt, D.ge, D.eq, D.ne, D.is, D.isnt, D.inn, D.ix, D.sl, D.items, D.flat, D.isNon, D.tyN, D.tyM, scal, tgN, tg2, isT, kgetM, zipM, jsM, nilJ, consJ, fmtM, retMo, asgMo, dropMo, ifSo, augMo, forMo, newMo, appMo, retOwn, wipeE, qCallOV, consV, nilV, dstM, dispM, insM, plK, seqQ, asgQ, retQ, dropQ, ifQ, ifQe, qN, nH, nV, nVA, noK, noKs, wipeQ, qCons, qNil, qList, Ask.forQ, forGoQ, fnF, fnQf, fnQ2, startQ, toQ, chUp, onL, onD, chO, chPut, putQL, putQD, delQD, rdP, ixP, ixD, ixL, slP, pl0, plF, plK, noErr, nextQ, enM, enumD, kixM, revM, dinM, truM, unpM, unpQ, tg3, fldM, qApp, appF, qExt, extF, qUpd, updF, qPop, popF, pop0F, qMove, qLst, qTup, qDct, q2, qCall, qCallO, ownL, qMeth, qMethL, qMake, fldQ, augQ, dictP, qDict, bTuple, bList, lcM, lcGo, yesM, ixN, m_next_at, b_next_at, lb_next_at_0, toD, atI_0, atI_1, atI_2, wk_sum, Th.nxt, nxD, Ask.forGo, e, e2, h2, ha, hb]
    · have h1 : ¬ w = ("num" : Str) := fun z => ha (hw.mp z)
      simp (decide := true) [fnM, seqM, asgM, retM, dropM, op2, cM, cbM, consA, nilA, varM, notV, andV, orV, notB, andB, orB, asB, ifS, ifM, tupM, lstM, callM, slM, someM, noM, itM, rngM, Ask.forM, chM, joinM, negM, augM, nextM, raiseM, R.bind, R.of, toO, bInt, bLen, bType, bAll, bMax, bIsi, D.add, D.sub, D.mul, D.fdiv, D.mod, D.lt, D.le, D.gt, D.ge, D.eq, D.ne, D.is, D.isnt, D.inn, D.ix, D.sl, D.items, D.flat, D.isNon, D.tyN, D.tyM, scal, tgN, tg2, isT, kgetM, zipM, jsM, nilJ, consJ, fmtM, retMo, asgMo, dropMo, ifSo, augMo, forMo, newMo, appMo, retOwn, wipeE, qCallOV, consV, nilV, dstM, dispM, insM, plK, seqQ, asgQ, retQ, dropQ, ifQ, ifQe, qN, nH, nV, nVA, noK, noKs, wipeQ, qCons, qNil, qList, Ask.forQ, forGoQ, fnF, fnQf, fnQ2, startQ, toQ, chUp, onL, onD, chO, chPut, putQL, putQD, delQD, rdP, ixP, ixD, ixL, slP, pl0, plF, plK, noErr, nextQ, enM, enumD, kixM, revM, dinM, truM, unpM, unpQ, tg3, fldM, qApp, appF, qExt, extF, qUpd, updF, qPop, popF, pop0F, qMove, qLst, qTup, qDct, q2, qCall, qCallO, ownL, qMeth, qMethL, qMake, fldQ, augQ, dictP, qDict, bTuple, bList, lcM, lcGo, yesM, ixN, m_next_at, b_next_at, lb_next_at_0, toD, atI_0, atI_1, atI_2, wk_sum, Th.nxt, nxD, Ask.forGo, e, e2, h1, ha]
  | let_ x a b =>
    obtain ⟨w, ds, e, hw⟩ := hd_is a
    by_cases ha : a.isNum = true
    · have h1 := hw.mpr ha
      subst h1
      simp (decide := true) [fnM, seqM, asgM, retM, dropM, op2, cM, cbM, consA, nilA, varM, notV, andV, orV, notB, andB, orB, asB, ifS, ifM, tupM, lstM, callM, slM, someM, noM, itM, rngM, Ask.forM, chM, joinM, negM, augM, nextM, raiseM, R.bind, R.of, toO, bInt, bLen, bType, bAll, bMax, bIsi, D.add, D.sub, D.mul, D.fdiv, D.mod, D.lt, D.le, D.gt, D.ge, D.eq, D.ne, D.is, D.isnt, D.inn, D.ix, D.sl, D.items, D.flat, D.isNon, D.tyN, D.tyM, scal, tgN, tg2, isT, kgetM, zipM, jsM, nilJ, consJ, fmtM, retMo, asgMo, dropMo, ifSo, augMo, forMo, newMo, appMo, retOwn, wipeE, qCallOV, consV, nilV, dstM, dispM, insM, plK, seqQ, asgQ, retQ, dropQ, ifQ, ifQe, qN, nH, nV, nVA, noK, noKs, wipeQ, qCons, qNil, qList, Ask.forQ, forGoQ, fnF, fnQf, fnQ2, startQ, toQ, chUp, onL, onD, chO, chPut, putQL, putQD, delQD, rdP, ixP, ixD, ixL, slP, pl0, plF, plK, noErr, nextQ, enM, enumD, kixM, revM, dinM, truM, unpM, unpQ, tg3, fldM, qApp, appF, qExt, extF, qUpd, updF, qPop, popF, pop0F, qMove, qLst, qTup, qDct, q2, qCall, qCallO, ownL, qMeth, qMethL, qMake, fldQ, augQ, dictP, qDict, bTuple, bList, lcM, lcGo, yesM, ixN, m_next_at, b_next_at, lb_next_at_0, toD, atI_0, atI_1, atI_2, wk_let, Th.nxt, nxD, Ask.forGo, e, ha]
    · have h1 : ¬ w = ("num" : Str) := fun z => ha (hw.mp z)
      simp (decide := true) [fnM, seqM, asgM, retM, dropM, op2, cM, cbM, consA, nilA, varM, notV, andV, orV, notB, andB, orB, asB, ifS, ifM, tupM, lstM, callM, slM, someM, noM, itM, rngM, Ask.forM, chM, joinM, negM, augM, nextM, raiseM, R.bind, R.of, toO, bInt, bLen, bType, bAll, bMax, bIsi, D.add, D.sub, D.mul, D.fdiv, D.mod, D.lt, D.le, D.gt, D.ge, D.eq, D.ne, D.is, D.isnt, D.inn, D.ix, D.sl, D.items, D.flat, D.isNon, D.tyN, D.tyM, scal, tgN, tg2, isT, kgetM, zipM, jsM, nilJ, consJ, fmtM, retMo, asgMo, dropMo, ifSo, augMo, forMo, newMo, appMo, retOwn, wipeE, qCallOV, consV, nilV, dstM, dispM, insM, plK, seqQ, asgQ, retQ, dropQ, ifQ, ifQe, qN, nH, nV, nVA, noK, noKs, wipeQ, qCons, qNil, qList, Ask.forQ, forGoQ, fnF, fnQf, fnQ2, startQ, toQ, chUp, onL, onD, chO, chPut, putQL, putQD, delQD, rdP, ixP, ixD, ixL, slP, pl0, plF, plK, noErr, nextQ, enM, enumD, kixM, revM, dinM, truM, unpM, unpQ, tg3, fldM, qApp, appF, qExt, extF, qUpd, updF, qPop, popF, pop0F, qMove, qLst, qTup, qDct, q2, qCall, qCallO, ownL, qMeth, qMethL, qMake, fldQ, augQ, dictP, qDict, bTuple, bList, lcM, lcGo, yesM, ixN, m_next_at, b_next_at, lb_next_at_0, toD, atI_0, atI_1, atI_2, wk_let, Th.nxt, nxD, Ask.forGo, e, h1, ha]
  | choose a b c =>
    obtain ⟨w, ds, e, hw⟩ := hd_is a
    by_cases ha : a.isNum = true
    · have h1 := hw.mpr ha
      subst h1
      simp (decide := true) [fnM, seqM, asgM, retM, dropM, op2, cM, cbM, consA, nilA, varM, notV, andV, orV, notB, andB, orB, asB, ifS, ifM, tupM, lstM, callM, slM, someM, noM, itM, rngM, Ask.forM, chM, joinM, negM, augM, nextM, raiseM, R.bind, R.of, toO, bInt, bLen, bType, bAll, bMax, bIsi, D.add, D.sub, D.mul, D.fdiv, D.mod, D.lt, D.le, D.gt, D.ge, D.eq, D.ne, D.is, D.isnt, D.inn, D.ix, D.sl, D.items, D.flat, D.isNon, D.tyN, D.tyM, scal, tgN, tg2, isT, kgetM, zipM, jsM, nilJ, consJ, fmtM, retMo, asgMo, dropMo, ifSo, augMo, forMo, newMo, appMo, retOwn, wipeE, qCallOV, consV, nilV, dstM, dispM, insM, plK, seqQ, asgQ, retQ, dropQ, ifQ, ifQe, qN, nH, nV, nVA, noK, noKs, wipeQ, qCons, qNil, qList, Ask.forQ, forGoQ, fnF, fnQf, fnQ2, startQ, toQ, chUp, onL, onD, chO, chPut, putQL, putQD, delQD, rdP, ixP, ixD, ixL, slP, pl0, plF, plK, noErr, nextQ, enM, enumD, kixM, revM, dinM, truM, unpM, unpQ, tg3, fldM, qApp, appF, qExt, extF, qUpd, updF, qPop, popF, pop0F, qMove, qLst, qTup, qDct, q2, qCall, qCallO, ownL, qMeth, qMethL, qMake, fldQ, augQ, dictP, qDict, bTuple, bList, lcM, lcGo, yesM, ixN, m_next_at, b_next_at, lb_next_at_0, toD, atI_0, atI_1, atI_2, wk_choose, Th.nxt, nxD, Ask.forGo, e, ha]
    · have h1 : ¬ w = ("num" : Str) := fun z => ha (hw.mp z)
      simp (decide := true) [fnM, seqM, asgM, retM, dropM, op2, cM, cbM, consA, nilA, varM, notV, andV, orV, notB, andB, orB, asB, ifS, ifM, tupM, lstM, callM, slM, someM, noM, itM, rngM, Ask.forM, chM, joinM, negM, augM, nextM, raiseM, R.bind, R.of, toO, bInt, bLen, bType, bAll, bMax, bIsi, D.add, D.sub, D.mul, D.fdiv, D.mod, D.lt, D.le, D.gt, D.ge, D.eq, D.ne, D.is, D.isnt, D.inn, D.ix, D.sl, D.items, D.flat, D.isNon, D.tyN, D.tyM, scal, tgN, tg2, isT, kgetM, zipM, jsM, nilJ, consJ, fmtM, retMo, asgMo, dropMo, ifSo, augMo, forMo, newMo, appMo, retOwn, wipeE, qCallOV, consV, nilV, dstM, dispM, insM, plK, seqQ, asgQ, retQ, dropQ, ifQ, ifQe, qN, nH, nV, nVA, noK, noKs, wipeQ, qCons, qNil, qList, Ask.forQ, forGoQ, fnF, fnQf, fnQ2, startQ, toQ, chUp, onL, onD, chO, chPut, putQL, putQD, delQD, rdP, ixP, ixD, ixL, slP, pl0, plF, plK, noErr, nextQ, enM, enumD, kixM, revM, dinM, truM, unpM, unpQ, tg3, fldM, qApp, appF, qExt, extF, qUpd, updF, qPop, popF, pop0F, qMove, qLst, qTup, qDct, q2, qCall, qCallO, ownL, qMeth, qMethL, qMake, fldQ, augQ, dictP, qDict, bTuple, bList, lcM, lcGo, yesM, ixN, m_next_at, b_next_at, lb_next_at_0, toD, atI_0, atI_1, atI_2, wk_choose, Th.nxt, nxD, Ask.forGo, e, h1, ha]
  | ask k a =>
    obtain ⟨w, ds, e, hw⟩ := hd_is a
    by_cases ha : a.isNum = true
    · have h1 := hw.mpr ha
      subst h1
      simp (decide := true) [fnM, seqM, asgM, retM, dropM, op2, cM, cbM, consA, nilA, varM, notV, andV, orV, notB, andB, orB, asB, ifS, ifM, tupM, lstM, callM, slM, someM, noM, itM, rngM, Ask.forM, chM, joinM, negM, augM, nextM, raiseM, R.bind, R.of, toO, bInt, bLen, bType, bAll, bMax, bIsi, D.add, D.sub, D.mul, D.fdiv, D.mod, D.lt, D.le, D.gt, D.ge, D.eq, D.ne, D.is, D.isnt, D.inn, D.ix, D.sl, D.items, D.flat, D.isNon, D.tyN, D.tyM, scal, tgN, tg2, isT, kgetM, zipM, jsM, nilJ, consJ, fmtM, retMo, asgMo, dropMo, ifSo, augMo, forMo, newMo, appMo, retOwn, wipeE, qCallOV, consV, nilV, dstM, dispM, insM, plK, seqQ, asgQ, retQ, dropQ, ifQ, ifQe, qN, nH, nV, nVA, noK, noKs, wipeQ, qCons, qNil, qList, Ask.forQ, forGoQ, fnF, fnQf, fnQ2, startQ, toQ, chUp, onL, onD, chO, chPut, putQL, putQD, delQD, rdP, ixP, ixD, ixL, slP, pl0, plF, plK, noErr, nextQ, enM, enumD, kixM, revM, dinM, truM, unpM, unpQ, tg3, fldM, qApp, appF, qExt, extF, qUpd, updF, qPop, popF, pop0F, qMove, qLst, qTup, qDct, q2, qCall, qCallO, ownL, qMeth, qMethL, qMake, fldQ, augQ, dictP, qDict, bTuple, bList, lcM, lcGo, yesM, ixN, m_next_at, b_next_at, lb_next_at_0, toD, atI_0, atI_1, atI_2, wk_ask, Th.nxt, nxD, Ask.forGo, e, ha]
    · have h1 : ¬ w = ("num" : Str) := fun z => ha (hw.mp z)
      simp (decide := true) [fnM, seqM, asgM, retM, dropM, op2, cM, cbM, consA, nilA, varM, notV, andV, orV, notB, andB, orB, asB, ifS, ifM, tupM, lstM, callM, slM, someM, noM, itM, rngM, Ask.forM, chM, joinM, negM, augM, nextM, raiseM, R.bind, R.of, toO, bInt, bLen, bType, bAll, bMax, bIsi, D.add, D.sub, D.mul, D.fdiv, D.mod, D.lt, D.le, D.gt, D.ge, D.eq, D.ne, D.is, D.isnt, D.inn, D.ix, D.sl, D.items, D.flat, D.isNon, D.tyN, D.tyM, scal, tgN, tg2, isT, kgetM, zipM, jsM, nilJ, consJ, fmtM, retMo, asgMo, dropMo, ifSo, augMo, forMo, newMo, appMo, retOwn, wipeE, qCallOV, consV, nilV, dstM, dispM, insM, plK, seqQ, asgQ, retQ, dropQ, ifQ, ifQe, qN, nH, nV, nVA, noK, noKs, wipeQ, qCons, qNil, qList, Ask.forQ, forGoQ, fnF, fnQf, fnQ2, startQ, toQ, chUp, onL, onD, chO, chPut, putQL, putQD, delQD, rdP, ixP, ixD, ixL, slP, pl0, plF, plK, noErr, nextQ, enM, enumD, kixM, revM, dinM, truM, unpM, unpQ, tg3, fldM, qApp, appF, qExt, extF, qUpd, updF, qPop, popF, pop0F, qMove, qLst, qTup, qDct, q2, qCall, qCallO, ownL, qMeth, qMethL, qMake, fldQ, augQ, dictP, qDict, bTuple, bList, lcM, lcGo, yesM, ixN, m_next_at, b_next_at, lb_next_at_0, toD, atI_0, atI_1, atI_2, wk_ask, Th.nxt, nxD, Ask.forGo, e, h1, ha]
  | hand k x a b =>
    obtain ⟨w, ds, e, hw⟩ := hd_is b
    by_cases ha : b.isNum = true
    · have h1 := hw.mpr ha
      subst h1
      simp (decide := true) [fnM, seqM, asgM, retM, dropM, op2, cM, cbM, consA, nilA, varM, notV, andV, orV, notB, andB, orB, asB, ifS, ifM, tupM, lstM, callM, slM, someM, noM, itM, rngM, Ask.forM, chM, joinM, negM, augM, nextM, raiseM, R.bind, R.of, toO, bInt, bLen, bType, bAll, bMax, bIsi, D.add, D.sub, D.mul, D.fdiv, D.mod, D.lt, D.le, D.gt, D.ge, D.eq, D.ne, D.is, D.isnt, D.inn, D.ix, D.sl, D.items, D.flat, D.isNon, D.tyN, D.tyM, scal, tgN, tg2, isT, kgetM, zipM, jsM, nilJ, consJ, fmtM, retMo, asgMo, dropMo, ifSo, augMo, forMo, newMo, appMo, retOwn, wipeE, qCallOV, consV, nilV, dstM, dispM, insM, plK, seqQ, asgQ, retQ, dropQ, ifQ, ifQe, qN, nH, nV, nVA, noK, noKs, wipeQ, qCons, qNil, qList, Ask.forQ, forGoQ, fnF, fnQf, fnQ2, startQ, toQ, chUp, onL, onD, chO, chPut, putQL, putQD, delQD, rdP, ixP, ixD, ixL, slP, pl0, plF, plK, noErr, nextQ, enM, enumD, kixM, revM, dinM, truM, unpM, unpQ, tg3, fldM, qApp, appF, qExt, extF, qUpd, updF, qPop, popF, pop0F, qMove, qLst, qTup, qDct, q2, qCall, qCallO, ownL, qMeth, qMethL, qMake, fldQ, augQ, dictP, qDict, bTuple, bList, lcM, lcGo, yesM, ixN, m_next_at, b_next_at, lb_next_at_0, toD, atI_0, atI_1, atI_2, atI_4, wk_hand, Th.nxt, nxD, Ask.forGo, e, ha]
    · have h1 : ¬ w = ("num" : Str) := fun z => ha (hw.mp z)
      simp (decide := true) [fnM, seqM, asgM, retM, dropM, op2, cM, cbM, consA, nilA, varM, notV, andV, orV, notB, andB, orB, asB, ifS, ifM, tupM, lstM, callM, slM, someM, noM, itM, rngM, Ask.forM, chM, joinM, negM, augM, nextM, raiseM, R.bind, R.of, toO, bInt, bLen, bType, bAll, bMax, bIsi, D.add, D.sub, D.mul, D.fdiv, D.mod, D.lt, D.le, D.gt, D.ge, D.eq, D.ne, D.is, D.isnt, D.inn, D.ix, D.sl, D.items, D.flat, D.isNon, D.tyN, D.tyM, scal, tgN, tg2, isT, kgetM, zipM, jsM, nilJ, consJ, fmtM, retMo, asgMo, dropMo, ifSo, augMo, forMo, newMo, appMo, retOwn, wipeE, qCallOV, consV, nilV, dstM, dispM, insM, plK, seqQ, asgQ, retQ, dropQ, ifQ, ifQe, qN, nH, nV, nVA, noK, noKs, wipeQ, qCons, qNil, qList, Ask.forQ, forGoQ, fnF, fnQf, fnQ2, startQ, toQ, chUp, onL, onD, chO, chPut, putQL, putQD, delQD, rdP, ixP, ixD, ixL, slP, pl0, plF, plK, noErr, nextQ, enM, enumD, kixM, revM, dinM, truM, unpM, unpQ, tg3, fldM, qApp, appF, qExt, extF, qUpd, updF, qPop, popF, pop0F, qMove, qLst, qTup, qDct, q2, qCall, qCallO, ownL, qMeth, qMethL, qMake, fldQ, augQ, dictP, qDict, bTuple, bList, lcM, lcGo, yesM, ixN, m_next_at, b_next_at, lb_next_at_0, toD, atI_0, atI_1, atI_2, atI_4, wk_hand, Th.nxt, nxD, Ask.forGo, e, h1, ha]
def wD (w : Th.Pc × Nat) : D := .tup [toD w.1, .int (w.2 : Int)]
def arD (ar : List (Th.Pc × Nat)) : List D := ar.map wD
theorem kid_ix {p q : Th.Pc} {i : Nat} (h : Th.kid p i = some q) : D.ix (toD p) (.int (i : Int)) = some (toD q) := by
  have e : ∀ ds : List D, toD p = .tup ds → ds[i]? = some (toD q) → D.ix (toD p) (.int (i : Int)) = some (toD q) := fun ds h1 h2 => by
    rw [h1]
    show atI ds (i : Int) = _
    rw [atI_int, h2]
  cases p with
  | num n => cases h
  | name n => cases h
  | sum a b =>
    match i, h with
    | 1, h => cases h; exact e _ rfl rfl
    | 2, h => cases h; exact e _ rfl rfl
  | let_ x a b =>
    match i, h with
    | 2, h => cases h; exact e _ rfl rfl
  | choose a b c =>
    match i, h with
    | 1, h => cases h; exact e _ rfl rfl
  | ask k a =>
    match i, h with
    | 2, h => cases h; exact e _ rfl rfl
  | hand k x a b =>
    match i, h with
    | 4, h => cases h; exact e _ rfl rfl
theorem noK_ar : ∀ ar : List (Th.Pc × Nat), noKs (arD ar) = true
  | [] => rfl
  | w :: r => by
    have := noK_ar r
    unfold arD at this ⊢
    simp only [List.map_cons, wD, noKs, noK, noK_pc, this, Bool.and_self]
/-- the loop to what is next -/
theorem way_go : ∀ (n : Nat) (p : Th.Pc) (ar : List (Th.Pc × Nat)), Th.hgt p ≤ n → ar.length + n ≤ 1000 →
    whGoQ lt_way_to_next_1 lb_way_to_next_0 n [some (toD p), some (.lst (arD ar)), some (nxD (Th.nxt p))] = .nx [some (toD (Th.way p).2), some (.lst (arD (ar ++ (Th.way p).1))), some .non]
  | 0, p, ar, h, _ => by cases p <;> (unfold Th.hgt at h; omega)
  | n + 1, p, ar, h, hl => by
    cases hn : Th.nxt p with
    | none =>
      rw [Th.way_none hn, List.append_nil]
      simp (decide := true) [fnM, seqM, asgM, retM, dropM, op2, cM, cbM, consA, nilA, varM, notV, andV, orV, notB, andB, orB, asB, ifS, ifM, tupM, lstM, callM, slM, someM, noM, itM, rngM, Ask.forM, chM, joinM, negM, augM, nextM, raiseM, R.bind, R.of, toO, bInt, bLen, bType, bAll, bMax, bIsi, D.add, D.sub, D.mul, D.fdiv, D.mod, D.lt, D.le, D.gt, D.ge, D.eq, D.ne, D.is, D.isnt, D.inn, D.ix, D.sl, D.items, D.flat, D.isNon, D.tyN, D.tyM, scal, tgN, tg2, isT, kgetM, zipM, jsM, nilJ, consJ, fmtM, retMo, asgMo, dropMo, ifSo, augMo, forMo, newMo, appMo, retOwn, wipeE, qCallOV, consV, nilV, dstM, dispM, insM, plK, seqQ, asgQ, retQ, dropQ, ifQ, ifQe, qN, nH, nV, nVA, noK, noKs, wipeQ, qCons, qNil, qList, Ask.forQ, forGoQ, fnF, fnQf, fnQ2, startQ, toQ, chUp, onL, onD, chO, chPut, putQL, putQD, delQD, rdP, ixP, ixD, ixL, slP, pl0, plF, plK, noErr, nextQ, enM, enumD, kixM, revM, dinM, truM, unpM, unpQ, tg3, fldM, qApp, appF, qExt, extF, qUpd, updF, qPop, popF, pop0F, qMove, qLst, qTup, qDct, q2, qCall, qCallO, ownL, qMeth, qMethL, qMake, fldQ, augQ, dictP, qDict, bTuple, bList, lcM, lcGo, yesM, ixN, whGoQ, lt_way_to_next_1, nxD]
    | some iq =>
      obtain ⟨i, q⟩ := iq
      obtain ⟨w1, w2, w3, w4⟩ := Th.way_some hn
      have ih := way_go n q (ar ++ [(p, i)]) (by omega) (by rw [List.length_append, List.length_singleton]; omega)
      rw [w1]
      have hk := kid_ix w2
      have hx := next_at_ok q
      have e1 : arD (ar ++ [(p, i)]) = arD ar ++ [.tup [toD p, .int (i : Int)]] := by unfold arD; rw [List.map_append]; rfl
      have e2 : (ar ++ [(p, i)]) ++ (Th.way q).1 = ar ++ ((p, i) :: (Th.way q).1) := by rw [List.append_assoc]; rfl
      rw [e1, e2] at ih
      have hle : (arD ar).length ≤ 50000 := by unfold arD; rw [List.length_map]; omega
      have hb : lb_way_to_next_0 [some (toD p), some (.lst (arD ar)), some (.int (i : Int))] = .nx [some (toD q), some (.lst (arD ar ++ [.tup [toD p, .int (i : Int)]])), some (nxD (Th.nxt q))] := by
        simp (decide := true) [fnM, seqM, asgM, retM, dropM, op2, cM, cbM, consA, nilA, varM, notV, andV, orV, notB, andB, orB, asB, ifS, ifM, tupM, lstM, callM, slM, someM, noM, itM, rngM, Ask.forM, chM, joinM, negM, augM, nextM, raiseM, R.bind, R.of, toO, bInt, bLen, bType, bAll, bMax, bIsi, D.add, D.sub, D.mul, D.fdiv, D.mod, D.lt, D.le, D.gt, D.ge, D.eq, D.ne, D.is, D.isnt, D.inn, My.ix_tup, My.ix_lst, D.sl, D.items, D.flat, D.isNon, D.tyN, D.tyM, scal, tgN, tg2, isT, kgetM, zipM, jsM, nilJ, consJ, fmtM, retMo, asgMo, dropMo, ifSo, augMo, forMo, newMo, appMo, retOwn, wipeE, qCallOV, consV, nilV, dstM, dispM, insM, plK, seqQ, asgQ, retQ, dropQ, ifQ, ifQe, qN, nH, nV, nVA, noK, noKs, wipeQ, qCons, qNil, qList, Ask.forQ, forGoQ, fnF, fnQf, fnQ2, startQ, toQ, chUp, onL, onD, chO, chPut, putQL, putQD, delQD, rdP, ixP, ixD, ixL, slP, pl0, plF, plK, noErr, nextQ, enM, enumD, kixM, revM, dinM, truM, unpM, unpQ, tg3, fldM, qApp, appF, qExt, extF, qUpd, updF, qPop, popF, pop0F, qMove, qLst, qTup, qDct, q2, qCall, qCallO, ownL, qMeth, qMethL, qMake, fldQ, augQ, dictP, qDict, bTuple, bList, lcM, lcGo, yesM, ixN, lb_way_to_next_0, hle, hk, hx]
      unfold whGoQ
      have ht : lt_way_to_next_1 [some (toD p), some (.lst (arD ar)), some (nxD (some (i, q)))] = .ok true := by simp (decide := true) [fnM, seqM, asgM, retM, dropM, op2, cM, cbM, consA, nilA, varM, notV, andV, orV, notB, andB, orB, asB, ifS, ifM, tupM, lstM, callM, slM, someM, noM, itM, rngM, Ask.forM, chM, joinM, negM, augM, nextM, raiseM, R.bind, R.of, toO, bInt, bLen, bType, bAll, bMax, bIsi, D.add, D.sub, D.mul, D.fdiv, D.mod, D.lt, D.le, D.gt, D.ge, D.eq, D.ne, D.is, D.isnt, D.inn, D.ix, D.sl, D.items, D.flat, D.isNon, D.tyN, D.tyM, scal, tgN, tg2, isT, kgetM, zipM, jsM, nilJ, consJ, fmtM, retMo, asgMo, dropMo, ifSo, augMo, forMo, newMo, appMo, retOwn, wipeE, qCallOV, consV, nilV, dstM, dispM, insM, plK, seqQ, asgQ, retQ, dropQ, ifQ, ifQe, qN, nH, nV, nVA, noK, noKs, wipeQ, qCons, qNil, qList, Ask.forQ, forGoQ, fnF, fnQf, fnQ2, startQ, toQ, chUp, onL, onD, chO, chPut, putQL, putQD, delQD, rdP, ixP, ixD, ixL, slP, pl0, plF, plK, noErr, nextQ, enM, enumD, kixM, revM, dinM, truM, unpM, unpQ, tg3, fldM, qApp, appF, qExt, extF, qUpd, updF, qPop, popF, pop0F, qMove, qLst, qTup, qDct, q2, qCall, qCallO, ownL, qMeth, qMethL, qMake, fldQ, augQ, dictP, qDict, bTuple, bList, lcM, lcGo, yesM, ixN, lt_way_to_next_1, nxD]
      rw [ht]
      simp only [nxD] at hb ⊢
      rw [hb]
      exact ih
end My
namespace My
open PySem L2 Evl Ask
theorem way_ok (p : Th.Pc) (h : Th.hgt p ≤ 900) : m_way_to_next [toD p] = .ok (.tup [.lst (arD (Th.way p).1), toD (Th.way p).2]) := by
  have hg := way_go 900 p [] h (by rw [List.length_nil]; omega)
  rw [List.nil_append] at hg
  have hw := whQ_is hg (fun z => by cases z)
  have hx := next_at_ok p
  have hk := noK_ar (Th.way p).1
  have hk2 := noK_pc (Th.way p).2
  have e0 : arD [] = [] := rfl
  rw [e0] at hw
  have e1 : b_way_to_next [some (toD p), none, none] = .rt (.tup [.lst (arD (Th.way p).1), toD (Th.way p).2]) [some (toD (Th.way p).2), none, some .non] := by
    simp (decide := true) [fnM, seqM, asgM, retM, dropM, op2, cM, cbM, consA, nilA, varM, notV, andV, orV, notB, andB, orB, asB, ifS, ifM, tupM, lstM, callM, slM, someM, noM, itM, rngM, Ask.forM, chM, joinM, negM, augM, nextM, raiseM, R.bind, R.of, toO, bInt, bLen, bType, bAll, bMax, bIsi, D.add, D.sub, D.mul, D.fdiv, D.mod, D.lt, D.le, D.gt, D.ge, D.eq, D.ne, D.is, D.isnt, D.inn, My.ix_tup, My.ix_lst, D.sl, D.items, D.flat, D.isNon, D.tyN, D.tyM, scal, tgN, tg2, isT, kgetM, zipM, jsM, nilJ, consJ, fmtM, retMo, asgMo, dropMo, ifSo, augMo, forMo, newMo, appMo, retOwn, wipeE, qCallOV, consV, nilV, dstM, dispM, insM, plK, seqQ, asgQ, retQ, dropQ, ifQ, ifQe, qN, nH, nV, nVA, noK, noKs, wipeQ, qCons, qNil, qList, Ask.forQ, forGoQ, fnF, fnQf, fnQ2, startQ, toQ, chUp, onL, onD, chO, chPut, putQL, putQD, delQD, rdP, ixP, ixD, ixL, slP, pl0, plF, plK, noErr, nextQ, enM, enumD, kixM, revM, dinM, truM, unpM, unpQ, tg3, fldM, qApp, appF, qExt, extF, qUpd, updF, qPop, popF, pop0F, qMove, qLst, qTup, qDct, q2, qCall, qCallO, ownL, qMeth, qMethL, qMake, fldQ, augQ, dictP, qDict, bTuple, bList, lcM, lcGo, yesM, ixN, b_way_to_next, hx, hw, hk, hk2]
  simp (decide := true) [fnM, seqM, asgM, retM, dropM, op2, cM, cbM, consA, nilA, varM, notV, andV, orV, notB, andB, orB, asB, ifS, ifM, tupM, lstM, callM, slM, someM, noM, itM, rngM, Ask.forM, chM, joinM, negM, augM, nextM, raiseM, R.bind, R.of, toO, bInt, bLen, bType, bAll, bMax, bIsi, D.add, D.sub, D.mul, D.fdiv, D.mod, D.lt, D.le, D.gt, D.ge, D.eq, D.ne, D.is, D.isnt, D.inn, My.ix_tup, My.ix_lst, D.sl, D.items, D.flat, D.isNon, D.tyN, D.tyM, scal, tgN, tg2, isT, kgetM, zipM, jsM, nilJ, consJ, fmtM, retMo, asgMo, dropMo, ifSo, augMo, forMo, newMo, appMo, retOwn, wipeE, qCallOV, consV, nilV, dstM, dispM, insM, plK, seqQ, asgQ, retQ, dropQ, ifQ, ifQe, qN, nH, nV, nVA, noK, noKs, wipeQ, qCons, qNil, qList, Ask.forQ, forGoQ, fnF, fnQf, fnQ2, startQ, toQ, chUp, onL, onD, chO, chPut, putQL, putQD, delQD, rdP, ixP, ixD, ixL, slP, pl0, plF, plK, noErr, nextQ, enM, enumD, kixM, revM, dinM, truM, unpM, unpQ, tg3, fldM, qApp, appF, qExt, extF, qUpd, updF, qPop, popF, pop0F, qMove, qLst, qTup, qDct, q2, qCall, qCallO, ownL, qMeth, qMethL, qMake, fldQ, augQ, dictP, qDict, bTuple, bList, lcM, lcGo, yesM, ixN, m_way_to_next, mf_way_to_next, e1]
theorem isHand_D (k : Str) (w : Th.Pc) : ∃ (u : Str) (y : D) (ds : List D), toD w = .tup (.str u :: y :: ds) ∧ (Th.isHandOf k w = true ↔ u = ("hand" : Str) ∧ y = .str k) := by
  cases w with
  | hand k' x a b =>
    refine ⟨_, _, _, rfl, ?_⟩
    show (k' == k) = true ↔ _
    rw [beq_iff_eq]
    exact ⟨fun h => ⟨rfl, by rw [h]⟩, fun h => by cases h.2; rfl⟩
  | _ => exact ⟨_, _, _, rfl, ⟨(fun h => by cases h), (fun h => absurd h.1 (by decide))⟩⟩
theorem near_app (k : Str) (w : Th.Pc × Nat) : ∀ ar : List (Th.Pc × Nat), Th.near k (ar ++ [w]) = if Th.isHandOf k w.1 = true then some ar.length else Th.near k ar
  | [] => by
    obtain ⟨w, i⟩ := w
    show (match (none : Option Nat) with | some i => some (i + 1) | none => if Th.isHandOf k w = true then some 0 else none) = _
    rfl
  | (v, j) :: r => by
    have ih := near_app k w r
    show (match Th.near k (r ++ [w]) with | some i => some (i + 1) | none => if Th.isHandOf k v = true then some 0 else none) = _
    rw [ih]
    by_cases h : Th.isHandOf k w.1 = true
    · rw [if_pos h, if_pos h]; rfl
    · rw [if_neg h, if_neg h]; rfl
theorem down_succ (n : Nat) : downD (n + 1) = .int (n : Int) :: downD n := by
  unfold downD
  rw [List.range_succ_eq_map, List.map_cons, List.map_map]
  congr 1
  · congr 1; omega
  · apply List.map_congr_left
    intro i _
    show D.int _ = D.int _
    congr 1
    show (((n + 1 : Nat)) : Int) - 1 - ((i.succ : Nat) : Int) = _
    omega
def nrD : Option Nat → D
  | some i => .int (i : Int)
  | none => .non
theorem near_go (ar : List (Th.Pc × Nat)) (k : Str) : ∀ (n : Nat) (x2 x3 : Option D), n ≤ ar.length →
    (match Th.near k (ar.take n) with
    | some i => forGo (tgN 2) lb_nearest_hand_0 (downD n) [some (.lst (arD ar)), some (.str k), x2, x3] = .rt (.int (i : Int))
    | none => ∃ y2 y3, forGo (tgN 2) lb_nearest_hand_0 (downD n) [some (.lst (arD ar)), some (.str k), x2, x3] = .nx [some (.lst (arD ar)), some (.str k), y2, y3])
  | 0, x2, x3, _ => ⟨x2, x3, rfl⟩
  | n + 1, x2, x3, h => by
    have hn : n < ar.length := by omega
    have et : ar.take (n + 1) = ar.take n ++ [ar[n]] := by rw [List.take_add_one, List.getElem?_eq_getElem hn]; rfl
    rw [et, near_app, down_succ]
    have ha : atI (arD ar) (n : Int) = some (wD ar[n]) := by unfold arD; rw [atI_int, List.getElem?_map, List.getElem?_eq_getElem hn]; rfl
    obtain ⟨u, y, ds, e, hi⟩ := isHand_D k ar[n].1
    by_cases hh : Th.isHandOf k ar[n].1 = true
    · rw [if_pos hh, List.length_take, Nat.min_eq_left (by omega)]
      obtain ⟨h1, h2⟩ := hi.mp hh
      subst h1 h2
      simp (decide := true) [fnM, seqM, asgM, retM, dropM, op2, cM, cbM, consA, nilA, varM, notV, andV, orV, notB, andB, orB, asB, ifS, ifM, tupM, lstM, callM, slM, someM, noM, itM, rngM, Ask.forM, chM, joinM, negM, augM, nextM, raiseM, R.bind, R.of, toO, bInt, bLen, bType, bAll, bMax, bIsi, D.add, D.sub, D.mul, D.fdiv, D.mod, D.lt, D.le, D.gt, D.ge, D.eq, D.ne, D.is, D.isnt, D.inn, My.ix_tup, My.ix_lst, D.sl, D.items, D.flat, D.isNon, D.tyN, D.tyM, scal, tgN, tg2, isT, kgetM, zipM, jsM, nilJ, consJ, fmtM, retMo, asgMo, dropMo, ifSo, augMo, forMo, newMo, appMo, retOwn, wipeE, qCallOV, consV, nilV, dstM, dispM, insM, plK, seqQ, asgQ, retQ, dropQ, ifQ, ifQe, qN, nH, nV, nVA, noK, noKs, wipeQ, qCons, qNil, qList, Ask.forQ, forGoQ, fnF, fnQf, fnQ2, startQ, toQ, chUp, onL, onD, chO, chPut, putQL, putQD, delQD, rdP, ixP, ixD, ixL, slP, pl0, plF, plK, noErr, nextQ, enM, enumD, kixM, revM, dinM, truM, unpM, unpQ, tg3, fldM, qApp, appF, qExt, extF, qUpd, updF, qPop, popF, pop0F, qMove, qLst, qTup, qDct, q2, qCall, qCallO, ownL, qMeth, qMethL, qMake, fldQ, augQ, dictP, qDict, bTuple, bList, lcM, lcGo, yesM, ixN, Ask.forGo, lb_nearest_hand_0, ha, wD, atI_0, atI_1, e]
    · rw [if_neg hh]
      have hb : lb_nearest_hand_0 [some (.lst (arD ar)), some (.str k), some (.int (n : Int)), x3] = .nx [some (.lst (arD ar)), some (.str k), some (.int (n : Int)), some (toD ar[n].1)] := by
        by_cases hu : u = ("hand" : Str)
        · have hy : ¬ y = .str k := fun z => hh (hi.mpr ⟨hu, z⟩)
          subst hu
          cases hw : ar[n].1 with
          | hand k' x a b =>
            rw [hw] at e
            cases e
            have hk : ¬ k' = k := fun z => hy (by rw [z])
            simp (decide := true) [fnM, seqM, asgM, retM, dropM, op2, cM, cbM, consA, nilA, varM, notV, andV, orV, notB, andB, orB, asB, ifS, ifM, tupM, lstM, callM, slM, someM, noM, itM, rngM, Ask.forM, chM, joinM, negM, augM, nextM, raiseM, R.bind, R.of, toO, bInt, bLen, bType, bAll, bMax, bIsi, D.add, D.sub, D.mul, D.fdiv, D.mod, D.lt, D.le, D.gt, D.ge, D.eq, D.ne, D.is, D.isnt, D.inn, My.ix_tup, My.ix_lst, D.sl, D.items, D.flat, D.isNon, D.tyN, D.tyM, scal, tgN, tg2, isT, kgetM, zipM, jsM, nilJ, consJ, fmtM, retMo, asgMo, dropMo, ifSo, augMo, forMo, newMo, appMo, retOwn, wipeE, qCallOV, consV, nilV, dstM, dispM, insM, plK, seqQ, asgQ, retQ, dropQ, ifQ, ifQe, qN, nH, nV, nVA, noK, noKs, wipeQ, qCons, qNil, qList, Ask.forQ, forGoQ, fnF, fnQf, fnQ2, startQ, toQ, chUp, onL, onD, chO, chPut, putQL, putQD, delQD, rdP, ixP, ixD, ixL, slP, pl0, plF, plK, noErr, nextQ, enM, enumD, kixM, revM, dinM, truM, unpM, unpQ, tg3, fldM, qApp, appF, qExt, extF, qUpd, updF, qPop, popF, pop0F, qMove, qLst, qTup, qDct, q2, qCall, qCallO, ownL, qMeth, qMethL, qMake, fldQ, augQ, dictP, qDict, bTuple, bList, lcM, lcGo, yesM, ixN, lb_nearest_hand_0, ha, wD, hw, toD, atI_0, atI_1, hk]
          | _ => rw [hw] at e; simp only [toD] at e; cases e
        · simp (decide := true) [fnM, seqM, asgM, retM, dropM, op2, cM, cbM, consA, nilA, varM, notV, andV, orV, notB, andB, orB, asB, ifS, ifM, tupM, lstM, callM, slM, someM, noM, itM, rngM, Ask.forM, chM, joinM, negM, augM, nextM, raiseM, R.bind, R.of, toO, bInt, bLen, bType, bAll, bMax, bIsi, D.add, D.sub, D.mul, D.fdiv, D.mod, D.lt, D.le, D.gt, D.ge, D.eq, D.ne, D.is, D.isnt, D.inn, My.ix_tup, My.ix_lst, D.sl, D.items, D.flat, D.isNon, D.tyN, D.tyM, scal, tgN, tg2, isT, kgetM, zipM, jsM, nilJ, consJ, fmtM, retMo, asgMo, dropMo, ifSo, augMo, forMo, newMo, appMo, retOwn, wipeE, qCallOV, consV, nilV, dstM, dispM, insM, plK, seqQ, asgQ, retQ, dropQ, ifQ, ifQe, qN, nH, nV, nVA, noK, noKs, wipeQ, qCons, qNil, qList, Ask.forQ, forGoQ, fnF, fnQf, fnQ2, startQ, toQ, chUp, onL, onD, chO, chPut, putQL, putQD, delQD, rdP, ixP, ixD, ixL, slP, pl0, plF, plK, noErr, nextQ, enM, enumD, kixM, revM, dinM, truM, unpM, unpQ, tg3, fldM, qApp, appF, qExt, extF, qUpd, updF, qPop, popF, pop0F, qMove, qLst, qTup, qDct, q2, qCall, qCallO, ownL, qMeth, qMethL, qMake, fldQ, augQ, dictP, qDict, bTuple, bList, lcM, lcGo, yesM, ixN, lb_nearest_hand_0, ha, wD, atI_0, atI_1, e, hu]
      have ih := near_go ar k n (some (.int (n : Int))) (some (toD ar[n].1)) (by omega)
      have ef : forGo (tgN 2) lb_nearest_hand_0 (.int (n : Int) :: downD n) [some (.lst (arD ar)), some (.str k), x2, x3] = forGo (tgN 2) lb_nearest_hand_0 (downD n) [some (.lst (arD ar)), some (.str k), some (.int (n : Int)), some (toD ar[n].1)] := by
        show (match tgN 2 (.int (n : Int)) [some (.lst (arD ar)), some (.str k), x2, x3] with
          | none => O.bad
          | some e1 => match lb_nearest_hand_0 e1 with
            | .nx e2 => forGo (tgN 2) lb_nearest_hand_0 (downD n) e2
            | .ct e2 => forGo (tgN 2) lb_nearest_hand_0 (downD n) e2
            | .bk e2 => .nx e2
            | o => o) = _
        have et2 : tgN 2 (.int (n : Int)) [some (.lst (arD ar)), some (.str k), x2, x3] = some [some (.lst (arD ar)), some (.str k), some (.int (n : Int)), x3] := rfl
        rw [et2]
        simp only [hb]
      rw [ef]
      exact ih
theorem down_at {m : Sl → R D} {env : Sl} {n : Nat} (h : m env = .ok (.int (n : Int))) (hn : n ≤ 1000) : downM m env = .ok (downD n) := by
  unfold downM
  rw [h]
  simp only [R.bind]
  rw [if_pos ⟨Int.natCast_nonneg n, by rw [Int.toNat_natCast]; omega⟩, Int.toNat_natCast]
theorem near_ok (ar : List (Th.Pc × Nat)) (k : Str) (h : ar.length ≤ 1000) : m_nearest_hand [.lst (arD ar), .str k] = .ok (nrD (Th.near k ar)) := by
  have hg := near_go ar k ar.length none none (Nat.le_refl _)
  rw [List.take_length] at hg
  have hl : (arD ar).length = ar.length := by unfold arD; rw [List.length_map]
  have hm : cbM bLen (consA (varM 0) nilA) [some (.lst (arD ar)), some (.str k), none, none] = .ok (.int (ar.length : Int)) := by simp (decide := true) [fnM, seqM, asgM, retM, dropM, op2, cM, cbM, consA, nilA, varM, notV, andV, orV, notB, andB, orB, asB, ifS, ifM, tupM, lstM, callM, slM, someM, noM, itM, rngM, Ask.forM, chM, joinM, negM, augM, nextM, raiseM, R.bind, R.of, toO, bInt, bLen, bType, bAll, bMax, bIsi, D.add, D.sub, D.mul, D.fdiv, D.mod, D.lt, D.le, D.gt, D.ge, D.eq, D.ne, D.is, D.isnt, D.inn, My.ix_tup, My.ix_lst, D.sl, D.items, D.flat, D.isNon, D.tyN, D.tyM, scal, tgN, tg2, isT, kgetM, zipM, jsM, nilJ, consJ, fmtM, retMo, asgMo, dropMo, ifSo, augMo, forMo, newMo, appMo, retOwn, wipeE, qCallOV, consV, nilV, dstM, dispM, insM, plK, seqQ, asgQ, retQ, dropQ, ifQ, ifQe, qN, nH, nV, nVA, noK, noKs, wipeQ, qCons, qNil, qList, Ask.forQ, forGoQ, fnF, fnQf, fnQ2, startQ, toQ, chUp, onL, onD, chO, chPut, putQL, putQD, delQD, rdP, ixP, ixD, ixL, slP, pl0, plF, plK, noErr, nextQ, enM, enumD, kixM, revM, dinM, truM, unpM, unpQ, tg3, fldM, qApp, appF, qExt, extF, qUpd, updF, qPop, popF, pop0F, qMove, qLst, qTup, qDct, q2, qCall, qCallO, ownL, qMeth, qMethL, qMake, fldQ, augQ, dictP, qDict, bTuple, bList, lcM, lcGo, yesM, ixN, hl]
  have hd := down_at hm h
  cases hn : Th.near k ar with
  | some i =>
    rw [hn] at hg
    simp only at hg
    exact fn_rt rfl (for_rt hd hg)
  | none =>
    rw [hn] at hg
    obtain ⟨y2, y3, hg⟩ := hg
    exact fn_rt rfl ((for_nx hd hg).trans rfl)
/-- putting back -/
theorem cut_put {w : Th.Pc} {i : Nat} (h : Th.kid w i ≠ none) (q : Th.Pc) : ∃ ds, toD w = .tup ds ∧ cutD ds none (some (i : Int)) ++ [toD q] ++ cutD ds (some ((i : Int) + 1)) none = (match toD (Th.putAt w i q) with | .tup es => es | _ => []) ∧ ∃ es, toD (Th.putAt w i q) = .tup es := by
  cases w with
  | num n => exact absurd rfl h
  | name n => exact absurd rfl h
  | sum a b =>
    match i, h with
    | 1, h => exact ⟨_, rfl, rfl, _, rfl⟩
    | 2, h => exact ⟨_, rfl, rfl, _, rfl⟩
    | 0, h => exact absurd rfl h
    | n + 3, h => exact absurd rfl h
  | let_ x a b =>
    match i, h with
    | 2, h => exact ⟨_, rfl, rfl, _, rfl⟩
    | 0, h => exact absurd rfl h
    | 1, h => exact absurd rfl h
    | n + 3, h => exact absurd rfl h
  | choose a b c =>
    match i, h with
    | 1, h => exact ⟨_, rfl, rfl, _, rfl⟩
    | 0, h => exact absurd rfl h
    | n + 2, h => exact absurd rfl h
  | ask k a =>
    match i, h with
    | 2, h => exact ⟨_, rfl, rfl, _, rfl⟩
    | 0, h => exact absurd rfl h
    | 1, h => exact absurd rfl h
    | n + 3, h => exact absurd rfl h
  | hand k x a b =>
    match i, h with
    | 4, h => exact ⟨_, rfl, rfl, _, rfl⟩
    | 0, h => exact absurd rfl h
    | 1, h => exact absurd rfl h
    | 2, h => exact absurd rfl h
    | 3, h => exact absurd rfl h
    | n + 5, h => exact absurd rfl h
theorem back_fold (q : Th.Pc) : ∀ ar : List (Th.Pc × Nat), Th.back ar q = ar.foldr (fun w z => Th.putAt w.1 w.2 z) q
  | [] => rfl
  | w :: r => by
    show Th.putAt w.1 w.2 (Th.back r q) = _
    rw [back_fold q r]; rfl
theorem put_go (x0 : D) : ∀ (r : List (Th.Pc × Nat)) (q : Th.Pc) (x2 x3 : Option D), (∀ w ∈ r, Th.kid w.1 w.2 ≠ none) →
    ∃ y2 y3, forGo (tg2 (tgN 2) (tgN 3)) lb_put_back_0 (arD r) [some x0, some (toD q), x2, x3] = .nx [some x0, some (toD (r.foldl (fun z w => Th.putAt w.1 w.2 z) q)), y2, y3]
  | [], q, x2, x3, _ => ⟨x2, x3, rfl⟩
  | (w, i) :: r, q, x2, x3, h => by
    obtain ⟨y2, y3, ih⟩ := put_go x0 r (Th.putAt w i q) (some (toD w)) (some (.int (i : Int))) (fun v hv => h v (List.mem_cons_of_mem _ hv))
    refine ⟨y2, y3, ?_⟩
    obtain ⟨ds, e1, e2, es, e3⟩ := cut_put (h (w, i) List.mem_cons_self) q
    rw [e3] at e2
    simp only at e2
    rw [List.foldl_cons]
    have hlen : ds.length ≤ 10 ∧ es.length ≤ 10 := by
      constructor
      · cases w <;> (simp only [toD] at e1; cases e1; simp)
      · cases hp : Th.putAt w i q <;> (rw [hp] at e3; simp only [toD] at e3; cases e3; simp)
    have hb : lb_put_back_0 [some x0, some (toD q), some (toD w), some (.int (i : Int))] = .nx [some x0, some (toD (Th.putAt w i q)), some (toD w), some (.int (i : Int))] := by
      rw [e1, e3, ← e2]
      have l1 : (cutD ds none (some (i : Int))).length ≤ 10 := by unfold cutD; rw [List.length_take, List.length_drop]; omega
      have l2 : (cutD ds (some ((i : Int) + 1)) none).length ≤ 10 := by unfold cutD; rw [List.length_take, List.length_drop]; omega
      have l3 : (cutD ds none (some (i : Int))).length + 1 ≤ 100000 := by omega
      have l4 : (cutD ds none (some (i : Int))).length + 1 + (cutD ds (some ((i : Int) + 1)) none).length ≤ 100000 := by omega
      simp (decide := true) [fnM, seqM, asgM, retM, dropM, op2, cM, cbM, consA, nilA, varM, notV, andV, orV, notB, andB, orB, asB, ifS, ifM, tupM, lstM, callM, slM, someM, noM, itM, rngM, Ask.forM, chM, joinM, negM, augM, nextM, raiseM, R.bind, R.of, toO, bInt, bLen, bType, bAll, bMax, bIsi, D.add, D.sub, D.mul, D.fdiv, D.mod, D.lt, D.le, D.gt, D.ge, D.eq, D.ne, D.is, D.isnt, D.inn, My.ix_tup, My.ix_lst, D.sl, D.items, D.flat, D.isNon, D.tyN, D.tyM, scal, tgN, tg2, isT, kgetM, zipM, jsM, nilJ, consJ, fmtM, retMo, asgMo, dropMo, ifSo, augMo, forMo, newMo, appMo, retOwn, wipeE, qCallOV, consV, nilV, dstM, dispM, insM, plK, seqQ, asgQ, retQ, dropQ, ifQ, ifQe, qN, nH, nV, nVA, noK, noKs, wipeQ, qCons, qNil, qList, Ask.forQ, forGoQ, fnF, fnQf, fnQ2, startQ, toQ, chUp, onL, onD, chO, chPut, putQL, putQD, delQD, rdP, ixP, ixD, ixL, slP, pl0, plF, plK, noErr, nextQ, enM, enumD, kixM, revM, dinM, truM, unpM, unpQ, tg3, fldM, qApp, appF, qExt, extF, qUpd, updF, qPop, popF, pop0F, qMove, qLst, qTup, qDct, q2, qCall, qCallO, ownL, qMeth, qMethL, qMake, fldQ, augQ, dictP, qDict, bTuple, bList, lcM, lcGo, yesM, ixN, lb_put_back_0, l3, l4]
    have ef : forGo (tg2 (tgN 2) (tgN 3)) lb_put_back_0 (arD ((w, i) :: r)) [some x0, some (toD q), x2, x3] = forGo (tg2 (tgN 2) (tgN 3)) lb_put_back_0 (arD r) [some x0, some (toD (Th.putAt w i q)), some (toD w), some (.int (i : Int))] := by
      show (match tg2 (tgN 2) (tgN 3) (wD (w, i)) [some x0, some (toD q), x2, x3] with
        | none => O.bad
        | some e1 => match lb_put_back_0 e1 with
          | .nx e2 => forGo (tg2 (tgN 2) (tgN 3)) lb_put_back_0 (arD r) e2
          | .ct e2 => forGo (tg2 (tgN 2) (tgN 3)) lb_put_back_0 (arD r) e2
          | .bk e2 => .nx e2
          | o => o) = _
      have et2 : tg2 (tgN 2) (tgN 3) (wD (w, i)) [some x0, some (toD q), x2, x3] = some [some x0, some (toD q), some (toD w), some (.int (i : Int))] := rfl
      rw [et2]
      simp only [hb]
    rw [ef, ih]
theorem put_back_ok (ar : List (Th.Pc × Nat)) (q : Th.Pc) (h : ∀ w ∈ ar, Th.kid w.1 w.2 ≠ none) : m_put_back [.lst (arD ar), toD q] = .ok (toD (Th.back ar q)) := by
  obtain ⟨y2, y3, hg⟩ := put_go (.lst (arD ar)) ar.reverse q none none (fun w hw => h w (List.mem_reverse.mp hw))
  rw [List.foldl_reverse, ← back_fold] at hg
  have e : arD ar.reverse = (arD ar).reverse := by unfold arD; rw [List.map_reverse]
  rw [e] at hg
  simp (decide := true) [fnM, seqM, asgM, retM, dropM, op2, cM, cbM, consA, nilA, varM, notV, andV, orV, notB, andB, orB, asB, ifS, ifM, tupM, lstM, callM, slM, someM, noM, itM, rngM, Ask.forM, chM, joinM, negM, augM, nextM, raiseM, R.bind, R.of, toO, bInt, bLen, bType, bAll, bMax, bIsi, D.add, D.sub, D.mul, D.fdiv, D.mod, D.lt, D.le, D.gt, D.ge, D.eq, D.ne, D.is, D.isnt, D.inn, My.ix_tup, My.ix_lst, D.sl, D.items, D.flat, D.isNon, D.tyN, D.tyM, scal, tgN, tg2, isT, kgetM, zipM, jsM, nilJ, consJ, fmtM, retMo, asgMo, dropMo, ifSo, augMo, forMo, newMo, appMo, retOwn, wipeE, qCallOV, consV, nilV, dstM, dispM, insM, plK, seqQ, asgQ, retQ, dropQ, ifQ, ifQe, qN, nH, nV, nVA, noK, noKs, wipeQ, qCons, qNil, qList, Ask.forQ, forGoQ, fnF, fnQf, fnQ2, startQ, toQ, chUp, onL, onD, chO, chPut, putQL, putQD, delQD, rdP, ixP, ixD, ixL, slP, pl0, plF, plK, noErr, nextQ, enM, enumD, kixM, revM, dinM, truM, unpM, unpQ, tg3, fldM, qApp, appF, qExt, extF, qUpd, updF, qPop, popF, pop0F, qMove, qLst, qTup, qDct, q2, qCall, qCallO, ownL, qMeth, qMethL, qMake, fldQ, augQ, dictP, qDict, bTuple, bList, lcM, lcGo, yesM, ixN, m_put_back, b_put_back, hg]
theorem way_kid : ∀ (p : Th.Pc), ∀ w ∈ (Th.way p).1, Th.kid w.1 w.2 ≠ none := by
  have go : ∀ (n : Nat) (p : Th.Pc), Th.hgt p ≤ n → ∀ w ∈ (Th.way p).1, Th.kid w.1 w.2 ≠ none := by
    intro n
    induction n with
    | zero => intro p h; cases p <;> (unfold Th.hgt at h; omega)
    | succ n ih =>
      intro p h w hw
      cases hn : Th.nxt p with
      | none => rw [Th.way_none hn] at hw; cases hw
      | some iq =>
        obtain ⟨i, q⟩ := iq
        obtain ⟨w1, w2, w3, w4⟩ := Th.way_some hn
        rw [w1] at hw
        rcases List.mem_cons.mp hw with rfl | hw
        · rw [w2]; exact fun z => by cases z
        · exact ih q (by omega) w hw
  exact fun p => go _ p (Nat.le_refl _)
theorem way_len : ∀ (p : Th.Pc), (Th.way p).1.length + 1 ≤ Th.hgt p := by
  have go : ∀ (n : Nat) (p : Th.Pc), Th.hgt p ≤ n → (Th.way p).1.length + 1 ≤ Th.hgt p := by
    intro n
    induction n with
    | zero => intro p h; cases p <;> (unfold Th.hgt at h; omega)
    | succ n ih =>
      intro p h
      cases hn : Th.nxt p with
      | none => rw [Th.way_none hn]; cases p <;> (unfold Th.hgt; simp only [List.length_nil]; omega)
      | some iq =>
        obtain ⟨i, q⟩ := iq
        obtain ⟨w1, w2, w3, w4⟩ := Th.way_some hn
        rw [w1]
        have := ih q (by omega)
        simp only [List.length_cons]
        omega
  exact fun p => go _ p (Nat.le_refl _)
end My
namespace My
open PySem L2 Evl Ask
/-- the keys of a dict -/
def keys (kvs : List (Str × D)) : List Str := kvs.map (·.1)
theorem keys_put (kvs : List (Str × D)) (x : Str) (d : D) : keys (putD kvs x d) = if x ∈ keys kvs then keys kvs else keys kvs ++ [x] := by
  unfold putD keys
  by_cases h : x ∈ kvs.map (·.1)
  · rw [if_pos h]
    have ha : (kvs.any fun kv => decide (kv.1 = x)) = true := by
      obtain ⟨kv, h1, h2⟩ := List.mem_map.mp h
      exact List.any_eq_true.mpr ⟨kv, h1, decide_eq_true h2⟩
    rw [if_pos ha, List.map_map]
    apply List.map_congr_left
    intro kv _
    show (if kv.1 = x then (kv.1, d) else kv).1 = kv.1
    split <;> rfl
  · rw [if_neg h]
    have ha : ¬ (kvs.any fun kv => decide (kv.1 = x)) = true := fun z => by
      obtain ⟨kv, h1, h2⟩ := List.any_eq_true.mp z
      exact h (List.mem_map.mpr ⟨kv, h1, of_decide_eq_true h2⟩)
    rw [if_neg ha, List.map_append]
    rfl
theorem look_keys (kvs : List (Str × D)) (x : Str) : (kvs.lookup x).isSome = true ↔ x ∈ keys kvs := by
  unfold keys
  induction kvs with
  | nil => exact ⟨(fun h => by cases h), (fun h => by cases h)⟩
  | cons kv r ih =>
    obtain ⟨k, d⟩ := kv
    by_cases h : x = k
    · subst h
      rw [List.lookup_cons_self]
      exact ⟨fun _ => List.mem_cons_self, fun _ => rfl⟩
    · have hb : (x == k) = false := beq_eq_false_iff_ne.mpr h
      rw [List.lookup_cons, hb, List.map_cons, List.mem_cons]
      exact ⟨fun z => .inr (ih.mp z), fun z => ih.mpr (z.resolve_left h)⟩
structure KeysIn (L : List Str) (kvs : List (Str × D)) : Prop where
  nd : (keys kvs).Nodup
  sub : ∀ x ∈ keys kvs, x ∈ L
theorem KeysIn.len {L : List Str} {kvs : List (Str × D)} (h : KeysIn L kvs) : kvs.length ≤ L.length := by
  have := h.nd.length_le_of_subset (fun x hx => h.sub x hx)
  unfold keys at this
  rwa [List.length_map] at this
theorem KeysIn.put {L : List Str} {kvs : List (Str × D)} (h : KeysIn L kvs) {x : Str} (d : D) (hx : x ∈ L) : KeysIn L (putD kvs x d) := by
  refine ⟨?_, fun y hy => ?_⟩
  · rw [keys_put]
    by_cases hm : x ∈ keys kvs
    · rw [if_pos hm]; exact h.nd
    · rw [if_neg hm]
      exact List.nodup_append.mpr ⟨h.nd, by simp, fun a ha b hb e => by rw [List.mem_singleton] at hb; subst hb; subst e; exact hm ha⟩
  · rw [keys_put] at hy
    by_cases hm : x ∈ keys kvs
    · rw [if_pos hm] at hy; exact h.sub y hy
    · rw [if_neg hm] at hy
      rcases List.mem_append.mp hy with z | z
      · exact h.sub y z
      · rw [List.mem_singleton.mp z]; exact hx
theorem mem_put (kvs : List (Str × D)) (x : Str) (d : D) (y : Str) : y ∈ keys (putD kvs x d) ↔ y ∈ keys kvs ∨ y = x := by
  rw [keys_put]
  by_cases hm : x ∈ keys kvs
  · rw [if_pos hm]; exact ⟨.inl, fun z => z.elim id fun e => by rw [e]; exact hm⟩
  · rw [if_neg hm, List.mem_append, List.mem_singleton]
theorem keys_put_nd {kvs : List (Str × D)} (h : (keys kvs).Nodup) (x : Str) (d : D) : (keys (putD kvs x d)).Nodup := by
  rw [keys_put]
  by_cases hm : x ∈ keys kvs
  · rw [if_pos hm]; exact h
  · rw [if_neg hm]
    exact List.nodup_append.mpr ⟨h, by simp, fun a ha b hb e => by rw [List.mem_singleton] at hb; subst hb; subst e; exact hm ha⟩
theorem merge_in {L : List Str} : ∀ (more : List (Str × D)) {kvs : List (Str × D)}, KeysIn L kvs → (∀ x ∈ keys more, x ∈ L) → KeysIn L (mergeD kvs more) ∧ ∀ y, y ∈ keys (mergeD kvs more) ↔ y ∈ keys kvs ∨ y ∈ keys more
  | [], kvs, h, _ => ⟨h, fun y => ⟨.inl, fun z => z.elim id fun e => by cases e⟩⟩
  | (x, d) :: more, kvs, h, hl => by
    obtain ⟨h1, h2⟩ := merge_in more (h.put d (hl x List.mem_cons_self)) (fun y hy => hl y (List.mem_cons_of_mem _ hy))
    refine ⟨h1, fun y => ?_⟩
    have := h2 y
    rw [show mergeD kvs ((x, d) :: more) = mergeD (putD kvs x d) more from rfl, this, mem_put, show keys ((x, d) :: more) = x :: keys more from rfl, List.mem_cons, or_assoc]
theorem drop_in {L : List Str} {kvs : List (Str × D)} (h : KeysIn L kvs) (k : Str) : KeysIn L (dropD kvs k) ∧ ∀ y, y ∈ keys (dropD kvs k) ↔ y ∈ keys kvs ∧ y ≠ k := by
  have e : keys (dropD kvs k) = (keys kvs).filter fun y => decide (y ≠ k) := by
    unfold keys dropD
    rw [List.filter_map]
    rfl
  refine ⟨⟨?_, fun x hx => ?_⟩, fun y => ?_⟩
  · rw [e]; exact h.nd.filter _
  · rw [e] at hx; exact h.sub x (List.mem_filter.mp hx).1
  · rw [e, List.mem_filter]; simp
end My
namespace My
open PySem L2 Evl Ask
def nmOf : Th.Pc → List Str
  | .name x => [x]
  | .let_ x _ _ => [x]
  | .hand _ x _ _ => [x]
  | _ => []
def kidsOf : Th.Pc → List Th.Pc
  | .num _ => []
  | .name _ => []
  | .sum a b => [a, b]
  | .let_ _ a b => [a, b]
  | .choose a b c => [a, b, c]
  | .ask _ a => [a]
  | .hand _ _ a b => [a, b]
def putN (kvs : List (Str × D)) (l : List Str) : List (Str × D) := l.foldl (fun k x => putD k x (.bl true)) kvs
theorem names_turn2 (w : Th.Pc) (kvs : List (Str × D)) (zs : List D) (hk : kvs.length ≤ 50000) (hz : zs.length ≤ 40000) (x0 x3 x4 x5 : Option D) : ∃ y4 y5, lb_names_in_1 [x0, some (.dct kvs), some (.lst (zs ++ [toD w])), x3, x4, x5] = .nx [x0, some (.dct (putN kvs (nmOf w))), some (.lst (zs ++ (kidsOf w).map toD)), some (toD w), y4, y5] := by
  have z0 : zs.length ≤ 50000 := by omega
  have z1 : zs.length + 1 ≤ 50000 := by omega
  have z2 : zs.length + 1 + 1 ≤ 50000 := by omega
  have z3 : zs.length + 2 ≤ 50000 := by omega
  cases w with
  | num n =>
    refine ⟨some (.str "number"), some (.int n), ?_⟩
    simp (decide := true) [fnM, seqM, asgM, retM, dropM, op2, cM, cbM, consA, nilA, varM, notV, andV, orV, notB, andB, orB, asB, ifS, ifM, tupM, lstM, callM, slM, someM, noM, itM, rngM, Ask.forM, chM, joinM, negM, augM, nextM, raiseM, R.bind, R.of, toO, bInt, bLen, bType, bAll, bMax, bIsi, D.add, D.sub, D.mul, D.fdiv, D.mod, D.lt, D.le, D.gt, D.ge, D.eq, D.ne, D.is, D.isnt, D.inn, My.ix_tup, My.ix_lst, D.sl, D.items, D.flat, D.isNon, D.tyN, D.tyM, scal, tgN, tg2, isT, kgetM, zipM, jsM, nilJ, consJ, fmtM, retMo, asgMo, dropMo, ifSo, augMo, forMo, newMo, appMo, retOwn, wipeE, qCallOV, consV, nilV, dstM, dispM, insM, plK, seqQ, asgQ, retQ, dropQ, ifQ, ifQe, qN, nH, nV, nVA, noK, noKs, wipeQ, qCons, qNil, qList, Ask.forQ, forGoQ, fnF, fnQf, fnQ2, startQ, toQ, chUp, onL, onD, chO, chPut, putQL, putQD, delQD, rdP, ixP, ixD, ixL, slP, pl0, plF, plK, noErr, nextQ, enM, enumD, kixM, revM, dinM, truM, unpM, unpQ, tg3, fldM, qApp, appF, qExt, extF, qUpd, updF, qPop, popF, pop0F, qMove, qLst, qTup, qDct, q2, qCall, qCallO, ownL, qMeth, qMethL, qMake, fldQ, augQ, dictP, qDict, bTuple, bList, lcM, lcGo, yesM, ixN, lb_names_in_1, lb_names_in_0, toD, atI_0, fk_num, cutD, HT.sIx, zipM, zipD, isT, nmOf, kidsOf, putN, hk, z0, z1, z2, z3]
  | name n =>
    refine ⟨some (.str "name"), some (.str n), ?_⟩
    simp (decide := true) [fnM, seqM, asgM, retM, dropM, op2, cM, cbM, consA, nilA, varM, notV, andV, orV, notB, andB, orB, asB, ifS, ifM, tupM, lstM, callM, slM, someM, noM, itM, rngM, Ask.forM, chM, joinM, negM, augM, nextM, raiseM, R.bind, R.of, toO, bInt, bLen, bType, bAll, bMax, bIsi, D.add, D.sub, D.mul, D.fdiv, D.mod, D.lt, D.le, D.gt, D.ge, D.eq, D.ne, D.is, D.isnt, D.inn, My.ix_tup, My.ix_lst, D.sl, D.items, D.flat, D.isNon, D.tyN, D.tyM, scal, tgN, tg2, isT, kgetM, zipM, jsM, nilJ, consJ, fmtM, retMo, asgMo, dropMo, ifSo, augMo, forMo, newMo, appMo, retOwn, wipeE, qCallOV, consV, nilV, dstM, dispM, insM, plK, seqQ, asgQ, retQ, dropQ, ifQ, ifQe, qN, nH, nV, nVA, noK, noKs, wipeQ, qCons, qNil, qList, Ask.forQ, forGoQ, fnF, fnQf, fnQ2, startQ, toQ, chUp, onL, onD, chO, chPut, putQL, putQD, delQD, rdP, ixP, ixD, ixL, slP, pl0, plF, plK, noErr, nextQ, enM, enumD, kixM, revM, dinM, truM, unpM, unpQ, tg3, fldM, qApp, appF, qExt, extF, qUpd, updF, qPop, popF, pop0F, qMove, qLst, qTup, qDct, q2, qCall, qCallO, ownL, qMeth, qMethL, qMake, fldQ, augQ, dictP, qDict, bTuple, bList, lcM, lcGo, yesM, ixN, lb_names_in_1, lb_names_in_0, toD, atI_0, fk_name, cutD, HT.sIx, zipM, zipD, isT, nmOf, kidsOf, putN, hk, z0, z1, z2, z3]
  | sum a b =>
    refine ⟨some (.str "piece"), some (toD b), ?_⟩
    simp (decide := true) [fnM, seqM, asgM, retM, dropM, op2, cM, cbM, consA, nilA, varM, notV, andV, orV, notB, andB, orB, asB, ifS, ifM, tupM, lstM, callM, slM, someM, noM, itM, rngM, Ask.forM, chM, joinM, negM, augM, nextM, raiseM, R.bind, R.of, toO, bInt, bLen, bType, bAll, bMax, bIsi, D.add, D.sub, D.mul, D.fdiv, D.mod, D.lt, D.le, D.gt, D.ge, D.eq, D.ne, D.is, D.isnt, D.inn, My.ix_tup, My.ix_lst, D.sl, D.items, D.flat, D.isNon, D.tyN, D.tyM, scal, tgN, tg2, isT, kgetM, zipM, jsM, nilJ, consJ, fmtM, retMo, asgMo, dropMo, ifSo, augMo, forMo, newMo, appMo, retOwn, wipeE, qCallOV, consV, nilV, dstM, dispM, insM, plK, seqQ, asgQ, retQ, dropQ, ifQ, ifQe, qN, nH, nV, nVA, noK, noKs, wipeQ, qCons, qNil, qList, Ask.forQ, forGoQ, fnF, fnQf, fnQ2, startQ, toQ, chUp, onL, onD, chO, chPut, putQL, putQD, delQD, rdP, ixP, ixD, ixL, slP, pl0, plF, plK, noErr, nextQ, enM, enumD, kixM, revM, dinM, truM, unpM, unpQ, tg3, fldM, qApp, appF, qExt, extF, qUpd, updF, qPop, popF, pop0F, qMove, qLst, qTup, qDct, q2, qCall, qCallO, ownL, qMeth, qMethL, qMake, fldQ, augQ, dictP, qDict, bTuple, bList, lcM, lcGo, yesM, ixN, lb_names_in_1, lb_names_in_0, toD, atI_0, fk_sum, cutD, HT.sIx, zipM, zipD, isT, nmOf, kidsOf, putN, hk, z0, z1, z2, z3]
  | let_ x a b =>
    refine ⟨some (.str "piece"), some (toD b), ?_⟩
    simp (decide := true) [fnM, seqM, asgM, retM, dropM, op2, cM, cbM, consA, nilA, varM, notV, andV, orV, notB, andB, orB, asB, ifS, ifM, tupM, lstM, callM, slM, someM, noM, itM, rngM, Ask.forM, chM, joinM, negM, augM, nextM, raiseM, R.bind, R.of, toO, bInt, bLen, bType, bAll, bMax, bIsi, D.add, D.sub, D.mul, D.fdiv, D.mod, D.lt, D.le, D.gt, D.ge, D.eq, D.ne, D.is, D.isnt, D.inn, My.ix_tup, My.ix_lst, D.sl, D.items, D.flat, D.isNon, D.tyN, D.tyM, scal, tgN, tg2, isT, kgetM, zipM, jsM, nilJ, consJ, fmtM, retMo, asgMo, dropMo, ifSo, augMo, forMo, newMo, appMo, retOwn, wipeE, qCallOV, consV, nilV, dstM, dispM, insM, plK, seqQ, asgQ, retQ, dropQ, ifQ, ifQe, qN, nH, nV, nVA, noK, noKs, wipeQ, qCons, qNil, qList, Ask.forQ, forGoQ, fnF, fnQf, fnQ2, startQ, toQ, chUp, onL, onD, chO, chPut, putQL, putQD, delQD, rdP, ixP, ixD, ixL, slP, pl0, plF, plK, noErr, nextQ, enM, enumD, kixM, revM, dinM, truM, unpM, unpQ, tg3, fldM, qApp, appF, qExt, extF, qUpd, updF, qPop, popF, pop0F, qMove, qLst, qTup, qDct, q2, qCall, qCallO, ownL, qMeth, qMethL, qMake, fldQ, augQ, dictP, qDict, bTuple, bList, lcM, lcGo, yesM, ixN, lb_names_in_1, lb_names_in_0, toD, atI_0, fk_let, cutD, HT.sIx, zipM, zipD, isT, nmOf, kidsOf, putN, hk, z0, z1, z2, z3]
  | choose a b c =>
    refine ⟨some (.str "piece"), some (toD c), ?_⟩
    simp (decide := true) [fnM, seqM, asgM, retM, dropM, op2, cM, cbM, consA, nilA, varM, notV, andV, orV, notB, andB, orB, asB, ifS, ifM, tupM, lstM, callM, slM, someM, noM, itM, rngM, Ask.forM, chM, joinM, negM, augM, nextM, raiseM, R.bind, R.of, toO, bInt, bLen, bType, bAll, bMax, bIsi, D.add, D.sub, D.mul, D.fdiv, D.mod, D.lt, D.le, D.gt, D.ge, D.eq, D.ne, D.is, D.isnt, D.inn, My.ix_tup, My.ix_lst, D.sl, D.items, D.flat, D.isNon, D.tyN, D.tyM, scal, tgN, tg2, isT, kgetM, zipM, jsM, nilJ, consJ, fmtM, retMo, asgMo, dropMo, ifSo, augMo, forMo, newMo, appMo, retOwn, wipeE, qCallOV, consV, nilV, dstM, dispM, insM, plK, seqQ, asgQ, retQ, dropQ, ifQ, ifQe, qN, nH, nV, nVA, noK, noKs, wipeQ, qCons, qNil, qList, Ask.forQ, forGoQ, fnF, fnQf, fnQ2, startQ, toQ, chUp, onL, onD, chO, chPut, putQL, putQD, delQD, rdP, ixP, ixD, ixL, slP, pl0, plF, plK, noErr, nextQ, enM, enumD, kixM, revM, dinM, truM, unpM, unpQ, tg3, fldM, qApp, appF, qExt, extF, qUpd, updF, qPop, popF, pop0F, qMove, qLst, qTup, qDct, q2, qCall, qCallO, ownL, qMeth, qMethL, qMake, fldQ, augQ, dictP, qDict, bTuple, bList, lcM, lcGo, yesM, ixN, lb_names_in_1, lb_names_in_0, toD, atI_0, fk_choose, cutD, HT.sIx, zipM, zipD, isT, nmOf, kidsOf, putN, hk, z0, z1, z2, z3]
  | ask k a =>
    refine ⟨some (.str "piece"), some (toD a), ?_⟩
    simp (decide := true) [fnM, seqM, asgM, retM, dropM, op2, cM, cbM, consA, nilA, varM, notV, andV, orV, notB, andB, orB, asB, ifS, ifM, tupM, lstM, callM, slM, someM, noM, itM, rngM, Ask.forM, chM, joinM, negM, augM, nextM, raiseM, R.bind, R.of, toO, bInt, bLen, bType, bAll, bMax, bIsi, D.add, D.sub, D.mul, D.fdiv, D.mod, D.lt, D.le, D.gt, D.ge, D.eq, D.ne, D.is, D.isnt, D.inn, My.ix_tup, My.ix_lst, D.sl, D.items, D.flat, D.isNon, D.tyN, D.tyM, scal, tgN, tg2, isT, kgetM, zipM, jsM, nilJ, consJ, fmtM, retMo, asgMo, dropMo, ifSo, augMo, forMo, newMo, appMo, retOwn, wipeE, qCallOV, consV, nilV, dstM, dispM, insM, plK, seqQ, asgQ, retQ, dropQ, ifQ, ifQe, qN, nH, nV, nVA, noK, noKs, wipeQ, qCons, qNil, qList, Ask.forQ, forGoQ, fnF, fnQf, fnQ2, startQ, toQ, chUp, onL, onD, chO, chPut, putQL, putQD, delQD, rdP, ixP, ixD, ixL, slP, pl0, plF, plK, noErr, nextQ, enM, enumD, kixM, revM, dinM, truM, unpM, unpQ, tg3, fldM, qApp, appF, qExt, extF, qUpd, updF, qPop, popF, pop0F, qMove, qLst, qTup, qDct, q2, qCall, qCallO, ownL, qMeth, qMethL, qMake, fldQ, augQ, dictP, qDict, bTuple, bList, lcM, lcGo, yesM, ixN, lb_names_in_1, lb_names_in_0, toD, atI_0, fk_ask, cutD, HT.sIx, zipM, zipD, isT, nmOf, kidsOf, putN, hk, z0, z1, z2, z3]
  | hand k x a b =>
    refine ⟨some (.str "piece"), some (toD b), ?_⟩
    simp (decide := true) [fnM, seqM, asgM, retM, dropM, op2, cM, cbM, consA, nilA, varM, notV, andV, orV, notB, andB, orB, asB, ifS, ifM, tupM, lstM, callM, slM, someM, noM, itM, rngM, Ask.forM, chM, joinM, negM, augM, nextM, raiseM, R.bind, R.of, toO, bInt, bLen, bType, bAll, bMax, bIsi, D.add, D.sub, D.mul, D.fdiv, D.mod, D.lt, D.le, D.gt, D.ge, D.eq, D.ne, D.is, D.isnt, D.inn, My.ix_tup, My.ix_lst, D.sl, D.items, D.flat, D.isNon, D.tyN, D.tyM, scal, tgN, tg2, isT, kgetM, zipM, jsM, nilJ, consJ, fmtM, retMo, asgMo, dropMo, ifSo, augMo, forMo, newMo, appMo, retOwn, wipeE, qCallOV, consV, nilV, dstM, dispM, insM, plK, seqQ, asgQ, retQ, dropQ, ifQ, ifQe, qN, nH, nV, nVA, noK, noKs, wipeQ, qCons, qNil, qList, Ask.forQ, forGoQ, fnF, fnQf, fnQ2, startQ, toQ, chUp, onL, onD, chO, chPut, putQL, putQD, delQD, rdP, ixP, ixD, ixL, slP, pl0, plF, plK, noErr, nextQ, enM, enumD, kixM, revM, dinM, truM, unpM, unpQ, tg3, fldM, qApp, appF, qExt, extF, qUpd, updF, qPop, popF, pop0F, qMove, qLst, qTup, qDct, q2, qCall, qCallO, ownL, qMeth, qMethL, qMake, fldQ, augQ, dictP, qDict, bTuple, bList, lcM, lcGo, yesM, ixN, lb_names_in_1, lb_names_in_0, toD, atI_0, fk_hand, cutD, HT.sIx, zipM, zipD, isT, nmOf, kidsOf, putN, hk, z0, z1, z2, z3]
theorem putN_in {L : List Str} : ∀ (l : List Str) {kvs : List (Str × D)}, KeysIn L kvs → (∀ x ∈ l, x ∈ L) → KeysIn L (putN kvs l) ∧ ∀ y, y ∈ keys (putN kvs l) ↔ y ∈ keys kvs ∨ y ∈ l
  | [], kvs, h, _ => ⟨h, fun y => ⟨.inl, fun z => z.elim id fun e => by cases e⟩⟩
  | x :: l, kvs, h, hl => by
    obtain ⟨h1, h2⟩ := putN_in l (h.put (.bl true) (hl x List.mem_cons_self)) (fun y hy => hl y (List.mem_cons_of_mem _ hy))
    refine ⟨h1, fun y => ?_⟩
    have := h2 y
    rw [show putN kvs (x :: l) = putN (putD kvs x (.bl true)) l from rfl, this, mem_put, List.mem_cons, or_assoc]
theorem names_kids (p : Th.Pc) (y : Str) : y ∈ Th.namesIn p ↔ y ∈ nmOf p ∨ ∃ q ∈ kidsOf p, y ∈ Th.namesIn q := by
  cases p <;> simp [Th.namesIn, nmOf, kidsOf]
def szL (st : List Th.Pc) : Nat := (st.map Th.size).sum
/-- how high a row can grow: the top first -/
def nd : List Th.Pc → Nat
  | [] => 0
  | w :: r => max (r.length + 1 + 2 * Th.hgt w) (nd r)
theorem nd_len : ∀ st : List Th.Pc, st.length ≤ nd st
  | [] => Nat.le_refl _
  | w :: r => by unfold nd; rw [List.length_cons]; omega
theorem nd_kids (w : Th.Pc) (r : List Th.Pc) : nd ((kidsOf w).reverse ++ r) ≤ nd (w :: r) := by
  cases w <;> (simp [kidsOf, nd, Th.hgt]; try omega)
theorem szL_kids (w : Th.Pc) (r : List Th.Pc) : szL ((kidsOf w).reverse ++ r) < szL (w :: r) := by
  cases w <;> (simp [kidsOf, szL, Th.size]; try omega)
theorem names_go {L : List Str} (hL : L.length ≤ 50000) (x0 : Option D) : ∀ (n : Nat) (st : List Th.Pc) (kvs : List (Str × D)) (x3 x4 x5 : Option D), szL st < n → nd st ≤ 40000 → KeysIn L kvs → (∀ q ∈ st, ∀ y ∈ Th.namesIn q, y ∈ L) →
    ∃ kvs' y3 y4 y5, whGoQ lt_names_in_2 lb_names_in_1 n [x0, some (.dct kvs), some (.lst (st.reverse.map toD)), x3, x4, x5] = .nx [x0, some (.dct kvs'), some (.lst []), y3, y4, y5] ∧ KeysIn L kvs' ∧ ∀ y, y ∈ keys kvs' ↔ y ∈ keys kvs ∨ ∃ q ∈ st, y ∈ Th.namesIn q
  | 0, st, kvs, x3, x4, x5, h, _, _, _ => absurd h (by omega)
  | n + 1, [], kvs, x3, x4, x5, _, _, hk, _ => by
    refine ⟨kvs, x3, x4, x5, ?_, hk, fun y => ⟨.inl, fun z => z.elim id fun ⟨q, hq, _⟩ => by cases hq⟩⟩
    simp (decide := true) [fnM, seqM, asgM, retM, dropM, op2, cM, cbM, consA, nilA, varM, notV, andV, orV, notB, andB, orB, asB, ifS, ifM, tupM, lstM, callM, slM, someM, noM, itM, rngM, Ask.forM, chM, joinM, negM, augM, nextM, raiseM, R.bind, R.of, toO, bInt, bLen, bType, bAll, bMax, bIsi, D.add, D.sub, D.mul, D.fdiv, D.mod, D.lt, D.le, D.gt, D.ge, D.eq, D.ne, D.is, D.isnt, D.inn, My.ix_tup, My.ix_lst, D.sl, D.items, D.flat, D.isNon, D.tyN, D.tyM, scal, tgN, tg2, isT, kgetM, zipM, jsM, nilJ, consJ, fmtM, retMo, asgMo, dropMo, ifSo, augMo, forMo, newMo, appMo, retOwn, wipeE, qCallOV, consV, nilV, dstM, dispM, insM, plK, seqQ, asgQ, retQ, dropQ, ifQ, ifQe, qN, nH, nV, nVA, noK, noKs, wipeQ, qCons, qNil, qList, Ask.forQ, forGoQ, fnF, fnQf, fnQ2, startQ, toQ, chUp, onL, onD, chO, chPut, putQL, putQD, delQD, rdP, ixP, ixD, ixL, slP, pl0, plF, plK, noErr, nextQ, enM, enumD, kixM, revM, dinM, truM, unpM, unpQ, tg3, fldM, qApp, appF, qExt, extF, qUpd, updF, qPop, popF, pop0F, qMove, qLst, qTup, qDct, q2, qCall, qCallO, ownL, qMeth, qMethL, qMake, fldQ, augQ, dictP, qDict, bTuple, bList, lcM, lcGo, yesM, ixN, whGoQ, lt_names_in_2]
  | n + 1, w :: r, kvs, x3, x4, x5, h, hn, hk, hs => by
    have hr : r.length ≤ 40000 := by have := nd_len (w :: r); rw [List.length_cons] at this; omega
    obtain ⟨y4, y5, ht⟩ := names_turn2 w kvs (r.reverse.map toD) (Nat.le_trans hk.len hL) (by rw [List.length_map, List.length_reverse]; exact hr) x0 x3 x4 x5
    obtain ⟨k1, k2⟩ := putN_in (nmOf w) hk (fun x hx => hs w List.mem_cons_self x ((names_kids w x).mpr (.inl hx)))
    have hsz := szL_kids w r
    have hnd := nd_kids w r
    obtain ⟨kvs', z3, z4, z5, g1, g2, g3⟩ := names_go hL x0 n ((kidsOf w).reverse ++ r) (putN kvs (nmOf w)) (some (toD w)) y4 y5 (by omega) (by omega) k1 (fun q hq y hy => by
      rcases List.mem_append.mp hq with z | z
      · exact hs w List.mem_cons_self y ((names_kids w y).mpr (.inr ⟨q, List.mem_reverse.mp z, hy⟩))
      · exact hs q (List.mem_cons_of_mem _ z) y hy)
    refine ⟨kvs', z3, z4, z5, ?_, g2, fun y => ?_⟩
    · have e : ((w :: r).reverse.map toD) = r.reverse.map toD ++ [toD w] := by rw [List.reverse_cons, List.map_append]; rfl
      have e2 : (((kidsOf w).reverse ++ r).reverse.map toD) = r.reverse.map toD ++ (kidsOf w).map toD := by rw [List.reverse_append, List.reverse_reverse, List.map_append]
      rw [e2] at g1
      rw [e]
      have hT : lt_names_in_2 [x0, some (.dct kvs), some (.lst (r.reverse.map toD ++ [toD w])), x3, x4, x5] = .ok true := by simp (decide := true) [fnM, seqM, asgM, retM, dropM, op2, cM, cbM, consA, nilA, varM, notV, andV, orV, notB, andB, orB, asB, ifS, ifM, tupM, lstM, callM, slM, someM, noM, itM, rngM, Ask.forM, chM, joinM, negM, augM, nextM, raiseM, R.bind, R.of, toO, bInt, bLen, bType, bAll, bMax, bIsi, D.add, D.sub, D.mul, D.fdiv, D.mod, D.lt, D.le, D.gt, D.ge, D.eq, D.ne, D.is, D.isnt, D.inn, My.ix_tup, My.ix_lst, D.sl, D.items, D.flat, D.isNon, D.tyN, D.tyM, scal, tgN, tg2, isT, kgetM, zipM, jsM, nilJ, consJ, fmtM, retMo, asgMo, dropMo, ifSo, augMo, forMo, newMo, appMo, retOwn, wipeE, qCallOV, consV, nilV, dstM, dispM, insM, plK, seqQ, asgQ, retQ, dropQ, ifQ, ifQe, qN, nH, nV, nVA, noK, noKs, wipeQ, qCons, qNil, qList, Ask.forQ, forGoQ, fnF, fnQf, fnQ2, startQ, toQ, chUp, onL, onD, chO, chPut, putQL, putQD, delQD, rdP, ixP, ixD, ixL, slP, pl0, plF, plK, noErr, nextQ, enM, enumD, kixM, revM, dinM, truM, unpM, unpQ, tg3, fldM, qApp, appF, qExt, extF, qUpd, updF, qPop, popF, pop0F, qMove, qLst, qTup, qDct, q2, qCall, qCallO, ownL, qMeth, qMethL, qMake, fldQ, augQ, dictP, qDict, bTuple, bList, lcM, lcGo, yesM, ixN, lt_names_in_2]
      unfold whGoQ
      rw [hT]
      simp only [toQ, if_true]
      rw [ht]
      exact g1
    · rw [g3, k2]
      constructor
      · rintro ((z | z) | ⟨q, hq, hy⟩)
        · exact .inl z
        · exact .inr ⟨w, List.mem_cons_self, (names_kids w y).mpr (.inl z)⟩
        · rcases List.mem_append.mp hq with u | u
          · exact .inr ⟨w, List.mem_cons_self, (names_kids w y).mpr (.inr ⟨q, List.mem_reverse.mp u, hy⟩)⟩
          · exact .inr ⟨q, List.mem_cons_of_mem _ u, hy⟩
      · rintro (z | ⟨q, hq, hy⟩)
        · exact .inl (.inl z)
        · rcases List.mem_cons.mp hq with rfl | u
          · rcases (names_kids _ y).mp hy with v | ⟨q2, hq2, hy2⟩
            · exact .inl (.inr v)
            · exact .inr ⟨q2, List.mem_append.mpr (.inl (List.mem_reverse.mpr hq2)), hy2⟩
          · exact .inr ⟨q, List.mem_append.mpr (.inr u), hy⟩
theorem names_in_p {L : List Str} (hL : L.length ≤ 50000) (p : Th.Pc) (hp : Th.hgt p ≤ 900) (hs : ∀ y ∈ Th.namesIn p, y ∈ L) : ∃ kvs, m_names_in [toD p] = .ok (.dct kvs) ∧ ∀ y, y ∈ keys kvs ↔ y ∈ Th.namesIn p := by
  obtain ⟨kvs', y3, y4, y5, g1, g2, g3⟩ := names_go hL (some (toD p)) (szL [p] + 1) [p] [] none none none (by omega) (by unfold nd nd; simp only [List.length_nil]; omega) ⟨List.nodup_nil, (fun x hx => by cases hx)⟩ (fun q hq y hy => by rw [List.mem_singleton.mp hq] at hy; exact hs y hy)
  have hw := whQ_is g1 (fun z => by cases z)
  refine ⟨kvs', ?_, fun y => ?_⟩
  · have e : ([p].reverse.map toD) = [toD p] := rfl
    rw [e] at hw
    simp (decide := true) [fnM, seqM, asgM, retM, dropM, op2, cM, cbM, consA, nilA, varM, notV, andV, orV, notB, andB, orB, asB, ifS, ifM, tupM, lstM, callM, slM, someM, noM, itM, rngM, Ask.forM, chM, joinM, negM, augM, nextM, raiseM, R.bind, R.of, toO, bInt, bLen, bType, bAll, bMax, bIsi, D.add, D.sub, D.mul, D.fdiv, D.mod, D.lt, D.le, D.gt, D.ge, D.eq, D.ne, D.is, D.isnt, D.inn, My.ix_tup, My.ix_lst, D.sl, D.items, D.flat, D.isNon, D.tyN, D.tyM, scal, tgN, tg2, isT, kgetM, zipM, jsM, nilJ, consJ, fmtM, retMo, asgMo, dropMo, ifSo, augMo, forMo, newMo, appMo, retOwn, wipeE, qCallOV, consV, nilV, dstM, dispM, insM, plK, seqQ, asgQ, retQ, dropQ, ifQ, ifQe, qN, nH, nV, nVA, noK, noKs, wipeQ, qCons, qNil, qList, Ask.forQ, forGoQ, fnF, fnQf, fnQ2, startQ, toQ, chUp, onL, onD, chO, chPut, putQL, putQD, delQD, rdP, ixP, ixD, ixL, slP, pl0, plF, plK, noErr, nextQ, enM, enumD, kixM, revM, dinM, truM, unpM, unpQ, tg3, fldM, qApp, appF, qExt, extF, qUpd, updF, qPop, popF, pop0F, qMove, qLst, qTup, qDct, q2, qCall, qCallO, ownL, qMeth, qMethL, qMake, fldQ, augQ, dictP, qDict, bTuple, bList, lcM, lcGo, yesM, ixN, m_names_in, mf_names_in, b_names_in, hw]
  · rw [g3]
    constructor
    · rintro (z | ⟨q, hq, hy⟩)
      · cases z
      · rw [List.mem_singleton.mp hq] at hy; exact hy
    · intro h; exact .inr ⟨p, List.mem_singleton.mpr rfl, h⟩
end My
namespace My
open PySem L2 Evl Ask
theorem log_ok2 (i : Nat) (h : i ≤ 100000) : ((i : Int)).natAbs.log2 < 1920 := by
  by_cases h0 : i = 0
  · subst h0; decide
  · show i.log2 < 1920
    have h2 : i.log2 < 17 := (Nat.log2_lt h0).mpr (by have : (2 : Nat) ^ 17 = 131072 := rfl; omega)
    omega
theorem bStr_fig (i : Nat) (h : i ≤ 100000) : bStr [.int (i : Int)] = some (.str (Th.figs i)) := by
  show (if (i : Int).natAbs.log2 < 1920 then some (D.str (toString (i : Int))) else none) = _
  rw [if_pos (log_ok2 i h)]; rfl
theorem first_spec {fg : Nat → Str} (inj : ∀ i j, fg i = fg j → i = j) (l : List Str) : fg (Th.firstNat fg l) ∉ l ∧ ∀ j, j < Th.firstNat fg l → fg j ∈ l := by
  refine ⟨Th.firstNat_is inj l, fun j hj => ?_⟩
  unfold Th.firstNat at hj
  cases hf : (List.range (l.length + 1)).find? fun i => !l.contains (fg i) with
  | none => rw [hf] at hj; exact absurd hj (by simp)
  | some i =>
    rw [hf] at hj
    have h := (List.find?_range_eq_some.mp hf).2.2 j hj
    simpa using h
theorem first_le {fg : Nat → Str} (inj : ∀ i j, fg i = fg j → i = j) {l L : List Str} (hs : ∀ y ∈ l, y ∈ L) : Th.firstNat fg l ≤ L.length := by
  have h := (first_spec inj l).2
  have nd : ((List.range (Th.firstNat fg l)).map fg).Nodup := List.Pairwise.map fg (fun i j hij z => hij (inj i j z)) List.nodup_range
  have := nd.length_le_of_subset (l₂ := L) fun z hz => by
    obtain ⟨i, hi, rfl⟩ := List.mem_map.mp hz
    exact hs _ (h i (List.mem_range.mp hi))
  rwa [List.length_map, List.length_range] at this
theorem free_go (x0 : Option D) (kvs : List (Str × D)) (F : Nat) (hF : F ≤ 100000) (h1 : Th.figs F ∉ keys kvs) (h2 : ∀ j, j < F → Th.figs j ∈ keys kvs) : ∀ (n i : Nat), i + n = F → whGo lt_free_name_1 lb_free_name_0 (n + 1) [x0, some (.dct kvs), some (.int (i : Int))] = .nx [x0, some (.dct kvs), some (.int (F : Int))]
  | 0, i, h => by
    have e : i = F := by omega
    subst e
    have hl : (kvs.lookup (Th.figs i)).isSome = false := by
      cases hx : (kvs.lookup (Th.figs i)).isSome with
      | false => rfl
      | true => exact absurd ((look_keys kvs _).mp hx) h1
    have ht : lt_free_name_1 [x0, some (.dct kvs), some (.int (i : Int))] = .ok false := by
      have hb := bStr_fig i hF
      simp only [lt_free_name_1, asB, dinM, cbM, consA, nilA, varM, R.bind, R.of, List.getElem?_cons_zero, List.getElem?_cons_succ, hb, hl, Bool.false_eq_true, if_false]
    unfold whGo
    rw [ht]
    rfl
  | n + 1, i, h => by
    have ih := free_go x0 kvs F hF h1 h2 n (i + 1) (by omega)
    have hl : (kvs.lookup (Th.figs i)).isSome = true := (look_keys kvs _).mpr (h2 i (by omega))
    have ht : lt_free_name_1 [x0, some (.dct kvs), some (.int (i : Int))] = .ok true := by
      have hb := bStr_fig i (by omega)
      simp only [lt_free_name_1, asB, dinM, cbM, consA, nilA, varM, R.bind, R.of, List.getElem?_cons_zero, List.getElem?_cons_succ, hb, hl, Bool.false_eq_true, if_false]
    have hb : lb_free_name_0 [x0, some (.dct kvs), some (.int (i : Int))] = .nx [x0, some (.dct kvs), some (.int ((i + 1 : Nat) : Int))] := by
      simp only [lb_free_name_0, augM, cM, toO, List.getElem?_cons_zero, List.getElem?_cons_succ, R.bind, List.set_cons_zero, List.set_cons_succ, R.of]
      rfl
    rw [whGo, ht]
    simp only [toO, if_true]
    rw [hb]
    exact ih
theorem free_ok {L : List Str} (hL : L.length ≤ 50000) (p : Th.Pc) (hp : Th.hgt p ≤ 900) (hs : ∀ y ∈ Th.namesIn p, y ∈ L) : m_free_name [toD p] = .ok (.str (Th.fr Th.figs p)) := by
  obtain ⟨kvs, h1, h2⟩ := names_in_p hL p hp hs
  obtain ⟨f1, f2⟩ := first_spec Th.figs_inj (Th.namesIn p)
  have f3 := first_le Th.figs_inj hs
  unfold Th.fr
  generalize Th.firstNat Th.figs (Th.namesIn p) = F at f1 f2 f3
  have hg := free_go (some (toD p)) kvs F (by omega) (fun z => f1 ((h2 _).mp z)) (fun j hj => (h2 _).mpr (f2 j hj)) F 0 (by omega)
  have hw := whM_is hg (fun z => by cases z)
  have hb := bStr_fig F (by omega)
  have e0 : ((0 : Nat) : Int) = 0 := rfl
  rw [e0] at hw
  generalize ((F : Nat) : Int) = z at hw hb
  simp (decide := true) [fnM, seqM, asgM, retM, dropM, op2, cM, cbM, consA, nilA, varM, notV, andV, orV, notB, andB, orB, asB, ifS, ifM, tupM, lstM, callM, slM, someM, noM, itM, rngM, Ask.forM, chM, joinM, negM, augM, nextM, raiseM, R.bind, R.of, toO, bInt, bLen, bType, bAll, bMax, bIsi, D.add, D.sub, D.mul, D.fdiv, D.mod, D.lt, D.le, D.gt, D.ge, D.eq, D.ne, D.is, D.isnt, D.inn, My.ix_tup, My.ix_lst, D.sl, D.items, D.flat, D.isNon, D.tyN, D.tyM, scal, tgN, tg2, isT, kgetM, zipM, jsM, nilJ, consJ, fmtM, retMo, asgMo, dropMo, ifSo, augMo, forMo, newMo, appMo, retOwn, wipeE, qCallOV, consV, nilV, dstM, dispM, insM, plK, seqQ, asgQ, retQ, dropQ, ifQ, ifQe, qN, nH, nV, nVA, noK, noKs, wipeQ, qCons, qNil, qList, Ask.forQ, forGoQ, fnF, fnQf, fnQ2, startQ, toQ, chUp, onL, onD, chO, chPut, putQL, putQD, delQD, rdP, ixP, ixD, ixL, slP, pl0, plF, plK, noErr, nextQ, enM, enumD, kixM, revM, dinM, truM, unpM, unpQ, tg3, fldM, qApp, appF, qExt, extF, qUpd, updF, qPop, popF, pop0F, qMove, qLst, qTup, qDct, q2, qCall, qCallO, ownL, qMeth, qMethL, qMake, fldQ, augQ, dictP, qDict, bTuple, bList, lcM, lcGo, yesM, ixN, m_free_name, b_free_name, h1, hw, hb]
theorem fail_ne (k : Str) : (k = ("fail" : Str)) ∨ ¬ (k = ("fail" : Str)) := Classical.em _
/-- what a hand answers -/
theorem hand_ok {L : List Str} (hL : L.length ≤ 50000) (k k' x : Str) (a b : Th.Pc) (n : Int) (r : List (Th.Pc × Nat)) (hp : Th.hgt (.hand k' x a b) ≤ 60) (hs : ∀ y ∈ Th.namesIn (.hand k' x a b), y ∈ L) (hr : ∀ w ∈ r, Th.kid w.1 w.2 ≠ none) :
    m_answered_by_hand [.lst (arD ((.hand k' x a b, 4) :: r)), toD (.ask k (.num n))] = .ok (toD (Th.byHand Th.figs k n ((.hand k' x a b, 4) :: r))) := by
  have hh : Th.hgt a ≤ 60 := by simp only [Th.hgt] at hp; omega
  have h1 := put_plain 60 a x n hh
  have h2 := free_ok hL (.hand k' x a b) (by omega) hs
  have h3 := put_back_ok ((.hand k' x a b, 4) :: r) (.name (Th.fr Th.figs (.hand k' x a b))) (fun w hw => by
    rcases List.mem_cons.mp hw with rfl | z
    · exact fun z => by cases z
    · exact hr w z)
  have e0 : arD ((.hand k' x a b, 4) :: r) = .tup [toD (.hand k' x a b), .int 4] :: arD r := rfl
  generalize hq : Th.back ((.hand k' x a b, 4) :: r) (.name (Th.fr Th.figs (.hand k' x a b))) = q at h3
  simp only [Th.byHand, hq]
  generalize Th.fr Th.figs (.hand k' x a b) = f at h2 h3
  rw [e0] at h3 ⊢
  generalize arD r = rs at h3
  generalize Th.putIn x n a = u at h1
  by_cases hk : k = ("fail" : Str)
  · subst hk
    rw [if_pos rfl]
    simp only [toD] at h2 h3
    simp (decide := true) [fnM, seqM, asgM, retM, dropM, op2, cM, cbM, consA, nilA, varM, notV, andV, orV, notB, andB, orB, asB, ifS, ifM, tupM, lstM, callM, slM, someM, noM, itM, rngM, Ask.forM, chM, joinM, negM, augM, nextM, raiseM, R.bind, R.of, toO, bInt, bLen, bType, bAll, bMax, bIsi, D.add, D.sub, D.mul, D.fdiv, D.mod, D.lt, D.le, D.gt, D.ge, D.eq, D.ne, D.is, D.isnt, D.inn, My.ix_tup, My.ix_lst, D.sl, D.items, D.flat, D.isNon, D.tyN, D.tyM, scal, tgN, tg2, isT, kgetM, zipM, jsM, nilJ, consJ, fmtM, retMo, asgMo, dropMo, ifSo, augMo, forMo, newMo, appMo, retOwn, wipeE, qCallOV, consV, nilV, dstM, dispM, insM, plK, seqQ, asgQ, retQ, dropQ, ifQ, ifQe, qN, nH, nV, nVA, noK, noKs, wipeQ, qCons, qNil, qList, Ask.forQ, forGoQ, fnF, fnQf, fnQ2, startQ, toQ, chUp, onL, onD, chO, chPut, putQL, putQD, delQD, rdP, ixP, ixD, ixL, slP, pl0, plF, plK, noErr, nextQ, enM, enumD, kixM, revM, dinM, truM, unpM, unpQ, tg3, fldM, qApp, appF, qExt, extF, qUpd, updF, qPop, popF, pop0F, qMove, qLst, qTup, qDct, q2, qCall, qCallO, ownL, qMeth, qMethL, qMake, fldQ, augQ, dictP, qDict, bTuple, bList, lcM, lcGo, yesM, ixN, m_answered_by_hand, b_answered_by_hand, toD, atI_0, atI_1, atI_2, atI_3, h1]
  · rw [if_neg hk]
    simp only [toD] at h2 h3
    simp (decide := true) [fnM, seqM, asgM, retM, dropM, op2, cM, cbM, consA, nilA, varM, notV, andV, orV, notB, andB, orB, asB, ifS, ifM, tupM, lstM, callM, slM, someM, noM, itM, rngM, Ask.forM, chM, joinM, negM, augM, nextM, raiseM, R.bind, R.of, toO, bInt, bLen, bType, bAll, bMax, bIsi, D.add, D.sub, D.mul, D.fdiv, D.mod, D.lt, D.le, D.gt, D.ge, D.eq, D.ne, D.is, D.isnt, D.inn, My.ix_tup, My.ix_lst, D.sl, D.items, D.flat, D.isNon, D.tyN, D.tyM, scal, tgN, tg2, isT, kgetM, zipM, jsM, nilJ, consJ, fmtM, retMo, asgMo, dropMo, ifSo, augMo, forMo, newMo, appMo, retOwn, wipeE, qCallOV, consV, nilV, dstM, dispM, insM, plK, seqQ, asgQ, retQ, dropQ, ifQ, ifQe, qN, nH, nV, nVA, noK, noKs, wipeQ, qCons, qNil, qList, Ask.forQ, forGoQ, fnF, fnQf, fnQ2, startQ, toQ, chUp, onL, onD, chO, chPut, putQL, putQD, delQD, rdP, ixP, ixD, ixL, slP, pl0, plF, plK, noErr, nextQ, enM, enumD, kixM, revM, dinM, truM, unpM, unpQ, tg3, fldM, qApp, appF, qExt, extF, qUpd, updF, qPop, popF, pop0F, qMove, qLst, qTup, qDct, q2, qCall, qCallO, ownL, qMeth, qMethL, qMake, fldQ, augQ, dictP, qDict, bTuple, bList, lcM, lcGo, yesM, ixN, m_answered_by_hand, b_answered_by_hand, toD, atI_0, atI_1, atI_2, atI_3, h1, h2, h3, hk]
theorem added_ok {m n : Int} (hm : Th.Num m) (hn : Th.Num n) : m_added [.int m, .int n] = .ok (.int ((m + n) % 1000)) := by
  obtain ⟨m0, m1⟩ := hm
  obtain ⟨n0, n1⟩ := hn
  by_cases h : m + n > 999
  · have e : (m + n) % 1000 = m + n - (999 + 1) := by omega
    rw [e]
    have h' : 999 < m + n := h
    simp (decide := true) [fnM, seqM, asgM, retM, dropM, op2, cM, cbM, consA, nilA, varM, notV, andV, orV, notB, andB, orB, asB, ifS, ifM, tupM, lstM, callM, slM, someM, noM, itM, rngM, Ask.forM, chM, joinM, negM, augM, nextM, raiseM, R.bind, R.of, toO, bInt, bLen, bType, bAll, bMax, bIsi, D.add, D.sub, D.mul, D.fdiv, D.mod, D.lt, D.le, D.gt, D.ge, D.eq, D.ne, D.is, D.isnt, D.inn, My.ix_tup, My.ix_lst, D.sl, D.items, D.flat, D.isNon, D.tyN, D.tyM, scal, tgN, tg2, isT, kgetM, zipM, jsM, nilJ, consJ, fmtM, retMo, asgMo, dropMo, ifSo, augMo, forMo, newMo, appMo, retOwn, wipeE, qCallOV, consV, nilV, dstM, dispM, insM, plK, seqQ, asgQ, retQ, dropQ, ifQ, ifQe, qN, nH, nV, nVA, noK, noKs, wipeQ, qCons, qNil, qList, Ask.forQ, forGoQ, fnF, fnQf, fnQ2, startQ, toQ, chUp, onL, onD, chO, chPut, putQL, putQD, delQD, rdP, ixP, ixD, ixL, slP, pl0, plF, plK, noErr, nextQ, enM, enumD, kixM, revM, dinM, truM, unpM, unpQ, tg3, fldM, qApp, appF, qExt, extF, qUpd, updF, qPop, popF, pop0F, qMove, qLst, qTup, qDct, q2, qCall, qCallO, ownL, qMeth, qMethL, qMake, fldQ, augQ, dictP, qDict, bTuple, bList, lcM, lcGo, yesM, ixN, m_added, b_added, c_LARGEST_NUMBER, h']
  · have e : (m + n) % 1000 = m + n := by omega
    rw [e]
    have h' : ¬ 999 < m + n := h
    simp (decide := true) [fnM, seqM, asgM, retM, dropM, op2, cM, cbM, consA, nilA, varM, notV, andV, orV, notB, andB, orB, asB, ifS, ifM, tupM, lstM, callM, slM, someM, noM, itM, rngM, Ask.forM, chM, joinM, negM, augM, nextM, raiseM, R.bind, R.of, toO, bInt, bLen, bType, bAll, bMax, bIsi, D.add, D.sub, D.mul, D.fdiv, D.mod, D.lt, D.le, D.gt, D.ge, D.eq, D.ne, D.is, D.isnt, D.inn, My.ix_tup, My.ix_lst, D.sl, D.items, D.flat, D.isNon, D.tyN, D.tyM, scal, tgN, tg2, isT, kgetM, zipM, jsM, nilJ, consJ, fmtM, retMo, asgMo, dropMo, ifSo, augMo, forMo, newMo, appMo, retOwn, wipeE, qCallOV, consV, nilV, dstM, dispM, insM, plK, seqQ, asgQ, retQ, dropQ, ifQ, ifQe, qN, nH, nV, nVA, noK, noKs, wipeQ, qCons, qNil, qList, Ask.forQ, forGoQ, fnF, fnQf, fnQ2, startQ, toQ, chUp, onL, onD, chO, chPut, putQL, putQD, delQD, rdP, ixP, ixD, ixL, slP, pl0, plF, plK, noErr, nextQ, enM, enumD, kixM, revM, dinM, truM, unpM, unpQ, tg3, fldM, qApp, appF, qExt, extF, qUpd, updF, qPop, popF, pop0F, qMove, qLst, qTup, qDct, q2, qCall, qCallO, ownL, qMeth, qMethL, qMake, fldQ, augQ, dictP, qDict, bTuple, bList, lcM, lcGo, yesM, ixN, m_added, b_added, c_LARGEST_NUMBER, h']
/-- what is at the end of the way -/
theorem worked_ok (p : Th.Pc) (hn : Th.nxt p = none) (hg : Th.Gd p) (hp : Th.hgt p ≤ 60) (h1 : ∀ n, p ≠ .num n) (h2 : ∀ x, p ≠ .name x) (h3 : ∀ k a, p ≠ .ask k a) : m_worked_out [toD p] = .ok (toD (Th.worked p)) := by
  cases p with
  | num n => exact absurd rfl (h1 n)
  | name x => exact absurd rfl (h2 x)
  | ask k a => exact absurd rfl (h3 k a)
  | sum a b =>
    simp only [Th.nxt] at hn
    by_cases ha : a.isNum = true
    · by_cases hb : b.isNum = true
      · obtain ⟨m, rfl⟩ := Th.isNum_num ha
        obtain ⟨n, rfl⟩ := Th.isNum_num hb
        have hx := added_ok hg.1 hg.2
        simp (decide := true) [fnM, seqM, asgM, retM, dropM, op2, cM, cbM, consA, nilA, varM, notV, andV, orV, notB, andB, orB, asB, ifS, ifM, tupM, lstM, callM, slM, someM, noM, itM, rngM, Ask.forM, chM, joinM, negM, augM, nextM, raiseM, R.bind, R.of, toO, bInt, bLen, bType, bAll, bMax, bIsi, D.add, D.sub, D.mul, D.fdiv, D.mod, D.lt, D.le, D.gt, D.ge, D.eq, D.ne, D.is, D.isnt, D.inn, My.ix_tup, My.ix_lst, D.sl, D.items, D.flat, D.isNon, D.tyN, D.tyM, scal, tgN, tg2, isT, kgetM, zipM, jsM, nilJ, consJ, fmtM, retMo, asgMo, dropMo, ifSo, augMo, forMo, newMo, appMo, retOwn, wipeE, qCallOV, consV, nilV, dstM, dispM, insM, plK, seqQ, asgQ, retQ, dropQ, ifQ, ifQe, qN, nH, nV, nVA, noK, noKs, wipeQ, qCons, qNil, qList, Ask.forQ, forGoQ, fnF, fnQf, fnQ2, startQ, toQ, chUp, onL, onD, chO, chPut, putQL, putQD, delQD, rdP, ixP, ixD, ixL, slP, pl0, plF, plK, noErr, nextQ, enM, enumD, kixM, revM, dinM, truM, unpM, unpQ, tg3, fldM, qApp, appF, qExt, extF, qUpd, updF, qPop, popF, pop0F, qMove, qLst, qTup, qDct, q2, qCall, qCallO, ownL, qMeth, qMethL, qMake, fldQ, augQ, dictP, qDict, bTuple, bList, lcM, lcGo, yesM, ixN, m_worked_out, b_worked_out, toD, atI_0, atI_1, atI_2, hx, Th.worked]
      · rw [if_pos ha, if_neg hb] at hn; cases hn
    · rw [if_neg ha] at hn; cases hn
  | let_ x a b =>
    simp only [Th.nxt] at hn
    by_cases ha : a.isNum = true
    · obtain ⟨m, rfl⟩ := Th.isNum_num ha
      have hx := put_plain 60 b x m (by simp only [Th.hgt] at hp; omega)
      simp (decide := true) [fnM, seqM, asgM, retM, dropM, op2, cM, cbM, consA, nilA, varM, notV, andV, orV, notB, andB, orB, asB, ifS, ifM, tupM, lstM, callM, slM, someM, noM, itM, rngM, Ask.forM, chM, joinM, negM, augM, nextM, raiseM, R.bind, R.of, toO, bInt, bLen, bType, bAll, bMax, bIsi, D.add, D.sub, D.mul, D.fdiv, D.mod, D.lt, D.le, D.gt, D.ge, D.eq, D.ne, D.is, D.isnt, D.inn, My.ix_tup, My.ix_lst, D.sl, D.items, D.flat, D.isNon, D.tyN, D.tyM, scal, tgN, tg2, isT, kgetM, zipM, jsM, nilJ, consJ, fmtM, retMo, asgMo, dropMo, ifSo, augMo, forMo, newMo, appMo, retOwn, wipeE, qCallOV, consV, nilV, dstM, dispM, insM, plK, seqQ, asgQ, retQ, dropQ, ifQ, ifQe, qN, nH, nV, nVA, noK, noKs, wipeQ, qCons, qNil, qList, Ask.forQ, forGoQ, fnF, fnQf, fnQ2, startQ, toQ, chUp, onL, onD, chO, chPut, putQL, putQD, delQD, rdP, ixP, ixD, ixL, slP, pl0, plF, plK, noErr, nextQ, enM, enumD, kixM, revM, dinM, truM, unpM, unpQ, tg3, fldM, qApp, appF, qExt, extF, qUpd, updF, qPop, popF, pop0F, qMove, qLst, qTup, qDct, q2, qCall, qCallO, ownL, qMeth, qMethL, qMake, fldQ, augQ, dictP, qDict, bTuple, bList, lcM, lcGo, yesM, ixN, m_worked_out, b_worked_out, toD, atI_0, atI_1, atI_2, atI_3, hx, Th.worked]
    · rw [if_neg ha] at hn; cases hn
  | choose a b c =>
    simp only [Th.nxt] at hn
    by_cases ha : a.isNum = true
    · obtain ⟨m, rfl⟩ := Th.isNum_num ha
      by_cases hm : m = 0
      · subst hm
        simp (decide := true) [fnM, seqM, asgM, retM, dropM, op2, cM, cbM, consA, nilA, varM, notV, andV, orV, notB, andB, orB, asB, ifS, ifM, tupM, lstM, callM, slM, someM, noM, itM, rngM, Ask.forM, chM, joinM, negM, augM, nextM, raiseM, R.bind, R.of, toO, bInt, bLen, bType, bAll, bMax, bIsi, D.add, D.sub, D.mul, D.fdiv, D.mod, D.lt, D.le, D.gt, D.ge, D.eq, D.ne, D.is, D.isnt, D.inn, My.ix_tup, My.ix_lst, D.sl, D.items, D.flat, D.isNon, D.tyN, D.tyM, scal, tgN, tg2, isT, kgetM, zipM, jsM, nilJ, consJ, fmtM, retMo, asgMo, dropMo, ifSo, augMo, forMo, newMo, appMo, retOwn, wipeE, qCallOV, consV, nilV, dstM, dispM, insM, plK, seqQ, asgQ, retQ, dropQ, ifQ, ifQe, qN, nH, nV, nVA, noK, noKs, wipeQ, qCons, qNil, qList, Ask.forQ, forGoQ, fnF, fnQf, fnQ2, startQ, toQ, chUp, onL, onD, chO, chPut, putQL, putQD, delQD, rdP, ixP, ixD, ixL, slP, pl0, plF, plK, noErr, nextQ, enM, enumD, kixM, revM, dinM, truM, unpM, unpQ, tg3, fldM, qApp, appF, qExt, extF, qUpd, updF, qPop, popF, pop0F, qMove, qLst, qTup, qDct, q2, qCall, qCallO, ownL, qMeth, qMethL, qMake, fldQ, augQ, dictP, qDict, bTuple, bList, lcM, lcGo, yesM, ixN, m_worked_out, b_worked_out, toD, atI_0, atI_1, atI_2, atI_3, Th.worked]
      · simp (decide := true) [fnM, seqM, asgM, retM, dropM, op2, cM, cbM, consA, nilA, varM, notV, andV, orV, notB, andB, orB, asB, ifS, ifM, tupM, lstM, callM, slM, someM, noM, itM, rngM, Ask.forM, chM, joinM, negM, augM, nextM, raiseM, R.bind, R.of, toO, bInt, bLen, bType, bAll, bMax, bIsi, D.add, D.sub, D.mul, D.fdiv, D.mod, D.lt, D.le, D.gt, D.ge, D.eq, D.ne, D.is, D.isnt, D.inn, My.ix_tup, My.ix_lst, D.sl, D.items, D.flat, D.isNon, D.tyN, D.tyM, scal, tgN, tg2, isT, kgetM, zipM, jsM, nilJ, consJ, fmtM, retMo, asgMo, dropMo, ifSo, augMo, forMo, newMo, appMo, retOwn, wipeE, qCallOV, consV, nilV, dstM, dispM, insM, plK, seqQ, asgQ, retQ, dropQ, ifQ, ifQe, qN, nH, nV, nVA, noK, noKs, wipeQ, qCons, qNil, qList, Ask.forQ, forGoQ, fnF, fnQf, fnQ2, startQ, toQ, chUp, onL, onD, chO, chPut, putQL, putQD, delQD, rdP, ixP, ixD, ixL, slP, pl0, plF, plK, noErr, nextQ, enM, enumD, kixM, revM, dinM, truM, unpM, unpQ, tg3, fldM, qApp, appF, qExt, extF, qUpd, updF, qPop, popF, pop0F, qMove, qLst, qTup, qDct, q2, qCall, qCallO, ownL, qMeth, qMethL, qMake, fldQ, augQ, dictP, qDict, bTuple, bList, lcM, lcGo, yesM, ixN, m_worked_out, b_worked_out, toD, atI_0, atI_1, atI_2, atI_3, Th.worked, hm]
    · rw [if_neg ha] at hn; cases hn
  | hand k x a b =>
    simp only [Th.nxt] at hn
    by_cases ha : b.isNum = true
    · obtain ⟨m, rfl⟩ := Th.isNum_num ha
      simp (decide := true) [fnM, seqM, asgM, retM, dropM, op2, cM, cbM, consA, nilA, varM, notV, andV, orV, notB, andB, orB, asB, ifS, ifM, tupM, lstM, callM, slM, someM, noM, itM, rngM, Ask.forM, chM, joinM, negM, augM, nextM, raiseM, R.bind, R.of, toO, bInt, bLen, bType, bAll, bMax, bIsi, D.add, D.sub, D.mul, D.fdiv, D.mod, D.lt, D.le, D.gt, D.ge, D.eq, D.ne, D.is, D.isnt, D.inn, My.ix_tup, My.ix_lst, D.sl, D.items, D.flat, D.isNon, D.tyN, D.tyM, scal, tgN, tg2, isT, kgetM, zipM, jsM, nilJ, consJ, fmtM, retMo, asgMo, dropMo, ifSo, augMo, forMo, newMo, appMo, retOwn, wipeE, qCallOV, consV, nilV, dstM, dispM, insM, plK, seqQ, asgQ, retQ, dropQ, ifQ, ifQe, qN, nH, nV, nVA, noK, noKs, wipeQ, qCons, qNil, qList, Ask.forQ, forGoQ, fnF, fnQf, fnQ2, startQ, toQ, chUp, onL, onD, chO, chPut, putQL, putQD, delQD, rdP, ixP, ixD, ixL, slP, pl0, plF, plK, noErr, nextQ, enM, enumD, kixM, revM, dinM, truM, unpM, unpQ, tg3, fldM, qApp, appF, qExt, extF, qUpd, updF, qPop, popF, pop0F, qMove, qLst, qTup, qDct, q2, qCall, qCallO, ownL, qMeth, qMethL, qMake, fldQ, augQ, dictP, qDict, bTuple, bList, lcM, lcGo, yesM, ixN, m_worked_out, b_worked_out, toD, atI_0, atI_1, atI_2, atI_3, atI_4, Th.worked]
    · rw [if_neg ha] at hn; cases hn
/-- the parts of the way -/
theorem way_sub : ∀ (n : Nat) (p : Th.Pc), Th.hgt p ≤ n → (∀ w ∈ (Th.way p).1, Th.hgt w.1 ≤ Th.hgt p ∧ (∀ y ∈ Th.namesIn w.1, y ∈ Th.namesIn p) ∧ Th.kid w.1 w.2 ≠ none) ∧ Th.hgt (Th.way p).2 ≤ Th.hgt p ∧ (Th.Gd p → Th.Gd (Th.way p).2) := by
  intro n
  induction n with
  | zero => intro p h; cases p <;> (unfold Th.hgt at h; omega)
  | succ n ih =>
    intro p h
    cases hn : Th.nxt p with
    | none => rw [Th.way_none hn]; exact ⟨(fun w hw => by cases hw), Nat.le_refl _, id⟩
    | some iq =>
      obtain ⟨i, q⟩ := iq
      obtain ⟨w1, w2, w3, w4⟩ := Th.way_some hn
      obtain ⟨i1, i2, i3⟩ := ih q (by omega)
      have hsub : (∀ y ∈ Th.namesIn q, y ∈ Th.namesIn p) ∧ (Th.Gd p → Th.Gd q) := by
        cases p with
        | num m => cases w2
        | name m => cases w2
        | sum a b =>
          match i, w2 with
          | 1, w2 => cases w2; exact ⟨fun y hy => by simp [Th.namesIn, hy], fun g => g.1⟩
          | 2, w2 => cases w2; exact ⟨fun y hy => by simp [Th.namesIn, hy], fun g => g.2⟩
        | let_ x a b =>
          match i, w2 with
          | 2, w2 => cases w2; exact ⟨fun y hy => by simp [Th.namesIn, hy], fun g => g.1⟩
        | choose a b c =>
          match i, w2 with
          | 1, w2 => cases w2; exact ⟨fun y hy => by simp [Th.namesIn, hy], fun g => g.1⟩
        | ask k a =>
          match i, w2 with
          | 2, w2 => cases w2; exact ⟨fun y hy => by simp [Th.namesIn, hy], fun g => g.2⟩
        | hand k x a b =>
          match i, w2 with
          | 4, w2 => cases w2; exact ⟨fun y hy => by simp [Th.namesIn, hy], fun g => g.2.2⟩
      rw [w1]
      refine ⟨fun w hw => ?_, Nat.le_trans i2 (Nat.le_of_lt w3), fun g => i3 (hsub.2 g)⟩
      rcases List.mem_cons.mp hw with rfl | hw
      · exact ⟨Nat.le_refl _, fun y hy => hy, by rw [w2]; exact fun z => by cases z⟩
      · obtain ⟨j1, j2, j3⟩ := i1 w hw
        exact ⟨Nat.le_trans j1 (Nat.le_of_lt w3), fun y hy => hsub.1 y (j2 y hy), j3⟩
theorem near_is {k : Str} : ∀ {ar : List (Th.Pc × Nat)} {i : Nat}, Th.near k ar = some i → ∃ (x : Str) (a b : Th.Pc) (j : Nat), i < ar.length ∧ ar[i]? = some (.hand k x a b, j)
  | (w, j) :: r, i, h => by
    simp only [Th.near] at h
    cases hr : Th.near k r with
    | some m =>
      rw [hr] at h
      cases h
      obtain ⟨x, a, b, j', h1, h2⟩ := near_is hr
      exact ⟨x, a, b, j', by rw [List.length_cons]; omega, by rw [List.getElem?_cons_succ]; exact h2⟩
    | none =>
      rw [hr] at h
      simp only at h
      cases w with
      | hand k' x a b =>
        by_cases hk : k' = k
        · subst hk
          simp only [Th.isHandOf, beq_self_eq_true, if_true] at h
          cases h
          exact ⟨x, a, b, j, by rw [List.length_cons]; omega, rfl⟩
        · have hb : (k' == k) = false := beq_eq_false_iff_ne.mpr hk
          simp only [Th.isHandOf, hb, Bool.false_eq_true, if_false] at h
          cases h
      | _ => simp only [Th.isHandOf, Bool.false_eq_true, if_false] at h; cases h
end My
namespace My
open PySem L2 Evl Ask
def goD : Th.St → D
  | .go q => toD q
  | _ => .non
def stD : Th.St → D
  | .ask k n => .tup [.str k, .int n]
  | _ => .non
theorem ar_take (ar : List (Th.Pc × Nat)) (i : Nat) : cutD (arD ar) none (some (i : Int)) = arD (ar.take i) := by
  unfold cutD arD
  have e1 : HT.sIx (ar.map wD).length 0 none = 0 := rfl
  have e2 : HT.sIx (ar.map wD).length (ar.map wD).length (some (i : Int)) = min i (ar.map wD).length := by
    simp only [HT.sIx]; rw [if_neg (by omega)]; omega
  rw [e1, e2, List.drop_zero, Nat.sub_zero, List.map_take]
  rw [List.take_eq_take_iff]
  omega
theorem ar_drop (ar : List (Th.Pc × Nat)) (i : Nat) : cutD (arD ar) (some (i : Int)) none = arD (ar.drop i) := by
  unfold cutD arD
  have e1 : HT.sIx (ar.map wD).length 0 (some (i : Int)) = min i (ar.map wD).length := by
    simp only [HT.sIx]; rw [if_neg (by omega)]; omega
  have e2 : HT.sIx (ar.map wD).length (ar.map wD).length none = (ar.map wD).length := rfl
  rw [e1, e2, List.map_drop, List.take_of_length_le (by rw [List.length_drop]; omega)]
  by_cases h : i ≤ (ar.map wD).length
  · rw [Nat.min_eq_left h]
  · rw [Nat.min_eq_right (by omega), List.drop_length, List.drop_eq_nil_of_le (by omega)]
/-- the end of the way: what it can be -/
theorem end_ask {f : Th.Pc} (hn : Th.nxt f = none) {k : Str} {a : Th.Pc} (h : f = .ask k a) : ∃ n, f = .ask k (.num n) := by
  subst h
  simp only [Th.nxt] at hn
  by_cases ha : a.isNum = true
  · obtain ⟨n, rfl⟩ := Th.isNum_num ha; exact ⟨n, rfl⟩
  · rw [if_neg ha] at hn; cases hn
theorem hd_ne {f : Th.Pc} (h1 : ∀ n, f ≠ .num n) (h3 : ∀ k a, f ≠ .ask k a) : ∃ (u : Str) (ds : List D), toD f = .tup (.str u :: ds) ∧ ¬ u = ("num" : Str) ∧ ¬ u = ("ask" : Str) := by
  cases f with
  | num n => exact absurd rfl (h1 n)
  | ask k a => exact absurd rfl (h3 k a)
  | _ => exact ⟨_, _, rfl, by decide, by decide⟩
theorem step_p {L : List Str} (hL : L.length ≤ 50000) (p : Th.Pc) (hp : Th.hgt p ≤ 60) (hg : Th.Gd p) (hs : ∀ y ∈ Th.namesIn p, y ∈ L) (ns : Th.stp Th.figs p ≠ .stuck) : m_step [toD p] = .ok (goD (Th.stp Th.figs p)) := by
  have hw := way_ok p (by omega)
  have hend := Th.way_end p
  have hlen := way_len p
  obtain ⟨s1, s2, s3⟩ := way_sub _ p (Nat.le_refl _)
  rw [Th.stp_way] at ns ⊢
  generalize Th.way p = wf at hw hend s1 s2 s3 ns hlen
  obtain ⟨ar, f⟩ := wf
  simp only at hw hend s1 s2 s3 ns hlen ⊢
  have hg2 := s3 hg
  by_cases hnum : ∃ n, f = .num n
  · obtain ⟨n, rfl⟩ := hnum
    simp (decide := true) [fnM, seqM, asgM, retM, dropM, op2, cM, cbM, consA, nilA, varM, notV, andV, orV, notB, andB, orB, asB, ifS, ifM, tupM, lstM, callM, slM, someM, noM, itM, rngM, Ask.forM, chM, joinM, negM, augM, nextM, raiseM, R.bind, R.of, toO, bInt, bLen, bType, bAll, bMax, bIsi, D.add, D.sub, D.mul, D.fdiv, D.mod, D.lt, D.le, D.gt, D.ge, D.eq, D.ne, D.is, D.isnt, D.inn, My.ix_tup, My.ix_lst, D.sl, D.items, D.flat, D.isNon, D.tyN, D.tyM, scal, tgN, tg2, isT, kgetM, zipM, jsM, nilJ, consJ, fmtM, retMo, asgMo, dropMo, ifSo, augMo, forMo, newMo, appMo, retOwn, wipeE, qCallOV, consV, nilV, dstM, dispM, insM, plK, seqQ, asgQ, retQ, dropQ, ifQ, ifQe, qN, nH, nV, nVA, noK, noKs, wipeQ, qCons, qNil, qList, Ask.forQ, forGoQ, fnF, fnQf, fnQ2, startQ, toQ, chUp, onL, onD, chO, chPut, putQL, putQD, delQD, rdP, ixP, ixD, ixL, slP, pl0, plF, plK, noErr, nextQ, enM, enumD, kixM, revM, dinM, truM, unpM, unpQ, tg3, fldM, qApp, appF, qExt, extF, qUpd, updF, qPop, popF, pop0F, qMove, qLst, qTup, qDct, q2, qCall, qCallO, ownL, qMeth, qMethL, qMake, fldQ, augQ, dictP, qDict, bTuple, bList, lcM, lcGo, yesM, ixN, m_step, b_step, hw, toD, atI_0, Th.wstp, goD]
  · by_cases hask : ∃ k a, f = .ask k a
    · obtain ⟨k, a, ha⟩ := hask
      obtain ⟨n, hn⟩ := end_ask hend ha
      subst hn
      have hnr := near_ok ar k (by omega)
      cases hi : Th.near k ar with
      | none =>
        rw [hi] at hnr
        simp only [nrD] at hnr
        simp only [toD] at hw
        simp (decide := true) [fnM, seqM, asgM, retM, dropM, op2, cM, cbM, consA, nilA, varM, notV, andV, orV, notB, andB, orB, asB, ifS, ifM, tupM, lstM, callM, slM, someM, noM, itM, rngM, Ask.forM, chM, joinM, negM, augM, nextM, raiseM, R.bind, R.of, toO, bInt, bLen, bType, bAll, bMax, bIsi, D.add, D.sub, D.mul, D.fdiv, D.mod, D.lt, D.le, D.gt, D.ge, D.eq, D.ne, D.is, D.isnt, D.inn, My.ix_tup, My.ix_lst, D.sl, D.items, D.flat, D.isNon, D.tyN, D.tyM, scal, tgN, tg2, isT, kgetM, zipM, jsM, nilJ, consJ, fmtM, retMo, asgMo, dropMo, ifSo, augMo, forMo, newMo, appMo, retOwn, wipeE, qCallOV, consV, nilV, dstM, dispM, insM, plK, seqQ, asgQ, retQ, dropQ, ifQ, ifQe, qN, nH, nV, nVA, noK, noKs, wipeQ, qCons, qNil, qList, Ask.forQ, forGoQ, fnF, fnQf, fnQ2, startQ, toQ, chUp, onL, onD, chO, chPut, putQL, putQD, delQD, rdP, ixP, ixD, ixL, slP, pl0, plF, plK, noErr, nextQ, enM, enumD, kixM, revM, dinM, truM, unpM, unpQ, tg3, fldM, qApp, appF, qExt, extF, qUpd, updF, qPop, popF, pop0F, qMove, qLst, qTup, qDct, q2, qCall, qCallO, ownL, qMeth, qMethL, qMake, fldQ, augQ, dictP, qDict, bTuple, bList, lcM, lcGo, yesM, ixN, m_step, b_step, hw, toD, atI_0, atI_1, hnr, Th.wstp, hi, goD]
      | some i =>
        rw [hi] at hnr
        obtain ⟨x, c, b, j, j1, j2⟩ := near_is hi
        have hd : ar.drop i = (.hand k x c b, j) :: ar.drop (i + 1) := by
          rw [List.drop_eq_getElem_cons j1, Option.some.inj ((List.getElem?_eq_getElem j1).symm.trans j2)]
        have hm : (Th.Pc.hand k x c b, j) ∈ ar := List.mem_of_getElem? j2
        obtain ⟨q1, q2, q3⟩ := s1 _ hm
        have hj : j = 4 := by
          match j, q3 with
          | 4, _ => rfl
          | 0, q3 => exact absurd rfl q3
          | 1, q3 => exact absurd rfl q3
          | 2, q3 => exact absurd rfl q3
          | 3, q3 => exact absurd rfl q3
          | j + 5, q3 => exact absurd rfl q3
        subst hj
        have hh := hand_ok hL k k x c b n (ar.drop (i + 1)) (Nat.le_trans q1 hp) (fun y hy => hs y (q2 y hy)) (fun w hw => (s1 w (List.mem_of_mem_drop hw)).2.2)
        rw [← hd] at hh
        have hb := put_back_ok (ar.take i) (Th.byHand Th.figs k n (ar.drop i)) (fun w hw => (s1 w (List.mem_of_mem_take hw)).2.2)
        have t1 := ar_take ar i
        have t2 := ar_drop ar i
        simp only [nrD] at hnr
        simp only [Th.wstp, hi, goD]
        generalize Th.byHand Th.figs k n (ar.drop i) = u at hh hb
        simp only [toD] at hh hw
        generalize ((i : Nat) : Int) = z at hnr t1 t2
        simp (decide := true) [fnM, seqM, asgM, retM, dropM, op2, cM, cbM, consA, nilA, varM, notV, andV, orV, notB, andB, orB, asB, ifS, ifM, tupM, lstM, callM, slM, someM, noM, itM, rngM, Ask.forM, chM, joinM, negM, augM, nextM, raiseM, R.bind, R.of, toO, bInt, bLen, bType, bAll, bMax, bIsi, D.add, D.sub, D.mul, D.fdiv, D.mod, D.lt, D.le, D.gt, D.ge, D.eq, D.ne, D.is, D.isnt, D.inn, My.ix_tup, My.ix_lst, D.sl, D.items, D.flat, D.isNon, D.tyN, D.tyM, scal, tgN, tg2, isT, kgetM, zipM, jsM, nilJ, consJ, fmtM, retMo, asgMo, dropMo, ifSo, augMo, forMo, newMo, appMo, retOwn, wipeE, qCallOV, consV, nilV, dstM, dispM, insM, plK, seqQ, asgQ, retQ, dropQ, ifQ, ifQe, qN, nH, nV, nVA, noK, noKs, wipeQ, qCons, qNil, qList, Ask.forQ, forGoQ, fnF, fnQf, fnQ2, startQ, toQ, chUp, onL, onD, chO, chPut, putQL, putQD, delQD, rdP, ixP, ixD, ixL, slP, pl0, plF, plK, noErr, nextQ, enM, enumD, kixM, revM, dinM, truM, unpM, unpQ, tg3, fldM, qApp, appF, qExt, extF, qUpd, updF, qPop, popF, pop0F, qMove, qLst, qTup, qDct, q2, qCall, qCallO, ownL, qMeth, qMethL, qMake, fldQ, augQ, dictP, qDict, bTuple, bList, lcM, lcGo, yesM, ixN, m_step, b_step, hw, toD, atI_0, atI_1, hnr, t1, t2, hh, hb]
    · have n1 : ∀ n, f ≠ .num n := fun n e => hnum ⟨n, e⟩
      have n3 : ∀ k a, f ≠ .ask k a := fun k a e => hask ⟨k, a, e⟩
      have n2 : ∀ x, f ≠ .name x := fun x e => ns (by subst e; rfl)
      have hx := worked_ok f hend hg2 (by omega) n1 n2 n3
      have hb := put_back_ok ar (Th.worked f) (fun w hw => (s1 w hw).2.2)
      have e : Th.wstp Th.figs ar f = .go (Th.back ar (Th.worked f)) := by
        cases f with
        | num n => exact absurd rfl (n1 n)
        | name x => exact absurd rfl (n2 x)
        | ask k a => exact absurd rfl (n3 k a)
        | _ => rfl
      obtain ⟨u, ds, u1, u2, u3⟩ := hd_ne n1 n3
      rw [e]
      simp only [goD]
      rw [u1] at hw hx
      simp (decide := true) [fnM, seqM, asgM, retM, dropM, op2, cM, cbM, consA, nilA, varM, notV, andV, orV, notB, andB, orB, asB, ifS, ifM, tupM, lstM, callM, slM, someM, noM, itM, rngM, Ask.forM, chM, joinM, negM, augM, nextM, raiseM, R.bind, R.of, toO, bInt, bLen, bType, bAll, bMax, bIsi, D.add, D.sub, D.mul, D.fdiv, D.mod, D.lt, D.le, D.gt, D.ge, D.eq, D.ne, D.is, D.isnt, D.inn, My.ix_tup, My.ix_lst, D.sl, D.items, D.flat, D.isNon, D.tyN, D.tyM, scal, tgN, tg2, isT, kgetM, zipM, jsM, nilJ, consJ, fmtM, retMo, asgMo, dropMo, ifSo, augMo, forMo, newMo, appMo, retOwn, wipeE, qCallOV, consV, nilV, dstM, dispM, insM, plK, seqQ, asgQ, retQ, dropQ, ifQ, ifQe, qN, nH, nV, nVA, noK, noKs, wipeQ, qCons, qNil, qList, Ask.forQ, forGoQ, fnF, fnQf, fnQ2, startQ, toQ, chUp, onL, onD, chO, chPut, putQL, putQD, delQD, rdP, ixP, ixD, ixL, slP, pl0, plF, plK, noErr, nextQ, enM, enumD, kixM, revM, dinM, truM, unpM, unpQ, tg3, fldM, qApp, appF, qExt, extF, qUpd, updF, qPop, popF, pop0F, qMove, qLst, qTup, qDct, q2, qCall, qCallO, ownL, qMeth, qMethL, qMake, fldQ, augQ, dictP, qDict, bTuple, bList, lcM, lcGo, yesM, ixN, m_step, b_step, hw, atI_0, atI_1, u2, u3, hx, hb]
end My
namespace My
open PySem L2 Evl Ask
theorem stands_p (p : Th.Pc) (hp : Th.hgt p ≤ 60) : m_stands_at [toD p] = .ok (stD (Th.stp Th.figs p)) := by
  have hw := way_ok p (by omega)
  have hend := Th.way_end p
  have hlen := way_len p
  rw [Th.stp_way]
  generalize Th.way p = wf at hw hend hlen
  obtain ⟨ar, f⟩ := wf
  simp only at hw hend hlen ⊢
  by_cases hask : ∃ k a, f = .ask k a
  · obtain ⟨k, a, ha⟩ := hask
    obtain ⟨n, hn⟩ := end_ask hend ha
    subst hn
    have hnr := near_ok ar k (by omega)
    simp only [toD] at hw
    cases hi : Th.near k ar with
    | none =>
      rw [hi] at hnr
      simp only [nrD] at hnr
      simp (decide := true) [fnM, seqM, asgM, retM, dropM, op2, cM, cbM, consA, nilA, varM, notV, andV, orV, notB, andB, orB, asB, ifS, ifM, tupM, lstM, callM, slM, someM, noM, itM, rngM, Ask.forM, chM, joinM, negM, augM, nextM, raiseM, R.bind, R.of, toO, bInt, bLen, bType, bAll, bMax, bIsi, D.add, D.sub, D.mul, D.fdiv, D.mod, D.lt, D.le, D.gt, D.ge, D.eq, D.ne, D.is, D.isnt, D.inn, My.ix_tup, My.ix_lst, D.sl, D.items, D.flat, D.isNon, D.tyN, D.tyM, scal, tgN, tg2, isT, kgetM, zipM, jsM, nilJ, consJ, fmtM, retMo, asgMo, dropMo, ifSo, augMo, forMo, newMo, appMo, retOwn, wipeE, qCallOV, consV, nilV, dstM, dispM, insM, plK, seqQ, asgQ, retQ, dropQ, ifQ, ifQe, qN, nH, nV, nVA, noK, noKs, wipeQ, qCons, qNil, qList, Ask.forQ, forGoQ, fnF, fnQf, fnQ2, startQ, toQ, chUp, onL, onD, chO, chPut, putQL, putQD, delQD, rdP, ixP, ixD, ixL, slP, pl0, plF, plK, noErr, nextQ, enM, enumD, kixM, revM, dinM, truM, unpM, unpQ, tg3, fldM, qApp, appF, qExt, extF, qUpd, updF, qPop, popF, pop0F, qMove, qLst, qTup, qDct, q2, qCall, qCallO, ownL, qMeth, qMethL, qMake, fldQ, augQ, dictP, qDict, bTuple, bList, lcM, lcGo, yesM, ixN, m_stands_at, b_stands_at, hw, toD, atI_0, atI_1, atI_2, hnr, Th.wstp, hi, stD]
    | some i =>
      rw [hi] at hnr
      simp only [nrD] at hnr
      generalize ((i : Nat) : Int) = z at hnr
      simp (decide := true) [fnM, seqM, asgM, retM, dropM, op2, cM, cbM, consA, nilA, varM, notV, andV, orV, notB, andB, orB, asB, ifS, ifM, tupM, lstM, callM, slM, someM, noM, itM, rngM, Ask.forM, chM, joinM, negM, augM, nextM, raiseM, R.bind, R.of, toO, bInt, bLen, bType, bAll, bMax, bIsi, D.add, D.sub, D.mul, D.fdiv, D.mod, D.lt, D.le, D.gt, D.ge, D.eq, D.ne, D.is, D.isnt, D.inn, My.ix_tup, My.ix_lst, D.sl, D.items, D.flat, D.isNon, D.tyN, D.tyM, scal, tgN, tg2, isT, kgetM, zipM, jsM, nilJ, consJ, fmtM, retMo, asgMo, dropMo, ifSo, augMo, forMo, newMo, appMo, retOwn, wipeE, qCallOV, consV, nilV, dstM, dispM, insM, plK, seqQ, asgQ, retQ, dropQ, ifQ, ifQe, qN, nH, nV, nVA, noK, noKs, wipeQ, qCons, qNil, qList, Ask.forQ, forGoQ, fnF, fnQf, fnQ2, startQ, toQ, chUp, onL, onD, chO, chPut, putQL, putQD, delQD, rdP, ixP, ixD, ixL, slP, pl0, plF, plK, noErr, nextQ, enM, enumD, kixM, revM, dinM, truM, unpM, unpQ, tg3, fldM, qApp, appF, qExt, extF, qUpd, updF, qPop, popF, pop0F, qMove, qLst, qTup, qDct, q2, qCall, qCallO, ownL, qMeth, qMethL, qMake, fldQ, augQ, dictP, qDict, bTuple, bList, lcM, lcGo, yesM, ixN, m_stands_at, b_stands_at, hw, toD, atI_0, atI_1, atI_2, hnr, Th.wstp, hi, stD]
  · have n3 : ∀ k a, f ≠ .ask k a := fun k a e => hask ⟨k, a, e⟩
    have e : stD (Th.wstp Th.figs ar f) = .non := by
      cases f with
      | ask k a => exact absurd rfl (n3 k a)
      | _ => rfl
    have h0 : ∃ (u : Str) (ds : List D), toD f = .tup (.str u :: ds) ∧ ¬ u = ("ask" : Str) := by
      cases f with
      | ask k a => exact absurd rfl (n3 k a)
      | _ => exact ⟨_, _, rfl, by decide⟩
    obtain ⟨u, ds, u1, u3⟩ := h0
    rw [e]
    rw [u1] at hw
    simp (decide := true) [fnM, seqM, asgM, retM, dropM, op2, cM, cbM, consA, nilA, varM, notV, andV, orV, notB, andB, orB, asB, ifS, ifM, tupM, lstM, callM, slM, someM, noM, itM, rngM, Ask.forM, chM, joinM, negM, augM, nextM, raiseM, R.bind, R.of, toO, bInt, bLen, bType, bAll, bMax, bIsi, D.add, D.sub, D.mul, D.fdiv, D.mod, D.lt, D.le, D.gt, D.ge, D.eq, D.ne, D.is, D.isnt, D.inn, My.ix_tup, My.ix_lst, D.sl, D.items, D.flat, D.isNon, D.tyN, D.tyM, scal, tgN, tg2, isT, kgetM, zipM, jsM, nilJ, consJ, fmtM, retMo, asgMo, dropMo, ifSo, augMo, forMo, newMo, appMo, retOwn, wipeE, qCallOV, consV, nilV, dstM, dispM, insM, plK, seqQ, asgQ, retQ, dropQ, ifQ, ifQe, qN, nH, nV, nVA, noK, noKs, wipeQ, qCons, qNil, qList, Ask.forQ, forGoQ, fnF, fnQf, fnQ2, startQ, toQ, chUp, onL, onD, chO, chPut, putQL, putQD, delQD, rdP, ixP, ixD, ixL, slP, pl0, plF, plK, noErr, nextQ, enM, enumD, kixM, revM, dinM, truM, unpM, unpQ, tg3, fldM, qApp, appF, qExt, extF, qUpd, updF, qPop, popF, pop0F, qMove, qLst, qTup, qDct, q2, qCall, qCallO, ownL, qMeth, qMethL, qMake, fldQ, augQ, dictP, qDict, bTuple, bList, lcM, lcGo, yesM, ixN, m_stands_at, b_stands_at, hw, atI_0, atI_1, u3]
end My
namespace My
open PySem L2 Evl Ask
theorem bls_true (n : Nat) : blsOf (List.replicate n (D.bl true)) = some (List.replicate n true) := by
  induction n with
  | zero => rfl
  | succ n ih => simp only [List.replicate_succ, blsOf, ih]
theorem kit_tup_tup : kitB "tuple" "tuple" = some true := by decide +kernel
theorem kit_int_tup : kitB "int" "tuple" = some false := by decide +kernel
theorem kit_str_tup : kitB "str" "tuple" = some false := by decide +kernel
theorem kit_lst_lst : kitB "list" "list" = some true := by decide +kernel
/-- every turn tells the same -/
theorem lcGo_same {b : D → Sl → Option Sl} {el : Sl → R D} {env : Sl} {y : D} : ∀ ds : List D, (∀ d ∈ ds, ∃ e1, b d env = some e1 ∧ el e1 = .ok y) → lcGo b yesM el env ds = .ok (List.replicate ds.length y)
  | [], _ => rfl
  | d :: ds, h => by
    obtain ⟨e1, h1, h2⟩ := h d List.mem_cons_self
    have ih := lcGo_same (b := b) (el := el) (env := env) (y := y) ds (fun d hd => h d (List.mem_cons_of_mem _ hd))
    simp only [lcGo, h1, yesM, R.bind, if_true, h2, ih, List.length_cons, List.replicate_succ]
end My
namespace My
open PySem L2 Evl Ask
theorem whole_ok (n : Int) : m_l_whole [.int n] = .ok (.bl true) := by
  simp (decide := true) [fnM, seqM, asgM, retM, dropM, op2, cM, cbM, consA, nilA, varM, notV, andV, orV, notB, andB, orB, asB, ifS, ifM, tupM, lstM, callM, slM, someM, noM, itM, rngM, Ask.forM, chM, joinM, negM, augM, nextM, raiseM, R.bind, R.of, toO, bInt, bLen, bType, bAll, bMax, bIsi, D.add, D.sub, D.mul, D.fdiv, D.mod, D.lt, D.le, D.gt, D.ge, D.eq, D.ne, D.is, D.isnt, D.inn, D.ix, D.sl, D.items, D.flat, D.isNon, D.tyN, D.tyM, scal, tgN, tg2, isT, kgetM, zipM, jsM, nilJ, consJ, fmtM, retMo, asgMo, dropMo, ifSo, augMo, forMo, newMo, appMo, retOwn, wipeE, m_l_whole, b_l_whole, kit_int_int, kit_int_bool]
end My
namespace My
open PySem L2 Evl Ask
mutual
/-- tuples, texts and numbers alone -/
def plainD : D → Bool
  | .int _ => true
  | .str _ => true
  | .tup ds => plainDs ds
  | _ => false
def plainDs : List D → Bool
  | [] => true
  | d :: ds => plainD d && plainDs ds
end
mutual
def dep : D → Nat
  | .tup ds => 1 + deps ds
  | _ => 0
def deps : List D → Nat
  | [] => 0
  | d :: ds => max (dep d) (deps ds)
end
theorem plain_mem : ∀ {ds : List D} {d : D}, plainDs ds = true → d ∈ ds → plainD d = true ∧ dep d ≤ deps ds
  | d' :: ds, d, h, hm => by
    simp only [plainDs, Bool.and_eq_true] at h
    rcases List.mem_cons.mp hm with e | hm
    · subst e; exact ⟨h.1, by unfold deps; omega⟩
    · have := plain_mem h.2 hm
      exact ⟨this.1, by unfold deps; omega⟩
mutual
/-- no row is too long -/
def shortD : D → Bool
  | .tup ds => decide (ds.length ≤ 8000000) && shortDs ds
  | _ => true
def shortDs : List D → Bool
  | [] => true
  | d :: ds => shortD d && shortDs ds
end
theorem short_mem : ∀ {ds : List D} {d : D}, shortDs ds = true → d ∈ ds → shortD d = true
  | d' :: ds, d, h, hm => by
    simp only [shortDs, Bool.and_eq_true] at h
    rcases List.mem_cons.mp hm with e | hm
    · subst e; exact h.1
    · exact short_mem h.2 hm
theorem alike_ok : ∀ (n : Nat) (d : D), plainD d = true → shortD d = true → dep d < n → m_l_alike n [d, d] = .ok (.bl true)
  | 0, d, _, _, h => by omega
  | n + 1, .int i, _, _, _ => by simp (decide := true) [fnM, seqM, asgM, retM, dropM, op2, cM, cbM, consA, nilA, varM, notV, andV, orV, notB, andB, orB, asB, ifS, ifM, tupM, lstM, callM, slM, someM, noM, itM, rngM, Ask.forM, chM, joinM, negM, augM, nextM, raiseM, R.bind, R.of, toO, bInt, bLen, bType, bAll, bMax, bIsi, D.add, D.sub, D.mul, D.fdiv, D.mod, D.lt, D.le, D.gt, D.ge, D.eq, D.ne, D.is, D.isnt, D.inn, D.ix, D.sl, D.items, D.flat, D.isNon, D.tyN, D.tyM, scal, tgN, tg2, isT, kgetM, zipM, jsM, nilJ, consJ, fmtM, retMo, asgMo, dropMo, ifSo, augMo, forMo, newMo, appMo, retOwn, wipeE, m_l_alike, b_l_alike, kit_int_tup, kit_int_str, whole_ok]
  | n + 1, .str z, _, _, _ => by simp (decide := true) [fnM, seqM, asgM, retM, dropM, op2, cM, cbM, consA, nilA, varM, notV, andV, orV, notB, andB, orB, asB, ifS, ifM, tupM, lstM, callM, slM, someM, noM, itM, rngM, Ask.forM, chM, joinM, negM, augM, nextM, raiseM, R.bind, R.of, toO, bInt, bLen, bType, bAll, bMax, bIsi, D.add, D.sub, D.mul, D.fdiv, D.mod, D.lt, D.le, D.gt, D.ge, D.eq, D.ne, D.is, D.isnt, D.inn, D.ix, D.sl, D.items, D.flat, D.isNon, D.tyN, D.tyM, scal, tgN, tg2, isT, kgetM, zipM, jsM, nilJ, consJ, fmtM, retMo, asgMo, dropMo, ifSo, augMo, forMo, newMo, appMo, retOwn, wipeE, m_l_alike, b_l_alike, kit_str_tup, kit_str_str]
  | n + 1, .tup ds, hp, hs, h => by
    simp only [shortD, Bool.and_eq_true, decide_eq_true_eq] at hs
    have hl := hs.1
    have i1 : -10000000 ≤ (ds.length : Int) := by omega
    have i2 : (ds.length : Int) ≤ 10000000 := by omega
    have hr : (rangeD 0 ds.length).length = ds.length := rangeD_len
    have g : ∀ env : Sl, env = [some (.tup ds), some (.tup ds), none] → lcGo (tgN 2) yesM (le_l_alike_0 (m_l_alike n)) env (rangeD 0 ds.length) = .ok (List.replicate ds.length (.bl true)) := fun env he => by
      rw [lcGo_same (y := .bl true) _ (fun d hd => ?_), hr]
      obtain ⟨i, hi, rfl⟩ := rangeD_mem hd
      subst he
      refine ⟨_, rfl, ?_⟩
      have ha : atI ds (i : Int) = some ds[i] := by rw [atI_int, List.getElem?_eq_getElem hi]
      have hm := plain_mem (by simpa [plainD] using hp) (List.getElem_mem hi)
      have ih := alike_ok n ds[i] hm.1 (short_mem hs.2 (List.getElem_mem hi)) (by unfold dep at h; omega)
      simp (decide := true) [fnM, seqM, asgM, retM, dropM, op2, cM, cbM, consA, nilA, varM, notV, andV, orV, notB, andB, orB, asB, ifS, ifM, tupM, lstM, callM, slM, someM, noM, itM, rngM, Ask.forM, chM, joinM, negM, augM, nextM, raiseM, R.bind, R.of, toO, bInt, bLen, bType, bAll, bMax, bIsi, D.add, D.sub, D.mul, D.fdiv, D.mod, D.lt, D.le, D.gt, D.ge, D.eq, D.ne, D.is, D.isnt, D.inn, D.ix, D.sl, D.items, D.flat, D.isNon, D.tyN, D.tyM, scal, tgN, tg2, isT, kgetM, zipM, jsM, nilJ, consJ, fmtM, retMo, asgMo, dropMo, ifSo, augMo, forMo, newMo, appMo, retOwn, wipeE, le_l_alike_0, ha, ih]
    have g' := g _ rfl
    have i3 : (rangeD 0 ds.length).length ≤ 8000000 := by rw [hr]; exact hl
    simp (decide := true) [fnM, seqM, asgM, retM, dropM, op2, cM, cbM, consA, nilA, varM, notV, andV, orV, notB, andB, orB, asB, ifS, ifM, tupM, lstM, callM, slM, someM, noM, itM, rngM, Ask.forM, chM, joinM, negM, augM, nextM, raiseM, R.bind, R.of, toO, bInt, bLen, bType, bAll, bMax, bIsi, D.add, D.sub, D.mul, D.fdiv, D.mod, D.lt, D.le, D.gt, D.ge, D.eq, D.ne, D.is, D.isnt, D.inn, D.ix, D.sl, D.items, D.flat, D.isNon, D.tyN, D.tyM, scal, tgN, tg2, isT, kgetM, zipM, jsM, nilJ, consJ, fmtM, retMo, asgMo, dropMo, ifSo, augMo, forMo, newMo, appMo, retOwn, wipeE, m_l_alike, b_l_alike, kit_tup_tup, i1, i2, lcM, i3, g', bls_true]
  | n + 1, .non, hp, _, _ => by cases hp
  | n + 1, .bl _, hp, _, _ => by cases hp
  | n + 1, .ty _, hp, _, _ => by cases hp
  | n + 1, .lst _, hp, _, _ => by cases hp
  | n + 1, .ktup _, hp, _, _ => by cases hp
  | n + 1, .klst _, hp, _, _ => by cases hp
  | n + 1, .dct _, hp, _, _ => by cases hp
  | n + 1, .own _, hp, _, _ => by cases hp
  | n + 1, .ins _ _, hp, _, _ => by cases hp
/-- a piece is plain -/
theorem plain_pc : ∀ p : Th.Pc, plainD (toD p) = true ∧ shortD (toD p) = true ∧ dep (toD p) ≤ Th.hgt p
  | .num n => ⟨rfl, rfl, by simp [toD, dep, deps, Th.hgt]⟩
  | .name n => ⟨rfl, rfl, by simp [toD, dep, deps, Th.hgt]⟩
  | .sum a b => by
    have h1 := plain_pc a; have h2 := plain_pc b
    refine ⟨by simp [toD, plainD, plainDs, h1.1, h2.1], by simp [toD, shortD, shortDs, h1.2.1, h2.2.1], ?_⟩
    simp only [toD, dep, deps, Th.hgt]; omega
  | .let_ x a b => by
    have h1 := plain_pc a; have h2 := plain_pc b
    refine ⟨by simp [toD, plainD, plainDs, h1.1, h2.1], by simp [toD, shortD, shortDs, h1.2.1, h2.2.1], ?_⟩
    simp only [toD, dep, deps, Th.hgt]; omega
  | .choose a b c => by
    have h1 := plain_pc a; have h2 := plain_pc b; have h3 := plain_pc c
    refine ⟨by simp [toD, plainD, plainDs, h1.1, h2.1, h3.1], by simp [toD, shortD, shortDs, h1.2.1, h2.2.1, h3.2.1], ?_⟩
    simp only [toD, dep, deps, Th.hgt]; omega
  | .ask k a => by
    have h1 := plain_pc a
    refine ⟨by simp [toD, plainD, plainDs, h1.1], by simp [toD, shortD, shortDs, h1.2.1], ?_⟩
    simp only [toD, dep, deps, Th.hgt]; omega
  | .hand k x a b => by
    have h1 := plain_pc a; have h2 := plain_pc b
    refine ⟨by simp [toD, plainD, plainDs, h1.1, h2.1], by simp [toD, shortD, shortDs, h1.2.1, h2.2.1], ?_⟩
    simp only [toD, dep, deps, Th.hgt]; omega
theorem alike_pc (n : Nat) (p : Th.Pc) (h : Th.hgt p < n) : m_l_alike n [toD p, toD p] = .ok (.bl true) := alike_ok n _ (plain_pc p).1 (plain_pc p).2.1 (by have := (plain_pc p).2.2; omega)
end My
namespace My
open PySem L2 Evl Ask
/-! names and numbers in a dict -/
theorem lk_map {x k : Str} {d : D} : ∀ kvs : List (Str × D), (kvs.map fun q => if q.1 = k then (q.1, d) else q).lookup x = if x = k then (kvs.lookup x).map (fun _ => d) else kvs.lookup x
  | [] => by simp
  | (j, c) :: r => by
    have ih := lk_map (x := x) (k := k) (d := d) r
    simp only [List.map_cons]
    by_cases hj : j = k
    · subst hj
      simp only [if_true, List.lookup_cons]
      by_cases hx : x = j
      · subst hx; simp
      · have hb : (x == j) = false := beq_eq_false_iff_ne.mpr hx
        rw [if_neg hx] at ih ⊢
        rw [hb]
        exact ih
    · simp only [if_neg hj, List.lookup_cons]
      by_cases hx : x = j
      · subst hx; simp [hj]
      · have hb : (x == j) = false := beq_eq_false_iff_ne.mpr hx
        rw [hb]
        exact ih
theorem lk_any {k : Str} : ∀ kvs : List (Str × D), (kvs.any fun q => decide (q.1 = k)) = (kvs.lookup k).isSome
  | [] => rfl
  | (j, c) :: r => by
    rw [List.any_cons, lk_any r, List.lookup_cons]
    by_cases hj : j = k
    · subst hj; simp
    · have hb : (k == j) = false := beq_eq_false_iff_ne.mpr (Ne.symm hj)
      rw [hb]; simp [hj]
theorem lk_app {x : Str} : ∀ (a b : List (Str × D)), (a ++ b).lookup x = (a.lookup x).or (b.lookup x)
  | [], b => rfl
  | (j, c) :: r, b => by
    rw [List.cons_append, List.lookup_cons, List.lookup_cons, lk_app r b]
    cases x == j <;> rfl
theorem lk_put (kvs : List (Str × D)) (k x : Str) (d : D) : (putD kvs k d).lookup x = if x = k then some d else kvs.lookup x := by
  unfold putD
  by_cases h : (kvs.any fun q => decide (q.1 = k)) = true
  · rw [if_pos h, lk_map]
    rw [lk_any] at h
    by_cases hx : x = k
    · subst hx
      rw [if_pos rfl, if_pos rfl]
      cases hl : kvs.lookup x with
      | none => rw [hl] at h; cases h
      | some c => rfl
    · rw [if_neg hx, if_neg hx]
  · rw [if_neg h, lk_app]
    rw [lk_any] at h
    by_cases hx : x = k
    · subst hx
      have : kvs.lookup x = none := by
        cases hl : kvs.lookup x with
        | none => rfl
        | some c => rw [hl] at h; exact absurd rfl h
      rw [this, if_pos rfl]
      simp
    · have hb : (x == k) = false := beq_eq_false_iff_ne.mpr hx
      rw [if_neg hx, List.lookup_cons, hb]
      cases kvs.lookup x <;> rfl
theorem put_len (kvs : List (Str × D)) (k : Str) (d : D) : (putD kvs k d).length ≤ kvs.length + 1 := by
  unfold putD
  split
  · rw [List.length_map]; omega
  · rw [List.length_append]; exact Nat.le_refl _
/-- what a name stands for in a dict -/
def EnvIs (kvs : List (Str × D)) (e : Str → Int) (x : Str) : Prop := kvs.lookup x = some (.int (e x))
theorem envIs_up {kvs : List (Str × D)} {e : Str → Int} {x y : Str} {n : Int} (h : y = x ∨ EnvIs kvs e y) : EnvIs (putD kvs x (.int n)) (Th.up e x n) y := by
  unfold EnvIs Th.up
  rw [lk_put]
  by_cases hy : y = x
  · rw [if_pos hy, if_pos hy]
  · rw [if_neg hy, if_neg hy]; exact h.resolve_left hy
end My
namespace My
open PySem L2 Evl Ask
theorem noKs_app : ∀ (a b : List D), noKs (a ++ b) = (noKs a && noKs b)
  | [], b => rfl
  | d :: r, b => by rw [List.cons_append]; simp only [noKs, noKs_app r b, Bool.and_assoc]
theorem noKs_rep (i : Int) : ∀ n : Nat, noKs (List.replicate n (.int i)) = true
  | 0 => rfl
  | n + 1 => by rw [List.replicate_succ]; simp only [noKs, noK, noKs_rep i n, Bool.and_self]
theorem rep_two (st : List D) (a b : Nat) : st ++ [D.int 1] ++ List.replicate a (D.int 1) ++ List.replicate b (D.int 1) = st ++ List.replicate (1 + (a + b)) (D.int 1) := by
  have e : [D.int 1] = List.replicate 1 (D.int 1) := rfl
  rw [e, List.append_assoc, List.append_assoc, List.replicate_append_replicate, List.replicate_append_replicate]
/-- the law's own going through a piece without asks -/
theorem went_ok : ∀ (n : Nat) (p : Th.Pc) (kvs : List (Str × D)) (e : Str → Int) (st : List D), Th.hgt p ≤ n → Th.NoAsk p → Th.Told p (EnvIs kvs e) → kvs.length + n ≤ 1000 → noKs st = true → st.length + Th.size p ≤ 1000 →
    mq_l_went n (.lst st) [toD p, .dct kvs] = .ok (.int (Th.val e p), .lst (st ++ List.replicate (Th.cnt e p) (.int 1)))
  | 0, p, kvs, e, st, h, _, _, _, _, _ => by cases p <;> (unfold Th.hgt at h; omega)
  | n + 1, p, kvs, e, st, h, na, ht, hk, hs, hl => by
    have ih := went_ok n
    have hl0 : st.length ≤ 50000 := by omega
    have hs1 : noKs (st ++ [D.int 1]) = true := by rw [noKs_app, hs]; rfl
    cases p with
    | num m =>
      simp only [Th.val, Th.cnt, List.replicate_zero, List.append_nil]
      simp (decide := true) [fnM, seqM, asgM, retM, dropM, op2, cM, cbM, consA, nilA, varM, notV, andV, orV, notB, andB, orB, asB, ifS, ifM, tupM, lstM, callM, slM, someM, noM, itM, rngM, Ask.forM, chM, joinM, negM, augM, nextM, raiseM, R.bind, R.of, toO, bInt, bLen, bType, bAll, bMax, bIsi, D.add, D.sub, D.mul, D.fdiv, D.mod, D.lt, D.le, D.gt, D.ge, D.eq, D.ne, D.is, D.isnt, D.inn, My.ix_tup, My.ix_lst, D.sl, D.items, D.flat, D.isNon, D.tyN, D.tyM, scal, tgN, tg2, isT, kgetM, zipM, jsM, nilJ, consJ, fmtM, retMo, asgMo, dropMo, ifSo, augMo, forMo, newMo, appMo, retOwn, wipeE, qCallOV, consV, nilV, dstM, dispM, insM, plK, seqQ, asgQ, retQ, dropQ, ifQ, ifQe, qN, nH, nV, nVA, noK, noKs, wipeQ, qCons, qNil, qList, Ask.forQ, forGoQ, fnF, fnQf, fnQ2, startQ, toQ, chUp, onL, onD, chO, chPut, putQL, putQD, delQD, rdP, ixP, ixD, ixL, slP, pl0, plF, plK, noErr, nextQ, enM, enumD, kixM, revM, dinM, truM, unpM, unpQ, tg3, fldM, qApp, appF, qExt, extF, qUpd, updF, qPop, popF, pop0F, qMove, qLst, qTup, qDct, q2, qCall, qCallO, ownL, qMeth, qMethL, qMake, fldQ, augQ, dictP, qDict, bTuple, bList, lcM, lcGo, yesM, ixN, mq_l_went, b_l_went, toD, atI_0, atI_1]
    | name y =>
      have h' : kvs.lookup y = some (.int (e y)) := ht
      simp only [Th.val, Th.cnt, List.replicate_zero, List.append_nil]
      simp (decide := true) [fnM, seqM, asgM, retM, dropM, op2, cM, cbM, consA, nilA, varM, notV, andV, orV, notB, andB, orB, asB, ifS, ifM, tupM, lstM, callM, slM, someM, noM, itM, rngM, Ask.forM, chM, joinM, negM, augM, nextM, raiseM, R.bind, R.of, toO, bInt, bLen, bType, bAll, bMax, bIsi, D.add, D.sub, D.mul, D.fdiv, D.mod, D.lt, D.le, D.gt, D.ge, D.eq, D.ne, D.is, D.isnt, D.inn, My.ix_tup, My.ix_lst, D.sl, D.items, D.flat, D.isNon, D.tyN, D.tyM, scal, tgN, tg2, isT, kgetM, zipM, jsM, nilJ, consJ, fmtM, retMo, asgMo, dropMo, ifSo, augMo, forMo, newMo, appMo, retOwn, wipeE, qCallOV, consV, nilV, dstM, dispM, insM, plK, seqQ, asgQ, retQ, dropQ, ifQ, ifQe, qN, nH, nV, nVA, noK, noKs, wipeQ, qCons, qNil, qList, Ask.forQ, forGoQ, fnF, fnQf, fnQ2, startQ, toQ, chUp, onL, onD, chO, chPut, putQL, putQD, delQD, rdP, ixP, ixD, ixL, slP, pl0, plF, plK, noErr, nextQ, enM, enumD, kixM, revM, dinM, truM, unpM, unpQ, tg3, fldM, qApp, appF, qExt, extF, qUpd, updF, qPop, popF, pop0F, qMove, qLst, qTup, qDct, q2, qCall, qCallO, ownL, qMeth, qMethL, qMake, fldQ, augQ, dictP, qDict, bTuple, bList, lcM, lcGo, yesM, ixN, mq_l_went, b_l_went, toD, atI_0, atI_1, ixA, D.dix, h']
    | sum a b =>
      unfold Th.hgt at h
      unfold Th.size at hl
      have ca := Th.cnt_size a e
      have i1 := ih a kvs e (st ++ [.int 1]) (by omega) na.1 ht.1 (by omega) hs1 (by rw [List.length_append]; simp; omega)
      have i2 := ih b kvs e (st ++ [.int 1] ++ List.replicate (Th.cnt e a) (.int 1)) (by omega) na.2 ht.2 (by omega) (by rw [noKs_app, hs1, noKs_rep]; rfl) (by simp only [List.length_append, List.length_replicate]; simp; omega)
      rw [rep_two] at i2
      simp only [Th.val, Th.cnt]
      generalize st ++ List.replicate (1 + (Th.cnt e a + Th.cnt e b)) (D.int 1) = stf at i2 ⊢
      generalize st ++ [D.int 1] ++ List.replicate (Th.cnt e a) (D.int 1) = st2 at i1 i2
      simp (decide := true) [fnM, seqM, asgM, retM, dropM, op2, cM, cbM, consA, nilA, varM, notV, andV, orV, notB, andB, orB, asB, ifS, ifM, tupM, lstM, callM, slM, someM, noM, itM, rngM, Ask.forM, chM, joinM, negM, augM, nextM, raiseM, R.bind, R.of, toO, bInt, bLen, bType, bAll, bMax, bIsi, D.add, D.sub, D.mul, D.fdiv, D.mod, D.lt, D.le, D.gt, D.ge, D.eq, D.ne, D.is, D.isnt, D.inn, My.ix_tup, My.ix_lst, D.sl, D.items, D.flat, D.isNon, D.tyN, D.tyM, scal, tgN, tg2, isT, kgetM, zipM, jsM, nilJ, consJ, fmtM, retMo, asgMo, dropMo, ifSo, augMo, forMo, newMo, appMo, retOwn, wipeE, qCallOV, consV, nilV, dstM, dispM, insM, plK, seqQ, asgQ, retQ, dropQ, ifQ, ifQe, qN, nH, nV, nVA, noK, noKs, wipeQ, qCons, qNil, qList, Ask.forQ, forGoQ, fnF, fnQf, fnQ2, startQ, toQ, chUp, onL, onD, chO, chPut, putQL, putQD, delQD, rdP, ixP, ixD, ixL, slP, pl0, plF, plK, noErr, nextQ, enM, enumD, kixM, revM, dinM, truM, unpM, unpQ, tg3, fldM, qApp, appF, qExt, extF, qUpd, updF, qPop, popF, pop0F, qMove, qLst, qTup, qDct, q2, qCall, qCallO, ownL, qMeth, qMethL, qMake, fldQ, augQ, dictP, qDict, bTuple, bList, lcM, lcGo, yesM, ixN, mq_l_went, b_l_went, toD, atI_0, atI_1, atI_2, i1, i2, hl0, chO_none, chPut_none]
    | let_ x a b =>
      unfold Th.hgt at h
      unfold Th.size at hl
      have ca := Th.cnt_size a e
      have cb := Th.cnt_size b (Th.up e x (Th.val e a))
      have i1 := ih a kvs e (st ++ [.int 1]) (by omega) na.1 ht.1 (by omega) hs1 (by rw [List.length_append]; simp; omega)
      have pl := put_len kvs x (.int (Th.val e a))
      have i2 := ih b (putD kvs x (.int (Th.val e a))) (Th.up e x (Th.val e a)) (st ++ [.int 1] ++ List.replicate (Th.cnt e a) (.int 1)) (by omega) na.2 (ht.2.imp fun y z => envIs_up z) (by omega) (by rw [noKs_app, hs1, noKs_rep]; rfl) (by simp only [List.length_append, List.length_replicate]; simp; omega)
      have hno : noKs (st ++ List.replicate (1 + (Th.cnt e a + Th.cnt (Th.up e x (Th.val e a)) b)) (D.int 1)) = true := by rw [noKs_app, hs, noKs_rep]; rfl
      rw [rep_two] at i2
      simp only [Th.val, Th.cnt]
      have hkl : kvs.length ≤ 50000 := by omega
      generalize st ++ List.replicate (1 + (Th.cnt e a + Th.cnt (Th.up e x (Th.val e a)) b)) (D.int 1) = stf at i2 hno ⊢
      generalize st ++ [D.int 1] ++ List.replicate (Th.cnt e a) (D.int 1) = st2 at i1 i2
      simp (decide := true) [fnM, seqM, asgM, retM, dropM, op2, cM, cbM, consA, nilA, varM, notV, andV, orV, notB, andB, orB, asB, ifS, ifM, tupM, lstM, callM, slM, someM, noM, itM, rngM, Ask.forM, chM, joinM, negM, augM, nextM, raiseM, R.bind, R.of, toO, bInt, bLen, bType, bAll, bMax, bIsi, D.add, D.sub, D.mul, D.fdiv, D.mod, D.lt, D.le, D.gt, D.ge, D.eq, D.ne, D.is, D.isnt, D.inn, My.ix_tup, My.ix_lst, D.sl, D.items, D.flat, D.isNon, D.tyN, D.tyM, scal, tgN, tg2, isT, kgetM, zipM, jsM, nilJ, consJ, fmtM, retMo, asgMo, dropMo, ifSo, augMo, forMo, newMo, appMo, retOwn, wipeE, qCallOV, consV, nilV, dstM, dispM, insM, plK, seqQ, asgQ, retQ, dropQ, ifQ, ifQe, qN, nH, nV, nVA, noK, noKs, wipeQ, qCons, qNil, qList, Ask.forQ, forGoQ, fnF, fnQf, fnQ2, startQ, toQ, chUp, onL, onD, chO, chPut, putQL, putQD, delQD, rdP, ixP, ixD, ixL, slP, pl0, plF, plK, noErr, nextQ, enM, enumD, kixM, revM, dinM, truM, unpM, unpQ, tg3, fldM, qApp, appF, qExt, extF, qUpd, updF, qPop, popF, pop0F, qMove, qLst, qTup, qDct, q2, qCall, qCallO, ownL, qMeth, qMethL, qMake, fldQ, augQ, dictP, qDict, bTuple, bList, lcM, lcGo, yesM, ixN, mq_l_went, b_l_went, toD, atI_0, atI_1, atI_2, atI_3, i1, i2, hl0, chO_none, chPut_none, hkl, hno, noK]
    | choose a b c =>
      unfold Th.hgt at h
      unfold Th.size at hl
      have ca := Th.cnt_size a e
      have i1 := ih a kvs e (st ++ [.int 1]) (by omega) na.1 ht.1 (by omega) hs1 (by rw [List.length_append]; simp; omega)
      have i2 := ih b kvs e (st ++ [.int 1] ++ List.replicate (Th.cnt e a) (.int 1)) (by omega) na.2.1 ht.2.1 (by omega) (by rw [noKs_app, hs1, noKs_rep]; rfl) (by simp only [List.length_append, List.length_replicate]; simp; omega)
      have i3 := ih c kvs e (st ++ [.int 1] ++ List.replicate (Th.cnt e a) (.int 1)) (by omega) na.2.2 ht.2.2 (by omega) (by rw [noKs_app, hs1, noKs_rep]; rfl) (by simp only [List.length_append, List.length_replicate]; simp; omega)
      rw [rep_two] at i2 i3
      simp only [Th.val, Th.cnt]
      by_cases hv : Th.val e a = 0
      · rw [if_pos hv, if_pos hv]
        generalize st ++ List.replicate (1 + (Th.cnt e a + Th.cnt e c)) (D.int 1) = stf at i3 ⊢
        generalize st ++ [D.int 1] ++ List.replicate (Th.cnt e a) (D.int 1) = st2 at i1 i3
        simp (decide := true) [fnM, seqM, asgM, retM, dropM, op2, cM, cbM, consA, nilA, varM, notV, andV, orV, notB, andB, orB, asB, ifS, ifM, tupM, lstM, callM, slM, someM, noM, itM, rngM, Ask.forM, chM, joinM, negM, augM, nextM, raiseM, R.bind, R.of, toO, bInt, bLen, bType, bAll, bMax, bIsi, D.add, D.sub, D.mul, D.fdiv, D.mod, D.lt, D.le, D.gt, D.ge, D.eq, D.ne, D.is, D.isnt, D.inn, My.ix_tup, My.ix_lst, D.sl, D.items, D.flat, D.isNon, D.tyN, D.tyM, scal, tgN, tg2, isT, kgetM, zipM, jsM, nilJ, consJ, fmtM, retMo, asgMo, dropMo, ifSo, augMo, forMo, newMo, appMo, retOwn, wipeE, qCallOV, consV, nilV, dstM, dispM, insM, plK, seqQ, asgQ, retQ, dropQ, ifQ, ifQe, qN, nH, nV, nVA, noK, noKs, wipeQ, qCons, qNil, qList, Ask.forQ, forGoQ, fnF, fnQf, fnQ2, startQ, toQ, chUp, onL, onD, chO, chPut, putQL, putQD, delQD, rdP, ixP, ixD, ixL, slP, pl0, plF, plK, noErr, nextQ, enM, enumD, kixM, revM, dinM, truM, unpM, unpQ, tg3, fldM, qApp, appF, qExt, extF, qUpd, updF, qPop, popF, pop0F, qMove, qLst, qTup, qDct, q2, qCall, qCallO, ownL, qMeth, qMethL, qMake, fldQ, augQ, dictP, qDict, bTuple, bList, lcM, lcGo, yesM, ixN, mq_l_went, b_l_went, toD, atI_0, atI_1, atI_2, atI_3, i1, i3, hl0, chO_none, chPut_none, hv]
      · rw [if_neg hv, if_neg hv]
        generalize st ++ List.replicate (1 + (Th.cnt e a + Th.cnt e b)) (D.int 1) = stf at i2 ⊢
        generalize st ++ [D.int 1] ++ List.replicate (Th.cnt e a) (D.int 1) = st2 at i1 i2
        simp (decide := true) [fnM, seqM, asgM, retM, dropM, op2, cM, cbM, consA, nilA, varM, notV, andV, orV, notB, andB, orB, asB, ifS, ifM, tupM, lstM, callM, slM, someM, noM, itM, rngM, Ask.forM, chM, joinM, negM, augM, nextM, raiseM, R.bind, R.of, toO, bInt, bLen, bType, bAll, bMax, bIsi, D.add, D.sub, D.mul, D.fdiv, D.mod, D.lt, D.le, D.gt, D.ge, D.eq, D.ne, D.is, D.isnt, D.inn, My.ix_tup, My.ix_lst, D.sl, D.items, D.flat, D.isNon, D.tyN, D.tyM, scal, tgN, tg2, isT, kgetM, zipM, jsM, nilJ, consJ, fmtM, retMo, asgMo, dropMo, ifSo, augMo, forMo, newMo, appMo, retOwn, wipeE, qCallOV, consV, nilV, dstM, dispM, insM, plK, seqQ, asgQ, retQ, dropQ, ifQ, ifQe, qN, nH, nV, nVA, noK, noKs, wipeQ, qCons, qNil, qList, Ask.forQ, forGoQ, fnF, fnQf, fnQ2, startQ, toQ, chUp, onL, onD, chO, chPut, putQL, putQD, delQD, rdP, ixP, ixD, ixL, slP, pl0, plF, plK, noErr, nextQ, enM, enumD, kixM, revM, dinM, truM, unpM, unpQ, tg3, fldM, qApp, appF, qExt, extF, qUpd, updF, qPop, popF, pop0F, qMove, qLst, qTup, qDct, q2, qCall, qCallO, ownL, qMeth, qMethL, qMake, fldQ, augQ, dictP, qDict, bTuple, bList, lcM, lcGo, yesM, ixN, mq_l_went, b_l_went, toD, atI_0, atI_1, atI_2, atI_3, i1, i2, hl0, chO_none, chPut_none, hv]
    | ask _ _ => exact na.elim
    | hand _ _ _ _ => exact na.elim
end My
namespace My
open PySem L2 Evl Ask
theorem stepsN_head {n : Nat} {p r : Th.Pc} (h : Th.StepsN Th.figs (n + 1) p r) : ∃ q, Th.stp Th.figs p = .go q ∧ Th.StepsN Th.figs n q r := by
  cases h with
  | succ h1 h2 => exact ⟨_, h1, h2⟩
abbrev E5 (S N : D) (p : Th.Pc) (st : List D) (v : Int) (x5 : Option D) : Sl := [some S, some N, some (toD p), some (.lst st), some (.int v), x5]
theorem tup_is (p : Th.Pc) : ∃ ds, toD p = .tup ds := by cases p <;> exact ⟨_, rfl⟩
theorem turn (c0 : Nat) (hc0 : c0 ≤ 100) (S N : D) (st : List D) (v : Int) (i : Nat) (hi : i ≤ 400) (p q : Th.Pc) (h : PInv c0 i p) (hs : Th.stp Th.figs p = .go q) (x5 : Option D) :
    lb_law_0 (E5 S N p st v x5) = .nx (E5 S N q st v x5) := by
  have ht := h.ht
  have hsz : Th.size p ≤ 50000 := by
    have h1 := h.sz
    have h2 : c0 * (i + 1) ≤ 100 * 401 := Nat.mul_le_mul hc0 (by omega)
    omega
  obtain ⟨L, L1, L2⟩ := few p hsz
  have ns := Th.told_stuck (fg := Th.figs) h.told
  have f1 := stands_p p (by omega)
  have f2 := step_p L1 p (by omega) h.gd L2 ns
  rw [hs] at f1 f2
  simp only [stD] at f1
  simp only [goD] at f2
  obtain ⟨ds, e⟩ := tup_is p
  dsimp only [E5]
  rw [e] at f1 f2 ⊢
  generalize toD q = Q at f2 ⊢
  simp (decide := true) [fnM, seqM, asgM, retM, dropM, op2, cM, cbM, consA, nilA, varM, notV, andV, orV, notB, andB, orB, asB, ifS, ifM, tupM, lstM, callM, slM, someM, noM, itM, rngM, Ask.forM, chM, joinM, negM, augM, nextM, raiseM, R.bind, R.of, toO, bInt, bLen, bType, bAll, bMax, bIsi, D.add, D.sub, D.mul, D.fdiv, D.mod, D.lt, D.le, D.gt, D.ge, D.eq, D.ne, D.is, D.isnt, D.inn, My.ix_tup, My.ix_lst, D.sl, D.items, D.flat, D.isNon, D.tyN, D.tyM, scal, tgN, tg2, isT, kgetM, zipM, jsM, nilJ, consJ, fmtM, retMo, asgMo, dropMo, ifSo, augMo, forMo, newMo, appMo, retOwn, wipeE, qCallOV, consV, nilV, dstM, dispM, insM, plK, seqQ, asgQ, retQ, dropQ, ifQ, ifQe, qN, nH, nV, nVA, noK, noKs, wipeQ, qCons, qNil, qList, Ask.forQ, forGoQ, fnF, fnQf, fnQ2, startQ, toQ, chUp, onL, onD, chO, chPut, putQL, putQD, delQD, rdP, ixP, ixD, ixL, slP, pl0, plF, plK, noErr, nextQ, enM, enumD, kixM, revM, dinM, truM, unpM, unpQ, tg3, fldM, qApp, appF, qExt, extF, qUpd, updF, qPop, popF, pop0F, qMove, qLst, qTup, qDct, q2, qCall, qCallO, ownL, qMeth, qMethL, qMake, fldQ, augQ, dictP, qDict, bTuple, bList, lcM, lcGo, yesM, ixN, lb_law_0, f1, f2, kit_tup_tup]
theorem alike_num (v : Int) : m_l_alike 60 [.tup [.str "num", .int v], .tup [.str "num", .int v]] = .ok (.bl true) := alike_ok 60 _ rfl rfl (by simp [dep, deps])
theorem law_true : ∀ ns : List Int, ns.length ≤ 63 → mf_law [.klst (ns.map D.int)] = .ok (.bl true) := by
  intro ns hl
  obtain ⟨a0, c0⟩ : ∃ a, m_l_cell_at [.klst (ns.map D.int), .int 0] = .ok (.int a) := ⟨_, cell_at ns 0⟩
  obtain ⟨names, n1, n2, n3⟩ := names_ok a0
  have nm : Names names := ⟨n2, n3⟩
  obtain ⟨cells, u1, u2⟩ := cells_cut ns 1 31
  have u3 : cells.length ≤ 30 := Nat.le_trans u2 (cut_len ns 1 31)
  obtain ⟨p, o1, o2, o3⟩ := piece_ok nm True 5 (.inr rfl) (fun _ => rfl) cells (by omega)
  have hna : Th.NoAsk p := o2.ask trivial
  have hcut : D.sl (.klst (ns.map D.int)) (some 1) (some 31) = some (.lst (cells.map D.int)) := by
    show some (D.lst (cutD (ns.map D.int) (some 1) (some 31))) = _
    rw [u1]
  generalize D.klst (ns.map D.int) = S at c0 hcut ⊢
  obtain ⟨e0, he0⟩ : ∃ e0 : Str → Int, e0 = fun _ => 0 := ⟨_, rfl⟩
  have hp : PInv (cells.length + 13) 0 p := PInv.of o2 o3
  have hsz : Th.size p ≤ 43 := by have := hp.sz; omega
  have hgt : Th.hgt p ≤ 60 := by have := hp.ht; omega
  have hw := went_ok 60 p [] e0 [] hgt hna (o3.imp fun _ z => z.elim) (by simp) rfl (by simp; omega)
  rw [List.nil_append] at hw
  have hst := Th.steps_val (fg := Th.figs) p hna o3 e0
  have hcs := Th.cnt_size p e0
  generalize Th.cnt e0 p = m at hw hst hcs
  generalize Th.val e0 p = v at hw hst
  have h0 : bs_law_0 [some S, none, none, none, none, none] = .nx [some S, some (.lst (names.map .str)), none, none, none, none] := by simp (decide := true) [fnM, seqM, asgM, retM, dropM, op2, cM, cbM, consA, nilA, varM, notV, andV, orV, notB, andB, orB, asB, ifS, ifM, tupM, lstM, callM, slM, someM, noM, itM, rngM, Ask.forM, chM, joinM, negM, augM, nextM, raiseM, R.bind, R.of, toO, bInt, bLen, bType, bAll, bMax, bIsi, D.add, D.sub, D.mul, D.fdiv, D.mod, D.lt, D.le, D.gt, D.ge, D.eq, D.ne, D.is, D.isnt, D.inn, My.ix_tup, My.ix_lst, D.sl, D.items, D.flat, D.isNon, D.tyN, D.tyM, scal, tgN, tg2, isT, kgetM, zipM, jsM, nilJ, consJ, fmtM, retMo, asgMo, dropMo, ifSo, augMo, forMo, newMo, appMo, retOwn, wipeE, qCallOV, consV, nilV, dstM, dispM, insM, plK, seqQ, asgQ, retQ, dropQ, ifQ, ifQe, qN, nH, nV, nVA, noK, noKs, wipeQ, qCons, qNil, qList, Ask.forQ, forGoQ, fnF, fnQf, fnQ2, startQ, toQ, chUp, onL, onD, chO, chPut, putQL, putQD, delQD, rdP, ixP, ixD, ixL, slP, pl0, plF, plK, noErr, nextQ, enM, enumD, kixM, revM, dinM, truM, unpM, unpQ, tg3, fldM, qApp, appF, qExt, extF, qUpd, updF, qPop, popF, pop0F, qMove, qLst, qTup, qDct, q2, qCall, qCallO, ownL, qMeth, qMethL, qMake, fldQ, augQ, dictP, qDict, bTuple, bList, lcM, lcGo, yesM, ixN, bs_law_0, c0, n1]
  have h1 : bs_law_1 [some S, some (.lst (names.map .str)), none, none, none, none] = .nx [some S, some (.lst (names.map .str)), some (toD p), none, none, none] := by
    have hs : slM (varM 0) (someM (cM (.int 1))) (someM (cM (.int 31))) [some S, some (.lst (names.map .str)), none, none, none, none] = .ok (.lst (cells.map D.int)) := by
      simp only [slM, varM, someM, cM, R.bind, R.of, List.getElem?_cons_zero, hcut]
    have hww : wipeQ sh_law [some S, some (.lst (names.map .str)), none, none, none, none] = [some S, some (.lst (names.map .str)), none, none, none, none] := rfl
    simp only [bs_law_1, asgQ, qN, nH, hww, callM, consA, hs, varM, cM, nilA, R.bind, List.getElem?_cons_zero, List.getElem?_cons_succ, List.length_cons, List.length_nil, o1, toQ, if_true, Nat.zero_add]
    rfl
  have h2 : bs_law_2 [some S, some (.lst (names.map .str)), some (toD p), none, none, none] = .nx [some S, some (.lst (names.map .str)), some (toD p), some (.lst []), none, none] := by simp (decide := true) [fnM, seqM, asgM, retM, dropM, op2, cM, cbM, consA, nilA, varM, notV, andV, orV, notB, andB, orB, asB, ifS, ifM, tupM, lstM, callM, slM, someM, noM, itM, rngM, Ask.forM, chM, joinM, negM, augM, nextM, raiseM, R.bind, R.of, toO, bInt, bLen, bType, bAll, bMax, bIsi, D.add, D.sub, D.mul, D.fdiv, D.mod, D.lt, D.le, D.gt, D.ge, D.eq, D.ne, D.is, D.isnt, D.inn, My.ix_tup, My.ix_lst, D.sl, D.items, D.flat, D.isNon, D.tyN, D.tyM, scal, tgN, tg2, isT, kgetM, zipM, jsM, nilJ, consJ, fmtM, retMo, asgMo, dropMo, ifSo, augMo, forMo, newMo, appMo, retOwn, wipeE, qCallOV, consV, nilV, dstM, dispM, insM, plK, seqQ, asgQ, retQ, dropQ, ifQ, ifQe, qN, nH, nV, nVA, noK, noKs, wipeQ, qCons, qNil, qList, Ask.forQ, forGoQ, fnF, fnQf, fnQ2, startQ, toQ, chUp, onL, onD, chO, chPut, putQL, putQD, delQD, rdP, ixP, ixD, ixL, slP, pl0, plF, plK, noErr, nextQ, enM, enumD, kixM, revM, dinM, truM, unpM, unpQ, tg3, fldM, qApp, appF, qExt, extF, qUpd, updF, qPop, popF, pop0F, qMove, qLst, qTup, qDct, q2, qCall, qCallO, ownL, qMeth, qMethL, qMake, fldQ, augQ, dictP, qDict, bTuple, bList, lcM, lcGo, yesM, ixN, bs_law_2]
  have h3 : bs_law_3 [some S, some (.lst (names.map .str)), some (toD p), some (.lst []), none, none] = .nx (E5 S (.lst (names.map .str)) p (List.replicate m (.int 1)) v none) := by simp (decide := true) [fnM, seqM, asgM, retM, dropM, op2, cM, cbM, consA, nilA, varM, notV, andV, orV, notB, andB, orB, asB, ifS, ifM, tupM, lstM, callM, slM, someM, noM, itM, rngM, Ask.forM, chM, joinM, negM, augM, nextM, raiseM, R.bind, R.of, toO, bInt, bLen, bType, bAll, bMax, bIsi, D.add, D.sub, D.mul, D.fdiv, D.mod, D.lt, D.le, D.gt, D.ge, D.eq, D.ne, D.is, D.isnt, D.inn, My.ix_tup, My.ix_lst, D.sl, D.items, D.flat, D.isNon, D.tyN, D.tyM, scal, tgN, tg2, isT, kgetM, zipM, jsM, nilJ, consJ, fmtM, retMo, asgMo, dropMo, ifSo, augMo, forMo, newMo, appMo, retOwn, wipeE, qCallOV, consV, nilV, dstM, dispM, insM, plK, seqQ, asgQ, retQ, dropQ, ifQ, ifQe, qN, nH, nV, nVA, noK, noKs, wipeQ, qCons, qNil, qList, Ask.forQ, forGoQ, fnF, fnQf, fnQ2, startQ, toQ, chUp, onL, onD, chO, chPut, putQL, putQD, delQD, rdP, ixP, ixD, ixL, slP, pl0, plF, plK, noErr, nextQ, enM, enumD, kixM, revM, dinM, truM, unpM, unpQ, tg3, fldM, qApp, appF, qExt, extF, qUpd, updF, qPop, popF, pop0F, qMove, qLst, qTup, qDct, q2, qCall, qCallO, ownL, qMeth, qMethL, qMake, fldQ, augQ, dictP, qDict, bTuple, bList, lcM, lcGo, yesM, ixN, bs_law_3, hw]
  have hr : rngM (consA (cbM bLen (consA (varM 3) nilA)) nilA) (E5 S (.lst (names.map .str)) p (List.replicate m (.int 1)) v none) = .ok (rangeD 0 m) := rng_at0 (N := (m : Int)) (by simp (decide := true) [fnM, seqM, asgM, retM, dropM, op2, cM, cbM, consA, nilA, varM, notV, andV, orV, notB, andB, orB, asB, ifS, ifM, tupM, lstM, callM, slM, someM, noM, itM, rngM, Ask.forM, chM, joinM, negM, augM, nextM, raiseM, R.bind, R.of, toO, bInt, bLen, bType, bAll, bMax, bIsi, D.add, D.sub, D.mul, D.fdiv, D.mod, D.lt, D.le, D.gt, D.ge, D.eq, D.ne, D.is, D.isnt, D.inn, My.ix_tup, My.ix_lst, D.sl, D.items, D.flat, D.isNon, D.tyN, D.tyM, scal, tgN, tg2, isT, kgetM, zipM, jsM, nilJ, consJ, fmtM, retMo, asgMo, dropMo, ifSo, augMo, forMo, newMo, appMo, retOwn, wipeE, qCallOV, consV, nilV, dstM, dispM, insM, plK, seqQ, asgQ, retQ, dropQ, ifQ, ifQe, qN, nH, nV, nVA, noK, noKs, wipeQ, qCons, qNil, qList, Ask.forQ, forGoQ, fnF, fnQf, fnQ2, startQ, toQ, chUp, onL, onD, chO, chPut, putQL, putQD, delQD, rdP, ixP, ixD, ixL, slP, pl0, plF, plK, noErr, nextQ, enM, enumD, kixM, revM, dinM, truM, unpM, unpQ, tg3, fldM, qApp, appF, qExt, extF, qUpd, updF, qPop, popF, pop0F, qMove, qLst, qTup, qDct, q2, qCall, qCallO, ownL, qMeth, qMethL, qMake, fldQ, augQ, dictP, qDict, bTuple, bList, lcM, lcGo, yesM, ixN, List.length_replicate]) ⟨by omega, by omega⟩ rfl
  obtain ⟨e', h4, q, x5, rfl, iq, sq⟩ := forGoQ_inv (b := tgN 5) (body := lb_law_0) (fun i env => ∃ (q : Th.Pc) (x5 : Option D), env = E5 S (.lst (names.map .str)) q (List.replicate m (.int 1)) v x5 ∧ PInv (cells.length + 13) i q ∧ Th.StepsN Th.figs (m - i) q (.num v))
    (rangeD 0 m) 0 (E5 S (.lst (names.map .str)) p (List.replicate m (.int 1)) v none) ⟨p, _, rfl, hp, hst⟩ (fun i d env _ hd ⟨q, x5, he, ih, sn⟩ => by
      subst he
      obtain ⟨hi, rfl⟩ := rangeD_get hd
      rw [Nat.sub_zero] at hi
      have e1 : m - i = (m - (i + 1)) + 1 := by omega
      rw [e1] at sn
      obtain ⟨q', g1, g2⟩ := stepsN_head sn
      refine ⟨_, _, rfl, turn (cells.length + 13) (by omega) S (.lst (names.map .str)) (List.replicate m (.int 1)) v i (by omega) q q' ih g1 (some (.int (0 + ((i - 0 : Nat) : Int)))), q', _, rfl, ih.go g1, g2⟩)
  rw [rangeD_len, Nat.zero_add, Nat.sub_self] at sq
  rw [rangeD_len, Nat.zero_add] at iq
  cases sq
  have hb4 : bs_law_4 (E5 S (.lst (names.map .str)) p (List.replicate m (.int 1)) v none) = .nx (E5 S (.lst (names.map .str)) (.num v) (List.replicate m (.int 1)) v x5) := by
    unfold bs_law_4
    rw [forq_eq hr]
    exact h4
  have f1 := stands_p (.num v) (by simp [Th.hgt])
  have f2 := step_p (L := []) (by simp) (.num v) (by simp [Th.hgt]) iq.gd (fun y hy => by cases hy) (fun z => by cases z)
  simp only [Th.stp, stD, goD] at f1 f2
  have f3 := alike_num v
  have h5 : ∃ e, bs_law_5 (E5 S (.lst (names.map .str)) (.num v) (List.replicate m (.int 1)) v x5) = .rt (.bl true) e := by
    refine ⟨E5 S (.lst (names.map .str)) (.num v) (List.replicate m (.int 1)) v x5, ?_⟩
    simp only [toD] at f1 f2
    simp (decide := true) [fnM, seqM, asgM, retM, dropM, op2, cM, cbM, consA, nilA, varM, notV, andV, orV, notB, andB, orB, asB, ifS, ifM, tupM, lstM, callM, slM, someM, noM, itM, rngM, Ask.forM, chM, joinM, negM, augM, nextM, raiseM, R.bind, R.of, toO, bInt, bLen, bType, bAll, bMax, bIsi, D.add, D.sub, D.mul, D.fdiv, D.mod, D.lt, D.le, D.gt, D.ge, D.eq, D.ne, D.is, D.isnt, D.inn, My.ix_tup, My.ix_lst, D.sl, D.items, D.flat, D.isNon, D.tyN, D.tyM, scal, tgN, tg2, isT, kgetM, zipM, jsM, nilJ, consJ, fmtM, retMo, asgMo, dropMo, ifSo, augMo, forMo, newMo, appMo, retOwn, wipeE, qCallOV, consV, nilV, dstM, dispM, insM, plK, seqQ, asgQ, retQ, dropQ, ifQ, ifQe, qN, nH, nV, nVA, noK, noKs, wipeQ, qCons, qNil, qList, Ask.forQ, forGoQ, fnF, fnQf, fnQ2, startQ, toQ, chUp, onL, onD, chO, chPut, putQL, putQD, delQD, rdP, ixP, ixD, ixL, slP, pl0, plF, plK, noErr, nextQ, enM, enumD, kixM, revM, dinM, truM, unpM, unpQ, tg3, fldM, qApp, appF, qExt, extF, qUpd, updF, qPop, popF, pop0F, qMove, qLst, qTup, qDct, q2, qCall, qCallO, ownL, qMeth, qMethL, qMake, fldQ, augQ, dictP, qDict, bTuple, bList, lcM, lcGo, yesM, ixN, bs_law_5, toD, f1, f2, f3]
  obtain ⟨e, h5⟩ := h5
  refine fnf_rt (e := e) rfl ?_
  rw [bt_law]
  exact (seqq_nx h0).trans ((seqq_nx h1).trans ((seqq_nx h2).trans ((seqq_nx h3).trans ((seqq_nx hb4).trans h5))))
end My
open PySem PySem.W PyProof.Rows
set_option maxRecDepth 100000 in
set_option maxHeartbeats 0 in
theorem PySem.Challenge.cw_askmark_k05_steps_without_asks_holds : PySem.Challenge.rw_askmark_k05_steps_without_asks.Holds := by
  w_on; o_law; k_head; (case hw => w_witness2)
  k_fill
  refine Ask.walk_lawF (k := 65) (x := "_law_script") (m := My.mf_law) (l := PySem.Challenge.rw_askmark_k05_steps_without_asks) rfl rfl ⟨rfl, by decide, by decide⟩ (fun w h Y => PySem.W.kIn_of Y) ?F My.law_true
  case F =>
    intro w mg fa h KX G hmg
    refine' My.all_mk KX G hmg ?fa0 ?fl0 ?fc0 ?fk0 ?fa1 ?fl1 ?fc1 ?fk1 ?fa2 ?fl2 ?fc2 ?fk2 ?fa3 ?fl3 ?fc3 ?fk3 ?fa4 ?fl4 ?fc4 ?fk4 ?fa5 ?fl5 ?fc5 ?fk5 ?fa6 ?fl6 ?fc6 ?fk6 ?fa7 ?fl7 ?fc7 ?fk7 ?fa8 ?fl8 ?fc8 ?fk8 ?fa9 ?fl9 ?fc9 ?fk9 ?fa10 ?fl10 ?fc10 ?fk10 ?fa11 ?fl11 ?fc11 ?fk11 ?fa12 ?fl12 ?fc12 ?fk12 ?fa13 ?fl13 ?fc13 ?fk13 ?fa14 ?fl14 ?fc14 ?fk14 ?fa15 ?fl15 ?fc15 ?fk15 ?fa16 ?fl16 ?fc16 ?fk16 ?fa17 ?fl17 ?fc17 ?fk17 ?fa18 ?fl18 ?fc18 ?fk18 ?fa19 ?fl19 ?fc19 ?fk19 ?fa20 ?fl20 ?fc20 ?fk20 ?fa21 ?fl21 ?fc21 ?fk21 ?fa22 ?fl22 ?fc22 ?fk22 ?fa23 ?fl23 ?fc23 ?fk23 ?fa24 ?fl24 ?fc24 ?fk24 ?fa25 ?fl25 ?fc25 ?fk25 ?n_all ?n_bool ?n_dict ?n_enumerate ?n_int ?n_isinstance ?n_len ?n_list ?n_max ?n_range ?n_reversed ?n_str ?n_tuple ?n_zip ?a_FORMS ?l_FORMS ?q_FORMS ?z_FORMS ?e_FORMS ?a_LARGEST_NUMBER ?a_WORKED_OUT ?l_WORKED_OUT ?q_WORKED_OUT ?z_WORKED_OUT ?e_WORKED_OUT
    (case fa0 => k_is)
    (case fl0 => k_is)
    (case fc0 => k_is)
    (case fk0 => k_is)
    (case fa1 => k_is)
    (case fl1 => k_is)
    (case fc1 => k_is)
    (case fk1 => k_is)
    (case fa2 => k_is)
    (case fl2 => k_is)
    (case fc2 => k_is)
    (case fk2 => k_is)
    (case fa3 => k_is)
    (case fl3 => k_is)
    (case fc3 => k_is)
    (case fk3 => k_is)
    (case fa4 => k_is)
    (case fl4 => k_is)
    (case fc4 => k_is)
    (case fk4 => k_is)
    (case fa5 => k_is)
    (case fl5 => k_is)
    (case fc5 => k_is)
    (case fk5 => k_is)
    (case fa6 => k_is)
    (case fl6 => k_is)
    (case fc6 => k_is)
    (case fk6 => k_is)
    (case fa7 => k_is)
    (case fl7 => k_is)
    (case fc7 => k_is)
    (case fk7 => k_is)
    (case fa8 => k_is)
    (case fl8 => k_is)
    (case fc8 => k_is)
    (case fk8 => k_is)
    (case fa9 => k_is)
    (case fl9 => k_is)
    (case fc9 => k_is)
    (case fk9 => k_is)
    (case fa10 => k_is)
    (case fl10 => k_is)
    (case fc10 => k_is)
    (case fk10 => k_is)
    (case fa11 => k_is)
    (case fl11 => k_is)
    (case fc11 => k_is)
    (case fk11 => k_is)
    (case fa12 => k_is)
    (case fl12 => k_is)
    (case fc12 => k_is)
    (case fk12 => k_is)
    (case fa13 => k_is)
    (case fl13 => k_is)
    (case fc13 => k_is)
    (case fk13 => k_is)
    (case fa14 => k_is)
    (case fl14 => k_is)
    (case fc14 => k_is)
    (case fk14 => k_is)
    (case fa15 => k_is)
    (case fl15 => k_is)
    (case fc15 => k_is)
    (case fk15 => k_is)
    (case fa16 => k_is)
    (case fl16 => k_is)
    (case fc16 => k_is)
    (case fk16 => k_is)
    (case fa17 => k_is)
    (case fl17 => k_is)
    (case fc17 => k_is)
    (case fk17 => k_is)
    (case fa18 => k_is)
    (case fl18 => k_is)
    (case fc18 => k_is)
    (case fk18 => k_is)
    (case fa19 => k_is)
    (case fl19 => k_is)
    (case fc19 => k_is)
    (case fk19 => k_is)
    (case fa20 => k_is)
    (case fl20 => k_is)
    (case fc20 => k_is)
    (case fk20 => k_is)
    (case fa21 => k_is)
    (case fl21 => k_is)
    (case fc21 => k_is)
    (case fk21 => k_is)
    (case fa22 => k_is)
    (case fl22 => k_is)
    (case fc22 => k_is)
    (case fk22 => k_is)
    (case fa23 => k_is)
    (case fl23 => k_is)
    (case fc23 => k_is)
    (case fk23 => k_is)
    (case fa24 => k_is)
    (case fl24 => k_is)
    (case fc24 => k_is)
    (case fk24 => k_is)
    (case fa25 => k_is)
    (case fl25 => k_is)
    (case fc25 => k_is)
    (case fk25 => k_is)
    (case n_all => k_is)
    (case n_bool => k_is)
    (case n_dict => k_is)
    (case n_enumerate => k_is)
    (case n_int => k_is)
    (case n_isinstance => k_is)
    (case n_len => k_is)
    (case n_list => k_is)
    (case n_max => k_is)
    (case n_range => k_is)
    (case n_reversed => k_is)
    (case n_str => k_is)
    (case n_tuple => k_is)
    (case n_zip => k_is)
    (case a_FORMS => k_is)
    (case l_FORMS => k_is)
    (case q_FORMS => (repeat (first | exact True.intro | exact ⟨⟨_, _, rfl, rfl⟩, True.intro⟩ | refine ⟨⟨_, _, rfl, rfl⟩, ?_⟩)))
    (case z_FORMS => decide)
    (case e_FORMS => (refine .cons ⟨⟨_, rfl⟩, .ref _, rfl, fun B H => .ktup (.inr ?_) (Ask.RpA0.strs ["number"])⟩ ?_; (refine' Ask.ktup_mk ?h ?c ?d ?z ?v; (case h => k_is); (case c => rfl); (case d => rfl); (case z => decide); (case v => exact (.cons ⟨_, rfl⟩ .nil))); refine .cons ⟨⟨_, rfl⟩, .ref _, rfl, fun B H => .ktup (.inr ?_) (Ask.RpA0.strs ["name"])⟩ ?_; (refine' Ask.ktup_mk ?h ?c ?d ?z ?v; (case h => k_is); (case c => rfl); (case d => rfl); (case z => decide); (case v => exact (.cons ⟨_, rfl⟩ .nil))); refine .cons ⟨⟨_, rfl⟩, .ref _, rfl, fun B H => .ktup (.inr ?_) (Ask.RpA0.strs ["piece", "piece"])⟩ ?_; (refine' Ask.ktup_mk ?h ?c ?d ?z ?v; (case h => k_is); (case c => rfl); (case d => rfl); (case z => decide); (case v => exact (.cons ⟨_, rfl⟩ (.cons ⟨_, rfl⟩ .nil)))); refine .cons ⟨⟨_, rfl⟩, .ref _, rfl, fun B H => .ktup (.inr ?_) (Ask.RpA0.strs ["name", "piece", "piece"])⟩ ?_; (refine' Ask.ktup_mk ?h ?c ?d ?z ?v; (case h => k_is); (case c => rfl); (case d => rfl); (case z => decide); (case v => exact (.cons ⟨_, rfl⟩ (.cons ⟨_, rfl⟩ (.cons ⟨_, rfl⟩ .nil))))); refine .cons ⟨⟨_, rfl⟩, .ref _, rfl, fun B H => .ktup (.inr ?_) (Ask.RpA0.strs ["piece", "piece", "piece"])⟩ ?_; (refine' Ask.ktup_mk ?h ?c ?d ?z ?v; (case h => k_is); (case c => rfl); (case d => rfl); (case z => decide); (case v => exact (.cons ⟨_, rfl⟩ (.cons ⟨_, rfl⟩ (.cons ⟨_, rfl⟩ .nil))))); refine .cons ⟨⟨_, rfl⟩, .ref _, rfl, fun B H => .ktup (.inr ?_) (Ask.RpA0.strs ["kind", "piece"])⟩ ?_; (refine' Ask.ktup_mk ?h ?c ?d ?z ?v; (case h => k_is); (case c => rfl); (case d => rfl); (case z => decide); (case v => exact (.cons ⟨_, rfl⟩ (.cons ⟨_, rfl⟩ .nil)))); refine .cons ⟨⟨_, rfl⟩, .ref _, rfl, fun B H => .ktup (.inr ?_) (Ask.RpA0.strs ["kind", "name", "piece", "piece"])⟩ ?_; (refine' Ask.ktup_mk ?h ?c ?d ?z ?v; (case h => k_is); (case c => rfl); (case d => rfl); (case z => decide); (case v => exact (.cons ⟨_, rfl⟩ (.cons ⟨_, rfl⟩ (.cons ⟨_, rfl⟩ (.cons ⟨_, rfl⟩ .nil)))))); exact .nil))
    (case a_LARGEST_NUMBER => k_is)
    (case a_WORKED_OUT => k_is)
    (case l_WORKED_OUT => k_is)
    (case q_WORKED_OUT => (repeat (first | exact True.intro | exact ⟨⟨_, _, rfl, rfl⟩, True.intro⟩ | refine ⟨⟨_, _, rfl, rfl⟩, ?_⟩)))
    (case z_WORKED_OUT => decide)
    (case e_WORKED_OUT => (refine .cons ⟨⟨_, rfl⟩, .ref _, rfl, fun B H => .ktup (.inr ?_) (Ask.RpA0.strs [])⟩ ?_; (refine' Ask.ktup_mk ?h ?c ?d ?z ?v; (case h => k_is); (case c => rfl); (case d => rfl); (case z => decide); (case v => exact .nil)); refine .cons ⟨⟨_, rfl⟩, .ref _, rfl, fun B H => .ktup (.inr ?_) (Ask.RpA0.strs [])⟩ ?_; (refine' Ask.ktup_mk ?h ?c ?d ?z ?v; (case h => k_is); (case c => rfl); (case d => rfl); (case z => decide); (case v => exact .nil)); refine .cons ⟨⟨_, rfl⟩, .ref _, rfl, fun B H => .ktup (.inr ?_) (Ask.RpA0.ints [1, 2])⟩ ?_; (refine' Ask.ktup_mk ?h ?c ?d ?z ?v; (case h => k_is); (case c => rfl); (case d => rfl); (case z => decide); (case v => exact (.cons ⟨_, rfl⟩ (.cons ⟨_, rfl⟩ .nil)))); refine .cons ⟨⟨_, rfl⟩, .ref _, rfl, fun B H => .ktup (.inr ?_) (Ask.RpA0.ints [2])⟩ ?_; (refine' Ask.ktup_mk ?h ?c ?d ?z ?v; (case h => k_is); (case c => rfl); (case d => rfl); (case z => decide); (case v => exact (.cons ⟨_, rfl⟩ .nil))); refine .cons ⟨⟨_, rfl⟩, .ref _, rfl, fun B H => .ktup (.inr ?_) (Ask.RpA0.ints [1])⟩ ?_; (refine' Ask.ktup_mk ?h ?c ?d ?z ?v; (case h => k_is); (case c => rfl); (case d => rfl); (case z => decide); (case v => exact (.cons ⟨_, rfl⟩ .nil))); refine .cons ⟨⟨_, rfl⟩, .ref _, rfl, fun B H => .ktup (.inr ?_) (Ask.RpA0.ints [2])⟩ ?_; (refine' Ask.ktup_mk ?h ?c ?d ?z ?v; (case h => k_is); (case c => rfl); (case d => rfl); (case z => decide); (case v => exact (.cons ⟨_, rfl⟩ .nil))); refine .cons ⟨⟨_, rfl⟩, .ref _, rfl, fun B H => .ktup (.inr ?_) (Ask.RpA0.ints [4])⟩ ?_; (refine' Ask.ktup_mk ?h ?c ?d ?z ?v; (case h => k_is); (case c => rfl); (case d => rfl); (case z => decide); (case v => exact (.cons ⟨_, rfl⟩ .nil))); exact .nil))

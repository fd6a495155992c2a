import PyProof.Rows.All
import Wide.All
import OpenK.AllK
import Wide.FinOn
import HandS.ForExc
import HandS.Evl
import HandS.Comp
import HandS.Iter
import HandS.Text
import HandS.More
import HandS.IsInst
import HandS.Zip
import HandS.TupAny
import HandS.FStr
import HandS.Small
import HandS.ExcIs
import PySem.Challenge.RW_askmark_k04_what_is_no_piece
set_option Elab.async false
set_option linter.all false
set_option maxRecDepth 100000
/-! The values of a run without a heap, and rules that tell a def's answer as a plain function of them. -/
namespace Ask
open PySem L2 Evl
/-- a value with all that it holds -/
inductive D where
  | non | bl (b : Bool) | int (i : Int) | str (s : Str) | ty (n : String) | tup (ds : List D) | lst (ds : List D) | ktup (ds : List D) | klst (ds : List D)
  | dct (kvs : List (Str × D)) | own (a : Addr)
/-- slots -/
abbrev Sl := List (Option D)
mutual
inductive Rp0 (K : PySem.W.Frag) (H : Hp) : V → D → Prop
  | non : Rp0 K H .non .non
  | bl (b : Bool) : Rp0 K H (.bl b) (.bl b)
  | int (i : Int) : Rp0 K H (.int i) (.int i)
  | str (x : Str) : Rp0 K H (.str x) (.str x)
  | ty (n : String) : Rp0 K H (.ty n) (.ty n)
  | own (a : Addr) : Rp0 K H (.ref a) (.own a)
  | tup {a : Addr} {xs : List V} {ds : List D} : H a = some (.tup xs) → RpA0 K H xs ds → Rp0 K H (.ref a) (.tup ds)
  | lst {a : Addr} {xs : List V} {ds : List D} : H a = some (.lst xs) → RpA0 K H xs ds → Rp0 K H (.ref a) (.lst ds)
  | ktup {a : Addr} {xs : List V} {ds : List D} : SqT K H a xs → RpA0 K H xs ds → Rp0 K H (.ref a) (.ktup ds)
  | klst {a : Addr} {xs : List V} {ds : List D} : SqL K H a xs → RpA0 K H xs ds → Rp0 K H (.ref a) (.klst ds)
  | dct {a : Addr} {xs : List (Key × V)} {ds : List (Str × D)} : H a = some (.dK xs) → RpD0 K H xs ds → Rp0 K H (.ref a) (.dct ds)
inductive RpA0 (K : PySem.W.Frag) (H : Hp) : List V → List D → Prop
  | nil : RpA0 K H [] []
  | cons {v : V} {vs : List V} {d : D} {ds : List D} : Rp0 K H v d → RpA0 K H vs ds → RpA0 K H (v :: vs) (d :: ds)
inductive RpD0 (K : PySem.W.Frag) (H : Hp) : List (Key × V) → List (Str × D) → Prop
  | nil : RpD0 K H [] []
  | cons {k : Str} {v : V} {vs : List (Key × V)} {d : D} {ds : List (Str × D)} : Rp0 K H v d → RpD0 K H vs ds → RpD0 K H ((Sum.inr k, v) :: vs) ((k, d) :: ds)
end
section
variable {K : PySem.W.Frag} {H H' : Hp}
mutual
theorem Rp0.mono (e : Ex H H') : ∀ {v : V} {d : D}, Rp0 K H v d → Rp0 K H' v d
  | _, _, .non => .non
  | _, _, .bl b => .bl b
  | _, _, .int b => .int b
  | _, _, .str b => .str b
  | _, _, .ty b => .ty b
  | _, _, .own b => .own b
  | _, _, .tup h r => .tup (e _ _ h) (RpA0.mono e r)
  | _, _, .lst h r => .lst (e _ _ h) (RpA0.mono e r)
  | _, _, .ktup h r => .ktup (ex_t e h) (RpA0.mono e r)
  | _, _, .klst h r => .klst (ex_l e h) (RpA0.mono e r)
  | _, _, .dct h r => .dct (e _ _ h) (RpD0.mono e r)
theorem RpA0.mono (e : Ex H H') : ∀ {v : List V} {d : List D}, RpA0 K H v d → RpA0 K H' v d
  | _, _, .nil => .nil
  | _, _, .cons h r => .cons (Rp0.mono e h) (RpA0.mono e r)
theorem RpD0.mono (e : Ex H H') : ∀ {v : List (Key × V)} {d : List (Str × D)}, RpD0 K H v d → RpD0 K H' v d
  | _, _, .nil => .nil
  | _, _, .cons h r => .cons (Rp0.mono e h) (RpD0.mono e r)
end
theorem RpA0.length : ∀ {xs : List V} {ds : List D}, RpA0 K H xs ds → xs.length = ds.length
  | _, _, .nil => rfl
  | _, _, .cons _ r => congrArg (· + 1) r.length
theorem RpA0.append : ∀ {xs ys : List V} {ds es : List D}, RpA0 K H xs ds → RpA0 K H ys es → RpA0 K H (xs ++ ys) (ds ++ es)
  | _, _, _, _, .nil, s => s
  | _, _, _, _, .cons h r, s => .cons h (RpA0.append r s)
theorem RpA0.take : ∀ {xs : List V} {ds : List D} (n : Nat), RpA0 K H xs ds → RpA0 K H (xs.take n) (ds.take n)
  | _, _, 0, _ => by simp only [List.take_zero]; exact .nil
  | _, _, _ + 1, .nil => .nil
  | _, _, n + 1, .cons h r => .cons h (RpA0.take n r)
theorem RpA0.drop : ∀ {xs : List V} {ds : List D} (n : Nat), RpA0 K H xs ds → RpA0 K H (xs.drop n) (ds.drop n)
  | _, _, 0, r => r
  | _, _, _ + 1, .nil => .nil
  | _, _, n + 1, .cons _ r => RpA0.drop n r
theorem RpA0.get : ∀ {xs : List V} {ds : List D} {i : Nat} {d : D}, RpA0 K H xs ds → ds[i]? = some d → ∃ v, xs[i]? = some v ∧ Rp0 K H v d
  | _, _, 0, d, .cons h _, e => by simp at e; subst e; exact ⟨_, rfl, h⟩
  | _, _, i + 1, d, .cons _ r, e => by
    obtain ⟨v, h1, h2⟩ := RpA0.get (i := i) (d := d) r (by simpa using e)
    exact ⟨v, by simpa using h1, h2⟩
theorem RpA0.get' : ∀ {xs : List V} {ds : List D} {i : Nat} {v : V}, RpA0 K H xs ds → xs[i]? = some v → ∃ d, ds[i]? = some d ∧ Rp0 K H v d
  | _, _, 0, d, .cons h _, e => by simp at e; subst e; exact ⟨_, rfl, h⟩
  | _, _, i + 1, d, .cons _ r, e => by
    obtain ⟨v, h1, h2⟩ := RpA0.get' (i := i) (v := d) r (by simpa using e)
    exact ⟨v, by simpa using h1, h2⟩
theorem RpA0.ints : ∀ (ns : List Int), RpA0 K H (ns.map V.int) (ns.map D.int)
  | [] => .nil
  | n :: r => .cons (.int n) (RpA0.ints r)
theorem RpA0.strs : ∀ (ns : List Str), RpA0 K H (ns.map V.str) (ns.map D.str)
  | [] => .nil
  | n :: r => .cons (.str n) (RpA0.strs r)
end
/-- the heap without what is not to be known -/
def hid (B : List Addr) (H : Hp) : Hp := fun a => if a ∈ B then none else H a
def InB (B : List Addr) (H : Hp) : Prop := ∀ a ∈ B, H a ≠ none
theorem hid_some {B : List Addr} {H : Hp} {a : Addr} {o : HO} (h : hid B H a = some o) : H a = some o := by
  unfold hid at h
  split at h
  · cases h
  · exact h
theorem hid_ex (B : List Addr) (H : Hp) : Ex (hid B H) H := fun a o h => hid_some h
theorem hid_at {B : List Addr} {H : Hp} {a : Addr} {o : HO} (h : H a = some o) (hn : a ∉ B) : hid B H a = some o := by
  unfold hid
  rw [if_neg hn]
  exact h
/-- from one heap to a later one -/
structure Kx (B : List Addr) (H H' : Hp) : Prop where
  ex : Ex H H'
  inB : InB B H
theorem Kx.refl {B : List Addr} {H : Hp} (h : InB B H) : Kx B H H := ⟨Ex.refl H, h⟩
theorem Kx.inB' {B : List Addr} {H H' : Hp} (e : Kx B H H') : InB B H' := fun a ha h => by
  cases q : H a with
  | none => exact e.inB a ha q
  | some o => rw [e.ex a o q] at h; cases h
theorem Kx.trans {B : List Addr} {H H1 H2 : Hp} (a : Kx B H H1) (b : Kx B H1 H2) : Kx B H H2 := ⟨a.ex.trans b.ex, a.inB⟩
theorem Kx.new {B : List Addr} {H : Hp} {p : Addr} {o : HO} (hB : InB B H) (h : H p = none) : Kx B H (upd H p o) := ⟨Ex.new h, hB⟩
theorem Kx.hid {B : List Addr} {H H' : Hp} (e : Kx B H H') : Ex (hid B H) (hid B H') := fun a o h => by
  by_cases ha : a ∈ B
  · unfold Ask.hid at h; rw [if_pos ha] at h; cases h
  · exact hid_at (e.ex a o (hid_some h)) ha
theorem hid_new {B : List Addr} {H : Hp} {p : Addr} {o : HO} (hB : InB B H) (h : H p = none) : Ask.hid B (upd H p o) p = some o := hid_at upd_same fun hp => hB p hp h
abbrev Rp (K : PySem.W.Frag) (B : List Addr) (H : Hp) (v : V) (d : D) : Prop := Rp0 K (hid B H) v d
abbrev RpA (K : PySem.W.Frag) (B : List Addr) (H : Hp) (v : List V) (d : List D) : Prop := RpA0 K (hid B H) v d
theorem Rp0.mv {K : PySem.W.Frag} {B : List Addr} {H H' : Hp} {v : V} {d : D} (r : Rp K B H v d) (e : Kx B H H') : Rp K B H' v d := r.mono e.hid
theorem RpA0.mv {K : PySem.W.Frag} {B : List Addr} {H H' : Hp} {v : List V} {d : List D} (r : RpA K B H v d) (e : Kx B H H') : RpA K B H' v d := r.mono e.hid
/-- what comes of something: a value, an error of a class by its name, or nothing is said -/
inductive R (α : Type) where
  | ok (a : α) | err (c : Str) | bad
namespace R
def bind {α β : Type} (x : R α) (f : α → R β) : R β := match x with
  | .ok a => f a
  | .err c => .err c
  | .bad => .bad
def of {α : Type} : Option α → R α
  | some a => .ok a
  | none => .bad
end R
/-- the class at a name -/
def clsV (mg : Str → Option Value) (c : Str) : Value := (mg c).getD .none
section
variable {α β γ δ : Type}
/-- what is wanted behind -/
def Po (rel : List Addr → Hp → β → α → Prop) (mg : Str → Option Value) (W : WX) (σ : L2.St) (B : List Addr) (H : Hp) (Q : β → Hp → Prop) : R α → Prop
  | .ok a => ∀ v H', Kx B H H' → rel B H' v a → Q v H'
  | .err c => ∀ H', Kx B H H' → W (clsV mg c) none σ H'
  | .bad => False
variable {B : List Addr} {rel : List Addr → Hp → β → α → Prop} {rel' : List Addr → Hp → δ → γ → Prop} {mg : Str → Option Value} {W : WX} {σ : L2.St} {H H1 : Hp} {Q : β → Hp → Prop} {Q' : δ → Hp → Prop}
theorem Po.mono (e : Kx B H H1) : ∀ {x : R α}, Po rel mg W σ B H Q x → Po rel mg W σ B H1 Q x
  | .ok _, h => fun v H' a r => h v H' (e.trans a) r
  | .err _, h => fun H' a => h H' (e.trans a)
  | .bad, h => h
theorem Po.step {x : R γ} {f : γ → R α} (h : Po rel mg W σ B H Q (x.bind f)) (k : ∀ a, x = .ok a → ∀ v H1, Kx B H H1 → rel' B H1 v a → Po rel mg W σ B H1 Q (f a) → Q' v H1) : Po rel' mg W σ B H Q' x := by
  cases x with
  | ok a => exact fun v H1 e r => k a rfl v H1 e r (Po.mono e h)
  | err c => exact h
  | bad => exact h
theorem Po.imp {Q2 : β → Hp → Prop} (k : ∀ v H', Kx B H H' → Q v H' → Q2 v H') : ∀ {x : R α}, Po rel mg W σ B H Q x → Po rel mg W σ B H Q2 x
  | .ok _, h => fun v H' a r => k v H' a (h v H' a r)
  | .err _, h => h
  | .bad, h => h
end
/-- slots and what stands in them -/
structure RS (K : PySem.W.Frag) (B : List Addr) (H : Hp) (σ : L2.St) (env : Sl) : Prop where
  inB : InB B H
  len : σ.length = env.length
  get : ∀ (i : Nat) (d : D), env[i]? = some (some d) → ∃ v, σ[i]? = some (some v) ∧ Rp K B H v d
section
variable {K : PySem.W.Frag} {B : List Addr} {H H' : Hp} {σ : L2.St} {env : Sl}
theorem RS.mono (e : Kx B H H') (h : RS K B H σ env) : RS K B H' σ env := ⟨e.inB', h.len, fun i d q => let ⟨v, a, b⟩ := h.get i d q; ⟨v, a, b.mv e⟩⟩
theorem RS.set {i : Nat} {v : V} {d : D} (h : RS K B H σ env) (r : Rp K B H v d) : RS K B H (σ.set i (some v)) (env.set i (some d)) := by
  refine ⟨h.inB, by rw [List.length_set, List.length_set]; exact h.len, fun j e q => ?_⟩
  by_cases hj : i = j
  · subst hj
    by_cases hl : i < env.length
    · rw [List.getElem?_set_self hl] at q
      cases q
      exact ⟨v, List.getElem?_set_self (by rw [h.len]; exact hl), r⟩
    · rw [List.getElem?_eq_none (by rw [List.length_set]; omega)] at q
      cases q
  · rw [List.getElem?_set_ne hj] at q
    rw [List.getElem?_set_ne hj]
    exact h.get j e q
theorem RS.clear {i : Nat} (h : RS K B H σ env) : RS K B H (σ.set i none) (env.set i none) := by
  refine ⟨h.inB, by rw [List.length_set, List.length_set]; exact h.len, fun j e q => ?_⟩
  by_cases hj : i = j
  · subst hj
    by_cases hl : i < env.length
    · rw [List.getElem?_set_self hl] at q
      cases q
    · rw [List.getElem?_eq_none (by rw [List.length_set]; omega)] at q
      cases q
  · rw [List.getElem?_set_ne hj] at q
    rw [List.getElem?_set_ne hj]
    exact h.get j e q
def wipeE (env : Sl) : List Nat → Sl
  | [] => env
  | v :: vs => (wipeE env vs).set v none
theorem RS.wipe (h : RS K B H σ env) : ∀ vs : List Nat, RS K B H (L2.wipe σ vs) (wipeE env vs)
  | [] => h
  | v :: vs => (RS.wipe h vs).clear
end
/-! ### judgements -/
section
variable (K : PySem.W.Frag) (mg : Str → Option Value) (W : WX)
def EvE (te : TE) (m : Sl → R D) : Prop := ∀ (env : Sl) (σ : L2.St) (B : List Addr) (H : Hp) (Q : VK), RS K B H σ env → Po (Rp K) mg W σ B H Q (m env) → te σ H Q
def EvB (tt : TT) (m : Sl → R Bool) : Prop := ∀ (env : Sl) (σ : L2.St) (B : List Addr) (H : Hp) (Q : Bool → Hp → Prop), RS K B H σ env → Po (fun _ _ a b => a = b) mg W σ B H Q (m env) → tt σ H Q
def EvAs (ta : TA) (m : Sl → R (List D)) : Prop := ∀ (env : Sl) (σ : L2.St) (B : List Addr) (H : Hp) (Q : List V → Hp → Prop), RS K B H σ env → Po (RpA K) mg W σ B H Q (m env) → ta σ H Q
def EvPt (to : TO) (m : Sl → R (Option Int)) : Prop := ∀ (env : Sl) (σ : L2.St) (B : List Addr) (H : Hp) (Q : Option Int → Hp → Prop), RS K B H σ env → Po (fun _ _ a b => a = b) mg W σ B H Q (m env) → to σ H Q
end
/-- an expression and the function that it is -/
def ME (X : Cx) (W : WX) (e : Expr) (m : Sl → R D) : Prop := ∃ te, PE X e te ∧ EvE X.K X.mg W te m
def MT (X : Cx) (W : WX) (e : Expr) (m : Sl → R Bool) : Prop := ∃ tt, PT X e tt ∧ EvB X.K X.mg W tt m
def MA (X : Cx) (W : WX) (es : List Expr) (m : Sl → R (List D)) : Prop := ∃ ta, PA X es ta ∧ EvAs X.K X.mg W ta m
def MO (X : Cx) (W : WX) (e : Option Expr) (m : Sl → R (Option Int)) : Prop := ∃ to, PO X e to ∧ EvPt X.K X.mg W to m
/-- a statement's end -/
inductive O where
  | nx (env : Sl) | rt (d : D) | bk (env : Sl) | ct (env : Sl) | er (c : Str) | bad
def PoS (K : PySem.W.Frag) (mg : Str → Option Value) (W : WX) (E : Ends) (B : List Addr) (H : Hp) : O → Prop
  | .nx env => ∀ σ' H', Kx B H H' → RS K B H' σ' env → E.nx σ' H'
  | .rt d => ∀ v H', Kx B H H' → Rp K B H' v d → E.rt v H'
  | .bk env => ∀ σ' H', Kx B H H' → RS K B H' σ' env → E.bk σ' H'
  | .ct env => ∀ σ' H', Kx B H H' → RS K B H' σ' env → E.ct σ' H'
  | .er c => ∀ σ' H', Kx B H H' → W (clsV mg c) none σ' H'
  | .bad => False
theorem PoS.mono {K : PySem.W.Frag} {mg : Str → Option Value} {W : WX} {E : Ends} {B : List Addr} {H H1 : Hp} (e : Kx B H H1) : ∀ {o : O}, PoS K mg W E B H o → PoS K mg W E B H1 o
  | .nx _, h => fun σ' H' a r => h σ' H' (e.trans a) r
  | .rt _, h => fun σ' H' a r => h σ' H' (e.trans a) r
  | .bk _, h => fun σ' H' a r => h σ' H' (e.trans a) r
  | .ct _, h => fun σ' H' a r => h σ' H' (e.trans a) r
  | .er _, h => fun σ' H' a => h σ' H' (e.trans a)
  | .bad, h => h
def EvS (K : PySem.W.Frag) (mg : Str → Option Value) (W : WX) (ts : TS) (m : Sl → O) : Prop := ∀ (env : Sl) (σ : L2.St) (B : List Addr) (H : Hp) (E : Ends), RS K B H σ env → PoS K mg W E B H (m env) → ts E σ H
def MS (X : Cx) (W : WX) (st : Stmt) (m : Sl → O) : Prop := ∃ ts, PS X st ts ∧ EvS X.K X.mg W ts m
def MSs (X : Cx) (W : WX) (st : List Stmt) (m : Sl → O) : Prop := ∃ ts, PSs X st ts ∧ EvS X.K X.mg W ts m
/-! ### what the functions are made of -/
def varM (i : Nat) : Sl → R D := fun env => match env[i]? with
  | some (some d) => .ok d
  | _ => .bad
def cM (d : D) : Sl → R D := fun _ => .ok d
def op2 (g : D → D → Option D) (a b : Sl → R D) : Sl → R D := fun env => (a env).bind fun x => (b env).bind fun y => R.of (g x y)
def asB (a : Sl → R D) : Sl → R Bool := fun env => (a env).bind fun x => match x with
  | .bl b => .ok b
  | _ => .bad
def andB (a b : Sl → R Bool) : Sl → R Bool := fun env => (a env).bind fun x => if x = true then b env else .ok false
def orB (a b : Sl → R Bool) : Sl → R Bool := fun env => (a env).bind fun x => if x = true then .ok true else b env
def notB (a : Sl → R Bool) : Sl → R Bool := fun env => (a env).bind fun x => .ok (!x)
def andV (a b : Sl → R D) : Sl → R D := fun env => (a env).bind fun x => match x with
  | .bl k => if k = true then b env else .ok (.bl false)
  | _ => .bad
def orV (a b : Sl → R D) : Sl → R D := fun env => (a env).bind fun x => match x with
  | .bl k => if k = true then .ok (.bl true) else b env
  | _ => .bad
def notV (a : Sl → R D) : Sl → R D := fun env => (a env).bind fun x => match x with
  | .bl k => .ok (.bl (!k))
  | _ => .bad
def nilA : Sl → R (List D) := fun _ => .ok []
def consA (a : Sl → R D) (r : Sl → R (List D)) : Sl → R (List D) := fun env => (a env).bind fun x => (r env).bind fun xs => .ok (x :: xs)
def apM (f : List D → R D) (a : Sl → R (List D)) : Sl → R D := fun env => (a env).bind f
def tupM (a : Sl → R (List D)) : Sl → R D := fun env => (a env).bind fun xs => if xs.length ≤ 100000 then .ok (.tup xs) else .bad
def lstM (a : Sl → R (List D)) : Sl → R D := fun env => (a env).bind fun xs => if xs.length ≤ 100000 then .ok (.lst xs) else .bad
section
variable {X : Cx} {W : WX} {e a b c : Expr} {es rest : List Expr} {ma mb mc : Sl → R D} {pos : Pos}
theorem me_var (i : Nat) {x : Str} (hN : X.N[i]? = some x := by rfl) (hv : Vis X.env.scope x := by first | exact Or.inl rfl | exact Or.inr (Or.inl rfl) | exact Or.inr (Or.inr rfl)) (hd : (x == ("__debug__" : Str)) = false := by decide)
    (hcd : (x == ("__classdict__" : Str)) = false := by decide) : ME X W (.Name x pos) (varM i) := by
  refine ⟨_, pe_var (i := i) hN hv hd hcd, fun env σ B H Q hs h => ?_⟩
  unfold varM at h
  split at h
  · next d q =>
    obtain ⟨v, e1, r⟩ := hs.get i d q
    exact ⟨v, e1, h v H (Kx.refl hs.inB) r⟩
  · exact h.elim
theorem me_const {d : D} {v : V} (h : PE X e (tC v)) (r : ∀ B H, Rp X.K B H v d) : ME X W e (cM d) := ⟨_, h, fun env σ B H Q hs q => q v H (Kx.refl hs.inB) (r B H)⟩
theorem me_int {i : Int} {j : Nat} : ME X W (.Constant (.int i) j pos) (cM (.int i)) := me_const pe_int fun _ _ => .int i
theorem me_str {i : Str} {j : Nat} : ME X W (.Constant (.str i) j pos) (cM (.str i)) := me_const pe_str fun _ _ => .str i
theorem me_bl {i : Bool} {j : Nat} : ME X W (.Constant (.bool i) j pos) (cM (.bl i)) := me_const pe_bl fun _ _ => .bl i
theorem me_non {j : Nat} : ME X W (.Constant .none j pos) (cM .non) := me_const pe_non fun _ _ => .non
/-- a module's constant -/
theorem me_glob {x : Str} {v : V} {u : Value} {d : D} (hg : Gl X x) (hm : X.mg x = some u) (r : RelV v u) (rd : ∀ B H, Rp X.K B H v d) (hd : (x == ("__debug__" : Str)) = false := by decide) : ME X W (.Name x pos) (cM d) :=
  me_const (pe_glob hg hm r hd) rd
theorem me_bltn {x : Str} {v : V} {u : Value} {d : D} (hg : Gl X x) (hm : X.mg x = none) (hv : bootBuiltins x = some u) (r : RelV v u) (rd : ∀ B H, Rp X.K B H v d) (hn : x ≠ "__name__" := by decide) (hd : (x == ("__debug__" : Str)) = false := by decide) :
    ME X W (.Name x pos) (cM d) := me_const (pe_bltn hg hm hv r hn hd) rd
/-- a two-place operation -/
def OpM (X : Cx) (f : Value → Value → Sem Value) (g : D → D → Option D) : Prop :=
  ∃ r, OpR X f r ∧ ∀ (x y : V) (d e z : D) (B : List Addr) (H : Hp) (Q : VK), InB B H → Rp X.K B H x d → Rp X.K B H y e → g d e = some z → (∀ v H', Kx B H H' → Rp X.K B H' v z → Q v H') → r x y H Q
theorem EvE.op2 {K : PySem.W.Frag} {mg : Str → Option Value} {g : D → D → Option D} {r : R2} {ta tb : TE} (hr : ∀ (x y : V) (d e z : D) (B : List Addr) (H : Hp) (Q : VK), InB B H → Rp K B H x d → Rp K B H y e → g d e = some z → (∀ v H', Kx B H H' → Rp K B H' v z → Q v H') → r x y H Q)
    (ha : EvE K mg W ta ma) (hb : EvE K mg W tb mb) : EvE K mg W (tOp r ta tb) (op2 g ma mb) := fun env σ B H Q hs h => by
  refine ha env σ B H _ hs (Po.step h fun x _ v H1 e1 r1 h1 => ?_)
  refine hb env σ B H1 _ (hs.mono e1) (Po.step h1 fun y _ u H2 e2 r2 h2 => ?_)
  cases hg : g x y with
  | none => rw [hg] at h2; exact h2.elim
  | some z =>
    rw [hg] at h2
    exact hr v u x y z B H2 Q e2.inB' (r1.mv e2) r2 hg h2
theorem me_op {op : Operator} {g : D → D → Option D} (ho : OpM X (binaryOp op) g) (ha : ME X W a ma) (hb : ME X W b mb) : ME X W (.BinOp a op b pos) (op2 g ma mb) := by
  obtain ⟨r, h1, h2⟩ := ho
  obtain ⟨ta, a1, a2⟩ := ha
  obtain ⟨tb, b1, b2⟩ := hb
  exact ⟨_, pe_op h1 a1 b1, EvE.op2 h2 a2 b2⟩
theorem me_cmp {op : CmpOp} {g : D → D → Option D} (ho : OpM X (compareOp op) g) (ha : ME X W a ma) (hb : ME X W b mb) (hm : behindInMarks op b = false := by rfl) : ME X W (.Compare a [op] [b] pos) (op2 g ma mb) := by
  obtain ⟨r, h1, h2⟩ := ho
  obtain ⟨ta, a1, a2⟩ := ha
  obtain ⟨tb, b1, b2⟩ := hb
  exact ⟨_, pe_cmpR h1 a1 b1 hm, EvE.op2 h2 a2 b2⟩
theorem EvB.of {K : PySem.W.Frag} {mg : Str → Option Value} {ta : TE} (ha : EvE K mg W ta ma) : EvB K mg W (tB ta) (asB ma) := fun env σ B H Q hs h => by
  refine ha env σ B H _ hs (Po.step h fun x _ v H1 e1 r1 h1 => ?_)
  cases r1 with
  | bl k => exact ⟨k, rfl, h1 k H1 (Kx.refl e1.inB') rfl⟩
  | _ => exact h1.elim
theorem mt_cmp {op : CmpOp} {g : D → D → Option D} (ho : OpM X (compareOp op) g) (ha : ME X W a ma) (hb : ME X W b mb) (hm : behindInMarks op b = false := by rfl) : MT X W (.Compare a [op] [b] pos) (asB (op2 g ma mb)) := by
  obtain ⟨r, h1, h2⟩ := ho
  obtain ⟨ta, a1, a2⟩ := ha
  obtain ⟨tb, b1, b2⟩ := hb
  exact ⟨_, pt_cmpR h1 a1 b1 hm, EvB.of (EvE.op2 h2 a2 b2)⟩
theorem mt_val (ha : ME X W e ma) (he : ∀ whole, isTrue e X.env whole = (do let v ← whole; standAt e.pos; holding [v] (truthy v)) := by intro _; rfl) : MT X W e (asB ma) := by
  obtain ⟨ta, a1, a2⟩ := ha
  exact ⟨_, pt_val a1 he, EvB.of a2⟩
theorem mt_not {m : Sl → R Bool} (ha : MT X W a m) : MT X W (.UnaryOp .Not a pos) (notB m) := by
  obtain ⟨ta, a1, a2⟩ := ha
  refine ⟨_, pt_not a1, fun env σ B H Q hs h => a2 env σ B H _ hs (Po.step h fun x _ v H1 e1 r1 h1 => ?_)⟩
  have e : v = x := r1
  subst e
  exact h1 (!v) H1 (Kx.refl e1.inB') rfl
/-- and, or, in a test -/
def MW (X : Cx) (W : WX) (e : Expr) (m : Sl → R Bool) : Prop := ∃ tt, PW X e tt ∧ EvB X.K X.mg W tt m
theorem MW.mt {m : Sl → R Bool} (h : MW X W e m) : MT X W e m := let ⟨t, h1, h2⟩ := h; ⟨t, h1.pt, h2⟩
theorem mw_and1 {m : Sl → R Bool} (h : MT X W a m) : MW X W (.BoolOp .And [a] pos) m := let ⟨t, h1, h2⟩ := h; ⟨t, pw_and1 h1, h2⟩
theorem mw_or1 {m : Sl → R Bool} (h : MT X W a m) : MW X W (.BoolOp .Or [a] pos) m := let ⟨t, h1, h2⟩ := h; ⟨t, pw_or1 h1, h2⟩
theorem mw_and {m n : Sl → R Bool} (h : MT X W a m) (k : MW X W (.BoolOp .And (b :: rest) pos) n) : MW X W (.BoolOp .And (a :: b :: rest) pos) (andB m n) := by
  obtain ⟨t, h1, h2⟩ := h
  obtain ⟨u, k1, k2⟩ := k
  refine ⟨_, pw_and h1 k1, fun env σ B H Q hs h => h2 env σ B H _ hs (Po.step h fun x _ v H1 e1 r1 q => ?_)⟩
  have e : v = x := r1
  subst e
  cases v with
  | true => exact iteT (k2 env σ B H1 Q (hs.mono e1) q)
  | false => exact iteF (q false H1 (Kx.refl e1.inB') rfl)
theorem mw_or {m n : Sl → R Bool} (h : MT X W a m) (k : MW X W (.BoolOp .Or (b :: rest) pos) n) : MW X W (.BoolOp .Or (a :: b :: rest) pos) (orB m n) := by
  obtain ⟨t, h1, h2⟩ := h
  obtain ⟨u, k1, k2⟩ := k
  refine ⟨_, pw_or h1 k1, fun env σ B H Q hs h => h2 env σ B H _ hs (Po.step h fun x _ v H1 e1 r1 q => ?_)⟩
  have e : v = x := r1
  subst e
  cases v with
  | false => exact iteF (k2 env σ B H1 Q (hs.mono e1) q)
  | true => exact iteT (q true H1 (Kx.refl e1.inB') rfl)
theorem me_one {op : BoolOp} (h : ME X W a ma) : ME X W (.BoolOp op [a] pos) ma := let ⟨t, h1, h2⟩ := h; ⟨t, pe_one h1, h2⟩
theorem me_and (h : ME X W a ma) (k : ME X W (.BoolOp .And (b :: rest) pos) mb) : ME X W (.BoolOp .And (a :: b :: rest) pos) (andV ma mb) := by
  obtain ⟨t, h1, h2⟩ := h
  obtain ⟨u, k1, k2⟩ := k
  refine ⟨_, pe_and h1 k1, fun env σ B H Q hs h => h2 env σ B H _ hs (Po.step h fun x _ v H1 e1 r1 q => ?_)⟩
  cases r1 with
  | bl k =>
    refine ⟨k, rfl, ?_⟩
    cases k with
    | true => exact iteT (k2 env σ B H1 Q (hs.mono e1) q)
    | false => exact iteF (q _ H1 (Kx.refl e1.inB') (.bl false))
  | _ => exact q.elim
theorem me_or (h : ME X W a ma) (k : ME X W (.BoolOp .Or (b :: rest) pos) mb) : ME X W (.BoolOp .Or (a :: b :: rest) pos) (orV ma mb) := by
  obtain ⟨t, h1, h2⟩ := h
  obtain ⟨u, k1, k2⟩ := k
  refine ⟨_, pe_or h1 k1, fun env σ B H Q hs h => h2 env σ B H _ hs (Po.step h fun x _ v H1 e1 r1 q => ?_)⟩
  cases r1 with
  | bl k =>
    refine ⟨k, rfl, ?_⟩
    cases k with
    | false => exact iteF (k2 env σ B H1 Q (hs.mono e1) q)
    | true => exact iteT (q _ H1 (Kx.refl e1.inB') (.bl true))
  | _ => exact q.elim
theorem me_not (h : ME X W a ma) : ME X W (.UnaryOp .Not a pos) (notV ma) := by
  obtain ⟨t, h1, h2⟩ := h
  refine ⟨_, pe_not h1, fun env σ B H Q hs h => h2 env σ B H _ hs (Po.step h fun x _ v H1 e1 r1 q => ?_)⟩
  cases r1 with
  | bl k => exact ⟨k, rfl, q _ H1 (Kx.refl e1.inB') (.bl _)⟩
  | _ => exact q.elim
/-! arguments, displays -/
theorem ma_nil : MA X W [] nilA := ⟨_, pa_nil, fun env σ B H Q hs h => h [] H (Kx.refl hs.inB) .nil⟩
theorem ma_cons {mr : Sl → R (List D)} (ha : ME X W e ma) (hr : MA X W es mr) (hs : starEach (e :: es) X.env = (false, eval e X.env) :: starEach es X.env := by rfl) : MA X W (e :: es) (consA ma mr) := by
  obtain ⟨t, h1, h2⟩ := ha
  obtain ⟨u, k1, k2⟩ := hr
  refine ⟨_, pa_cons h1 k1 hs, fun env σ B H Q hs h => h2 env σ B H _ hs (Po.step h fun x _ v H1 e1 r1 q => ?_)⟩
  refine k2 env σ B H1 _ (hs.mono e1) (Po.step q fun xs _ vs H2 e2 r2 q2 => ?_)
  exact q2 (v :: vs) H2 (Kx.refl e2.inB') (.cons (r1.mv e2) r2)
theorem line1 {n : Nat} (h : n ≤ 100000) : n ≤ sizeLine := sz_of h
theorem me_tup {mr : Sl → R (List D)} {x1 : Nat} (h : MA X W es mr) : ME X W (.Tuple es x1 pos) (tupM mr) := by
  obtain ⟨u, k1, k2⟩ := h
  refine ⟨_, pe_tup k1, fun env σ B H Q hs h => k2 env σ B H _ hs (Po.step h fun xs _ vs H2 e2 r2 q2 => ?_)⟩
  by_cases hl : xs.length ≤ 100000
  · rw [if_pos hl] at q2
    refine ⟨by rw [r2.length]; exact line1 hl, fun p hp => q2 _ _ (Kx.new e2.inB' hp) (.tup (hid_new e2.inB' hp) (r2.mv (Kx.new e2.inB' hp)))⟩
  · rw [if_neg hl] at q2
    exact q2.elim
theorem me_lst {mr : Sl → R (List D)} (h : MA X W es mr) : ME X W (.List es pos) (lstM mr) := by
  obtain ⟨u, k1, k2⟩ := h
  refine ⟨_, pe_lst k1, fun env σ B H Q hs h => k2 env σ B H _ hs (Po.step h fun xs _ vs H2 e2 r2 q2 => ?_)⟩
  by_cases hl : xs.length ≤ 100000
  · rw [if_pos hl] at q2
    refine ⟨by rw [r2.length]; exact line1 hl, fun p hp => q2 _ _ (Kx.new e2.inB' hp) (.lst (hid_new e2.inB' hp) (r2.mv (Kx.new e2.inB' hp)))⟩
  · rw [if_neg hl] at q2
    exact q2.elim
end
end Ask
namespace Ask
open PySem L2 Evl
/-! ### the operations on values -/
def D.items : D → Option (List D)
  | .tup ds => some ds
  | .lst ds => some ds
  | .ktup ds => some ds
  | .klst ds => some ds
  | _ => none
def D.add : D → D → Option D
  | .int a, .int b => some (.int (a + b))
  | .str a, .str b => if a.length + b.length ≤ 100000 then some (.str (a ++ b)) else none
  | .lst a, .lst b => if a.length + b.length ≤ 100000 then some (.lst (a ++ b)) else none
  | .tup a, .tup b => if a.length + b.length ≤ 100000 then some (.tup (a ++ b)) else none
  | _, _ => none
def D.sub : D → D → Option D
  | .int a, .int b => some (.int (a - b))
  | _, _ => none
def D.mul : D → D → Option D
  | .int a, .int b => if (-(2 ^ 64) < a ∧ a < 2 ^ 64) ∨ (-(2 ^ 64) < b ∧ b < 2 ^ 64) then some (.int (a * b)) else none
  | .str a, .int b => if b = 0 then some (.str Str.empty) else if b = 1 then some (.str a) else none
  | _, _ => none
def D.fdiv : D → D → Option D
  | .int a, .int b => if 0 < b ∧ b < 1073741824 then some (.int (a / b)) else none
  | _, _ => none
def D.mod : D → D → Option D
  | .int a, .int b => if 0 < b then some (.int (a % b)) else none
  | _, _ => none
def D.lt : D → D → Option D
  | .int a, .int b => some (.bl (decide (a < b)))
  | _, _ => none
def D.gt : D → D → Option D
  | .int a, .int b => some (.bl (decide (b < a)))
  | _, _ => none
def D.ge : D → D → Option D
  | .int a, .int b => some (.bl (decide (b ≤ a)))
  | _, _ => none
def D.le : D → D → Option D
  | .int a, .int b => some (.bl (decide (a ≤ b)))
  | .str a, .str b => some (.bl (!decide (b.cps.toList < a.cps.toList)))
  | _, _ => none
/-- a plain value -/
def D.flat : D → Option V
  | .non => some .non
  | .bl b => some (.bl b)
  | .int b => some (.int b)
  | .str b => some (.str b)
  | _ => none
def D.eq (a b : D) : Option D := match a.flat, b.flat with
  | some x, some y => if scal x y = true then some (.bl (decide (x = y))) else none
  | _, _ => none
def D.ne (a b : D) : Option D := match a.flat, b.flat with
  | some x, some y => if scal x y = true then some (.bl (!decide (x = y))) else none
  | _, _ => none
def D.isNon : D → Bool
  | .non => true
  | _ => false
def D.is : D → D → Option D
  | .ty a, .ty b => some (.bl (decide (a = b)))
  | x, .non => some (.bl x.isNon)
  | _, _ => none
def D.isnt : D → D → Option D
  | .ty a, .ty b => some (.bl (!decide (a = b)))
  | x, .non => some (.bl (!x.isNon))
  | _, _ => none
def flats : List D → Option (List V)
  | [] => some []
  | d :: ds => match d.flat, flats ds with
    | some v, some vs => some (v :: vs)
    | _, _ => none
def D.inn (neg : Bool) (x y : D) : Option D := match x.flat, y.items with
  | some v, some ds => match flats ds with
    | some vs => some (.bl (if neg then !inV v vs else inV v vs))
    | none => none
  | _, _ => none
def D.ix : D → D → Option D
  | .str z, .int i => if z.length ≤ 100000 then match atI z.cps.toList i with
    | some c => some (.str ⟨#[c]⟩)
    | none => none else none
  | d, .int i => match d.items with
    | some ds => atI ds i
    | none => none
  | _, _ => none
def cutD (xs : List D) (lo hi : Option Int) : List D := (xs.drop (HT.sIx xs.length 0 lo)).take (HT.sIx xs.length xs.length hi - HT.sIx xs.length 0 lo)
def D.sl : D → Option Int → Option Int → Option D
  | .str z, lo, hi => if z.length ≤ 100000 then some (.str (cutS z lo hi)) else none
  | .lst ds, lo, hi => some (.lst (cutD ds lo hi))
  | .klst ds, lo, hi => some (.lst (cutD ds lo hi))
  | .tup ds, lo, hi => some (.tup (cutD ds lo hi))
  | _, _, _ => none
def D.tyN : D → Option String
  | .non => some "NoneType"
  | .bl _ => some "bool"
  | .int _ => some "int"
  | .str _ => some "str"
  | .tup _ => some "tuple"
  | .lst _ => some "list"
  | .dct _ => some "dict"
  | _ => none
/-- the type of a value, a dict's too -/
def tyNV (x : V) (H : Hp) : Option String :=
  match x with
  | .ref p => (match H p with
    | some (.dK _) => some "dict"
    | _ => zTyV x H)
  | _ => zTyV x H
section
variable {K : PySem.W.Frag} {B : List Addr} {H H' : Hp}
theorem Rp0.flat {v : V} {d : D} {x : V} (r : Rp K B H v d) (e : d.flat = some x) : v = x ∧ flatV x = true := by
  cases r <;> (simp only [D.flat] at e; first | (cases e; done) | (cases e; exact ⟨rfl, rfl⟩))
theorem RpA0.flats : ∀ {vs : List V} {ds : List D} {xs : List V}, RpA K B H vs ds → flats ds = some xs → vs = xs ∧ xs.all flatV = true
  | _, _, _, .nil, e => by simp only [Ask.flats] at e; cases e; exact ⟨rfl, rfl⟩
  | _, _, _, .cons (v := v) (d := d) (ds := ds) h r, e => by
    simp only [Ask.flats] at e
    cases h1 : d.flat with
    | none => rw [h1] at e; simp at e
    | some x =>
      cases h2 : Ask.flats ds with
      | none => rw [h1, h2] at e; simp at e
      | some xs =>
        rw [h1, h2] at e
        simp at e
        obtain ⟨a1, a2⟩ := h.flat h1
        obtain ⟨b1, b2⟩ := RpA0.flats r h2
        subst a1 b1 e
        exact ⟨rfl, by rw [List.all_cons, a2, b2]; rfl⟩
theorem Rp0.seq {v : V} {d : D} {ds : List D} (r : Rp K B H v d) (e : d.items = some ds) : ∃ a xs, v = .ref a ∧ (SqL K H a xs ∨ SqT K H a xs) ∧ RpA K B H xs ds := by
  cases r with
  | tup h q => cases e; exact ⟨_, _, rfl, .inr (st_of (hid_some h)), q⟩
  | lst h q => cases e; exact ⟨_, _, rfl, .inl (sq_of (hid_some h)), q⟩
  | ktup h q => cases e; exact ⟨_, _, rfl, .inr (ex_t (hid_ex B H) h), q⟩
  | klst h q => cases e; exact ⟨_, _, rfl, .inl (ex_l (hid_ex B H) h), q⟩
  | _ => cases e
theorem Rp0.tyX {v : V} {d : D} {n : String} (r : Rp K B H v d) (e : d.tyN = some n) : TyX K H v (.type n) ∧ tyNV v H = some n := by
  cases r with
  | non => cases e; exact ⟨.base .non, rfl⟩
  | bl b => cases e; exact ⟨.base (.bl b), rfl⟩
  | int b => cases e; exact ⟨.base (.int b), rfl⟩
  | str b => cases e; exact ⟨.base (.str b), rfl⟩
  | tup h q => cases e; exact ⟨.base (.tup (hid_some h)), by simp only [tyNV, zTyV, hid_some h]⟩
  | lst h q => cases e; exact ⟨.base (.lst (hid_some h)), by simp only [tyNV, zTyV, hid_some h]⟩
  | dct h q => cases e; exact ⟨.base (.dK (hid_some h)), by simp only [tyNV, hid_some h]⟩
  | _ => cases e
theorem atI_rp {xs : List V} {ds : List D} {i : Int} {d : D} (r : RpA K B H xs ds) (e : atI ds i = some d) : ∃ v, atI xs i = some v ∧ Rp K B H v d := by
  unfold atI at e ⊢
  rw [r.length]
  cases h : ixN ds.length i with
  | none => rw [h] at e; cases e
  | some j =>
    rw [h] at e
    exact r.get e
theorem cut_rp {xs : List V} {ds : List D} {lo hi : Option Int} (r : RpA K B H xs ds) : RpA K B H (cutV xs lo hi) (cutD ds lo hi) := by
  unfold cutV cutD
  rw [r.length]
  exact (r.drop _).take _
end
section
variable {X : Cx}
theorem om_add : OpM X (binaryOp .Add) D.add := by
  refine ⟨_, op_add.or (op_add_str.or (op_cat.or op_catA)), fun x y d e z B H Q hB rx ry h q => ?_⟩
  cases rx with
  | int a =>
    cases ry with
    | int b => cases h; exact .inl ⟨a, b, rfl, rfl, q _ H (Kx.refl hB) (.int _)⟩
    | _ => cases h
  | str a =>
    cases ry with
    | str b =>
      simp only [D.add] at h
      split at h
      · next hl => cases h; exact .inr (.inl ⟨a, b, rfl, rfl, line1 hl, q _ H (Kx.refl hB) (.str _)⟩)
      · cases h
    | _ => cases h
  | lst ha ra =>
    cases ry with
    | lst hb rb =>
      simp only [D.add] at h
      split at h
      · next hl =>
        cases h
        refine .inr (.inr (.inl ⟨_, _, _, _, rfl, rfl, hid_some ha, hid_some hb, by rw [ra.length, rb.length]; exact line1 hl, fun p hp => q _ _ (Kx.new hB hp) (.lst (hid_new hB hp) ((ra.append rb).mv (Kx.new hB hp)))⟩))
      · cases h
    | _ => cases h
  | tup ha ra =>
    cases ry with
    | tup hb rb =>
      simp only [D.add] at h
      split at h
      · next hl =>
        cases h
        refine .inr (.inr (.inr ⟨_, _, _, _, rfl, rfl, st_of (hid_some ha), st_of (hid_some hb), by rw [ra.length, rb.length]; exact line1 hl, fun e => ?_, fun _ e => ?_, fun _ _ p hp => q _ _ (Kx.new hB hp) (.tup (hid_new hB hp) ((ra.append rb).mv (Kx.new hB hp)))⟩))
        · subst e
          cases ra
          exact q _ H (Kx.refl hB) (.tup hb rb)
        · subst e
          cases rb
          rw [List.append_nil] at q
          exact q _ H (Kx.refl hB) (.tup ha ra)
      · cases h
    | _ => cases h
  | _ => cases ry <;> cases h
theorem om_int {f : Value → Value → Sem Value} {C : Int → Int → Prop} {k : Int → Int → V} {k' : Int → Int → D} {g : D → D → Option D} (hr : OpR X f (rI C k)) (hk : ∀ i j B H, Rp X.K B H (k i j) (k' i j))
    (hg : ∀ d e z, g d e = some z → ∃ i j, d = .int i ∧ e = .int j ∧ C i j ∧ z = k' i j) : OpM X f g := by
  refine ⟨_, hr, fun x y d e z B H Q hB rx ry h q => ?_⟩
  obtain ⟨i, j, rfl, rfl, hc, rfl⟩ := hg d e z h
  cases rx
  cases ry
  exact ⟨i, j, rfl, rfl, hc, q _ H (Kx.refl hB) (hk i j B H)⟩
theorem om_int0 {f : Value → Value → Sem Value} {k : Int → Int → V} {k' : Int → Int → D} {g : D → D → Option D} (hr : OpR X f (rI0 k)) (hk : ∀ i j B H, Rp X.K B H (k i j) (k' i j))
    (hg : ∀ d e z, g d e = some z → ∃ i j, d = .int i ∧ e = .int j ∧ z = k' i j) : OpM X f g := by
  refine ⟨_, hr, fun x y d e z B H Q hB rx ry h q => ?_⟩
  obtain ⟨i, j, rfl, rfl, rfl⟩ := hg d e z h
  cases rx
  cases ry
  exact ⟨i, j, rfl, rfl, q _ H (Kx.refl hB) (hk i j B H)⟩
theorem om_sub : OpM X (binaryOp .Sub) D.sub := om_int0 (k' := fun i j => .int (i - j)) op_sub (fun _ _ _ _ => .int _) fun d e z h => by
  cases d <;> cases e <;> cases h <;> exact ⟨_, _, rfl, rfl, rfl⟩
def rMulS : R2 := fun x y H Q => ∃ (a : Str) (b : Int), x = .str a ∧ y = .int b ∧ ((b = 0 ∧ Q (.str Str.empty) H) ∨ (b = 1 ∧ Q (.str a) H))
theorem op_mulS : OpR X (binaryOp .Mult) rMulS := by
  intro pins s σ H x y v u Q I rx ry h
  obtain ⟨a, b, rfl, rfl, h⟩ := h
  obtain ⟨t, rfl⟩ := rx
  obtain ⟨t', rfl⟩ := ry
  rcases h with ⟨rfl, q⟩ | ⟨rfl, q⟩
  · exact PySem.P.mul_str_none (by decide) (by decide) ⟨.str Str.empty, H, I.tok _, ⟨_, rfl⟩, q⟩
  · refine PySem.P.mul_str (by decide) (fun _ h => by simp at h) (fun _ h => by simp at h) ?_
    rw [if_neg (by decide), if_pos (by simp)]
    exact ⟨.str a, H, I, ⟨_, rfl⟩, q⟩
theorem om_mul : OpM X (binaryOp .Mult) D.mul := by
  refine ⟨_, op_mul.or op_mulS, fun x y d e z B H Q hB rx ry h q => ?_⟩
  cases rx with
  | int a =>
    cases ry with
    | int b =>
      simp only [D.mul] at h
      split at h
      · next hc => cases h; exact .inl ⟨a, b, rfl, rfl, hc, q _ H (Kx.refl hB) (.int _)⟩
      · cases h
    | _ => cases h
  | str a =>
    cases ry with
    | int b =>
      simp only [D.mul] at h
      split at h
      · next hb => cases h; exact .inr ⟨a, b, rfl, rfl, .inl ⟨hb, q _ H (Kx.refl hB) (.str _)⟩⟩
      · split at h
        · next hb => cases h; exact .inr ⟨a, b, rfl, rfl, .inr ⟨hb, q _ H (Kx.refl hB) (.str _)⟩⟩
        · cases h
    | _ => cases h
  | _ => cases ry <;> cases h
theorem om_fdiv : OpM X (binaryOp .FloorDiv) D.fdiv := om_int (k' := fun i j => .int (i / j)) op_fdiv (fun _ _ _ _ => .int _) fun d e z h => by
  cases d <;> cases e <;> first | (cases h; done) | skip
  simp only [D.fdiv] at h
  split at h
  · next hc => cases h; exact ⟨_, _, rfl, rfl, hc, rfl⟩
  · cases h
theorem om_mod : OpM X (binaryOp .Mod) D.mod := om_int (k' := fun i j => .int (i % j)) op_mod (fun _ _ _ _ => .int _) fun d e z h => by
  cases d <;> cases e <;> first | (cases h; done) | skip
  simp only [D.mod] at h
  split at h
  · next hc => cases h; exact ⟨_, _, rfl, rfl, hc, rfl⟩
  · cases h
theorem om_lt : OpM X (compareOp .Lt) D.lt := om_int0 (k' := fun i j => .bl (decide (i < j))) op_lt (fun _ _ _ _ => .bl _) fun d e z h => by
  cases d <;> cases e <;> cases h <;> exact ⟨_, _, rfl, rfl, rfl⟩
theorem om_gt : OpM X (compareOp .Gt) D.gt := om_int0 (k' := fun i j => .bl (decide (j < i))) op_gt (fun _ _ _ _ => .bl _) fun d e z h => by
  cases d <;> cases e <;> cases h <;> exact ⟨_, _, rfl, rfl, rfl⟩
theorem om_ge : OpM X (compareOp .GtE) D.ge := om_int0 (k' := fun i j => .bl (decide (j ≤ i))) op_ge (fun _ _ _ _ => .bl _) fun d e z h => by
  cases d <;> cases e <;> cases h <;> exact ⟨_, _, rfl, rfl, rfl⟩
theorem om_le : OpM X (compareOp .LtE) D.le := by
  refine ⟨_, op_le.or op_le_str, fun x y d e z B H Q hB rx ry h q => ?_⟩
  cases rx with
  | int a =>
    cases ry with
    | int b => cases h; exact .inl ⟨a, b, rfl, rfl, q _ H (Kx.refl hB) (.bl _)⟩
    | _ => cases h
  | str a =>
    cases ry with
    | str b => cases h; exact .inr ⟨a, b, rfl, rfl, q _ H (Kx.refl hB) (.bl _)⟩
    | _ => cases h
  | _ => cases ry <;> cases h
theorem om_eq : OpM X (compareOp .Eq) D.eq := by
  refine ⟨_, op_eq, fun x y d e z B H Q hB rx ry h q => ?_⟩
  unfold D.eq at h
  split at h
  · next a b ha hb =>
    split at h
    · next hs =>
      cases h
      obtain ⟨rfl, _⟩ := rx.flat ha
      obtain ⟨rfl, _⟩ := ry.flat hb
      exact ⟨hs, q _ H (Kx.refl hB) (.bl _)⟩
    · cases h
  · cases h
theorem om_ne : OpM X (compareOp .NotEq) D.ne := by
  refine ⟨_, op_ne, fun x y d e z B H Q hB rx ry h q => ?_⟩
  unfold D.ne at h
  split at h
  · next a b ha hb =>
    split at h
    · next hs =>
      cases h
      obtain ⟨rfl, _⟩ := rx.flat ha
      obtain ⟨rfl, _⟩ := ry.flat hb
      exact ⟨hs, q _ H (Kx.refl hB) (.bl _)⟩
    · cases h
  · cases h
theorem Rp0.isNon {K : PySem.W.Frag} {B : List Addr} {H : Hp} {x : V} {d : D} (r : Rp K B H x d) : decide (x = .non) = d.isNon := by
  cases r <;> first | rfl | (simp [D.isNon])
theorem om_is : OpM X (compareOp .Is) D.is := by
  refine ⟨_, op_isTy.or op_isN, fun x y d e z B H Q hB rx ry h q => ?_⟩
  unfold D.is at h
  split at h
  · cases h
    cases rx
    cases ry
    exact .inl ⟨_, _, rfl, rfl, q _ H (Kx.refl hB) (.bl _)⟩
  · cases h
    cases ry
    exact .inr ⟨rfl, by rw [rx.isNon]; exact q _ H (Kx.refl hB) (.bl _)⟩
  · cases h
theorem om_isnt : OpM X (compareOp .IsNot) D.isnt := by
  refine ⟨_, op_isNotTy.or op_notN, fun x y d e z B H Q hB rx ry h q => ?_⟩
  unfold D.isnt at h
  split at h
  · cases h
    cases rx
    cases ry
    exact .inl ⟨_, _, rfl, rfl, q _ H (Kx.refl hB) (.bl _)⟩
  · cases h
    cases ry
    exact .inr ⟨rfl, by rw [rx.isNon]; exact q _ H (Kx.refl hB) (.bl _)⟩
  · cases h
theorem inn_to {neg : Bool} {d e z : D} {x y : V} {B : List Addr} {H : Hp} {Q : VK} (hB : InB B H) (rx : Rp X.K B H x d) (ry : Rp X.K B H y e) (h : D.inn neg d e = some z) (q : ∀ v H', Kx B H H' → Rp X.K B H' v z → Q v H') : rIn X.K neg x y H Q := by
  unfold D.inn at h
  split at h
  · next v ds hx hy =>
    split at h
    · next vs hf =>
      cases h
      obtain ⟨rfl, f1⟩ := rx.flat hx
      obtain ⟨a, xs, rfl, hs, ra⟩ := ry.seq hy
      obtain ⟨rfl, f2⟩ := ra.flats hf
      exact ⟨a, xs, rfl, hs, f1, f2, q _ H (Kx.refl hB) (.bl _)⟩
    · cases h
  · cases h
theorem om_in : OpM X (compareOp .In) (D.inn false) := ⟨_, op_in_seq, fun x y d e z B H Q hB rx ry h q => inn_to hB rx ry h q⟩
theorem om_notin : OpM X (compareOp .NotIn) (D.inn true) := ⟨_, op_notIn_seq, fun x y d e z B H Q hB rx ry h q => inn_to hB rx ry h q⟩
/-! subscripts, slices -/
variable {W : WX} {a b c e : Expr} {es : List Expr} {ma mb mc : Sl → R D} {pos p2 : Pos}
theorem me_ix (ha : ME X W a ma) (hb : ME X W b mb) (hs : PlainIx b := by exact fun _ _ => rfl) : ME X W (.Subscript a b pos) (op2 D.ix ma mb) := by
  obtain ⟨ta, a1, a2⟩ := ha
  obtain ⟨tb, b1, b2⟩ := hb
  refine ⟨_, pe_ix ix_seq a1 b1 hs, EvE.op2 (fun x y d e z B H Q hB rx ry h q => ?_) a2 b2⟩
  unfold D.ix at h
  split at h
  · cases rx
    cases ry
    split at h
    · next hl =>
      split at h
      · next c hc => cases h; exact .inr (.inr ⟨_, _, c, rfl, rfl, line1 hl, hc, q _ H (Kx.refl hB) (.str _)⟩)
      · cases h
    · cases h
  · cases ry
    split at h
    · next ds hi =>
      obtain ⟨p, xs, rfl, hs, ra⟩ := rx.seq hi
      obtain ⟨v, e1, r1⟩ := atI_rp ra h
      rcases hs with hs | hs
      · exact .inl ⟨p, xs, _, v, rfl, rfl, hs, e1, q _ H (Kx.refl hB) r1⟩
      · exact .inr (.inl ⟨p, xs, _, v, rfl, rfl, hs, e1, q _ H (Kx.refl hB) r1⟩)
    · cases h
  · cases h
def noM : Sl → R (Option Int) := fun _ => .ok none
def someM (a : Sl → R D) : Sl → R (Option Int) := fun env => (a env).bind fun x => match x with
  | .int i => .ok (some i)
  | _ => .bad
theorem mo_none : MO X W none noM := ⟨_, po_none, fun env σ B H Q hs h => h none H (Kx.refl hs.inB) rfl⟩
theorem mo_some (ha : ME X W a ma) : MO X W (some a) (someM ma) := by
  obtain ⟨ta, a1, a2⟩ := ha
  refine ⟨_, po_some a1, fun env σ B H Q hs h => a2 env σ B H _ hs (Po.step h fun x _ v H1 e1 r1 h1 => ?_)⟩
  cases r1 with
  | int i => exact ⟨i, rfl, h1 (some i) H1 (Kx.refl e1.inB') rfl⟩
  | _ => exact h1.elim
def slM (a : Sl → R D) (l u : Sl → R (Option Int)) : Sl → R D := fun env => (a env).bind fun x => (l env).bind fun lo => (u env).bind fun hi => R.of (x.sl lo hi)
theorem cut_whole {xs : List V} {lo hi : Option Int} (h : HT.sIx xs.length 0 lo = 0 ∧ HT.sIx xs.length xs.length hi = xs.length) : cutV xs lo hi = xs := by
  unfold cutV
  rw [h.1, h.2]
  simp
theorem cut_wholeD {xs : List D} {lo hi : Option Int} (h : HT.sIx xs.length 0 lo = 0 ∧ HT.sIx xs.length xs.length hi = xs.length) : cutD xs lo hi = xs := by
  unfold cutD
  rw [h.1, h.2]
  simp
theorem me_sl {lo hi : Option Expr} {ml mh : Sl → R (Option Int)} (ha : ME X W a ma) (hl : MO X W lo ml) (hh : MO X W hi mh) : ME X W (.Subscript a (.Slice lo hi none p2) pos) (slM ma ml mh) := by
  obtain ⟨ta, a1, a2⟩ := ha
  obtain ⟨tl, l1, l2⟩ := hl
  obtain ⟨th, h1, h2⟩ := hh
  refine ⟨_, pe_slice (sl_list.or (sl_tupA.or sl_str)) a1 l1 h1, fun env σ B H Q hs h => a2 env σ B H _ hs (Po.step h fun x _ v H1 e1 r1 q1 => l2 env σ B H1 _ (hs.mono e1) (Po.step q1 fun y _ u H2 e2 r2 q2 => h2 env σ B H2 _ ((hs.mono e1).mono e2) (Po.step q2 fun z _ w H3 e3 r3 q3 => ?_)))⟩
  have eu : u = y := r2
  have ew : w = z := r3
  subst eu ew
  have rx := r1.mv (e2.trans e3)
  cases hz : x.sl u w with
  | none => rw [hz] at q3; exact q3.elim
  | some d =>
    rw [hz] at q3
    have q : ∀ v H', Kx B H3 H' → Rp X.K B H' v d → Q v H' := q3
    cases rx with
    | str z =>
      simp only [D.sl] at hz
      split at hz
      · next hl => cases hz; exact .inr (.inr ⟨z, rfl, line1 hl, q _ H3 (Kx.refl e3.inB') (.str _)⟩)
      · cases hz
    | lst hp rp => cases hz; exact .inl ⟨_, _, rfl, sq_of (hid_some hp), fun p hp => q _ _ (Kx.new e3.inB' hp) (.lst (hid_new e3.inB' hp) ((cut_rp rp).mv (Kx.new e3.inB' hp)))⟩
    | klst hp rp => cases hz; exact .inl ⟨_, _, rfl, ex_l (hid_ex B H3) hp, fun p hp => q _ _ (Kx.new e3.inB' hp) (.lst (hid_new e3.inB' hp) ((cut_rp rp).mv (Kx.new e3.inB' hp)))⟩
    | tup hp rp =>
      cases hz
      refine .inr (.inl ⟨_, _, rfl, st_of (hid_some hp), fun hw => ?_, fun hw p hp => q _ _ (Kx.new e3.inB' hp) (.tup (hid_new e3.inB' hp) ((cut_rp rp).mv (Kx.new e3.inB' hp)))⟩)
      rw [rp.length] at hw
      rw [cut_wholeD hw] at q
      exact q _ H3 (Kx.refl e3.inB') (.tup hp rp)
    | _ => cases hz
/-! calls of built-ins -/
def CbM (X : Cx) (f : Value) (g : List D → Option D) : Prop :=
  ∃ r, CallR X f r ∧ ∀ (vs : List V) (ds : List D) (z : D) (B : List Addr) (H : Hp) (Q : VK), InB B H → RpA X.K B H vs ds → g ds = some z → (∀ v H', Kx B H H' → Rp X.K B H' v z → Q v H') → r vs H Q
def cbM (g : List D → Option D) (a : Sl → R (List D)) : Sl → R D := fun env => (a env).bind fun ds => R.of (g ds)
theorem EvE.cb {K : PySem.W.Frag} {mg : Str → Option Value} {g : List D → Option D} {r : List V → Hp → VK → Prop} {ta : TA} {m : Sl → R (List D)} (hr : ∀ (vs : List V) (ds : List D) (z : D) (B : List Addr) (H : Hp) (Q : VK), InB B H → RpA K B H vs ds → g ds = some z → (∀ v H', Kx B H H' → Rp K B H' v z → Q v H') → r vs H Q)
    (ha : EvAs K mg W ta m) : EvE K mg W (tCB r ta) (cbM g m) := fun env σ B H Q hs h => by
  refine ha env σ B H _ hs (Po.step h fun ds _ vs H1 e1 r1 h1 => ?_)
  cases hg : g ds with
  | none => rw [hg] at h1; exact h1.elim
  | some z =>
    rw [hg] at h1
    exact hr vs ds z B H1 Q e1.inB' r1 hg h1
theorem me_cb {x : Str} {p : Pos} {id : String} {g : List D → Option D} {m : Sl → R (List D)} (hc : CbM X (.builtin id) g) (hg : Gl X x) (hm : X.mg x = none) (hv : bootBuiltins x = some (.builtin id)) (ha : MA X W (e :: es) m) (hn : x ≠ "__name__" := by decide) (hdb : (x == ("__debug__" : Str)) = false := by decide)
    (he : starEach (e :: es) X.env = (false, eval e X.env) :: starEach es X.env := by rfl) (hpl : (backTo pos (starEach es X.env)).any (·.1) = false := by rfl) : ME X W (.Call (.Name x p) (e :: es) [] pos) (cbM g m) := by
  obtain ⟨r, h1, h2⟩ := hc
  obtain ⟨ta, a1, a2⟩ := ha
  exact ⟨_, pe_callB h1 hg hm hv a1 hn hdb he hpl, EvE.cb h2 a2⟩
theorem me_cty {x : Str} {p : Pos} {id : String} {g : List D → Option D} {m : Sl → R (List D)} (hc : CbM X (.type id) g) (hg : Gl X x) (hm : X.mg x = none) (hv : bootBuiltins x = some (.type id)) (ha : MA X W (e :: es) m) (hn : x ≠ "__name__" := by decide) (hdb : (x == ("__debug__" : Str)) = false := by decide)
    (he : starEach (e :: es) X.env = (false, eval e X.env) :: starEach es X.env := by rfl) (hpl : (backTo pos (starEach es X.env)).any (·.1) = false := by rfl) : ME X W (.Call (.Name x p) (e :: es) [] pos) (cbM g m) := by
  obtain ⟨r, h1, h2⟩ := hc
  obtain ⟨ta, a1, a2⟩ := ha
  exact ⟨_, pe_callTy h1 hg hm hv a1 hn hdb he hpl, EvE.cb h2 a2⟩
def bLen : List D → Option D
  | [.str z] => if z.length ≤ 100000 then some (.int z.length) else none
  | [d] => match d.items with
    | some ds => some (.int ds.length)
    | none => none
  | _ => none
def bIsi : List D → Option D
  | [d, .ty T] => match d.tyN with
    | some n => match kitB n T with
      | some b => some (.bl b)
      | none => none
    | none => none
  | _ => none
def bType : List D → Option D
  | [d] => match d.tyN with
    | some n => some (.ty n)
    | none => none
  | _ => none
def bInt : List D → Option D
  | [.int i] => some (.int i)
  | [.bl b] => some (.int (if b then 1 else 0))
  | _ => none
def intsOf : List D → Option (List Int)
  | [] => some []
  | .int i :: r => match intsOf r with
    | some is => some (i :: is)
    | none => none
  | _ => none
def blsOf : List D → Option (List Bool)
  | [] => some []
  | .bl i :: r => match blsOf r with
    | some is => some (i :: is)
    | none => none
  | _ => none
def strsOf : List D → Option (List Str)
  | [] => some []
  | .str i :: r => match strsOf r with
    | some is => some (i :: is)
    | none => none
  | _ => none
def maxI : List Int → Int
  | [] => 0
  | [a] => a
  | a :: b :: r => max a (maxI (b :: r))
def bMax : List D → Option D
  | [d] => match d with
    | .lst ds => match intsOf ds with
      | some (i :: is) => some (.int (maxI (i :: is)))
      | _ => none
    | _ => none
  | _ => none
def bAll : List D → Option D
  | [.lst ds] => match blsOf ds with
    | some bs => some (.bl (bs.all id))
    | none => none
  | _ => none
theorem intsOf_eq : ∀ {ds : List D} {is : List Int}, intsOf ds = some is → ds = is.map D.int
  | [], is, h => by cases h; rfl
  | d :: r, is, h => by
    cases d with
    | int i =>
      simp only [intsOf] at h
      split at h
      · next js hj => cases h; rw [intsOf_eq hj]; rfl
      · cases h
    | _ => cases h
theorem blsOf_eq : ∀ {ds : List D} {is : List Bool}, blsOf ds = some is → ds = is.map D.bl
  | [], is, h => by cases h; rfl
  | d :: r, is, h => by
    cases d with
    | bl i =>
      simp only [blsOf] at h
      split at h
      · next js hj => cases h; rw [blsOf_eq hj]; rfl
      · cases h
    | _ => cases h
theorem strsOf_eq : ∀ {ds : List D} {is : List Str}, strsOf ds = some is → ds = is.map D.str
  | [], is, h => by cases h; rfl
  | d :: r, is, h => by
    cases d with
    | str i =>
      simp only [strsOf] at h
      split at h
      · next js hj => cases h; rw [strsOf_eq hj]; rfl
      · cases h
    | _ => cases h
section
variable {K : PySem.W.Frag} {B : List Addr} {H : Hp}
theorem RpA0.intsV : ∀ {ns : List Int} {xs : List V}, RpA K B H xs (ns.map D.int) → xs = ns.map V.int
  | [], _, .nil => rfl
  | n :: r, _, .cons (.int _) t => by rw [RpA0.intsV t]; rfl
theorem RpA0.blsV : ∀ {ns : List Bool} {xs : List V}, RpA K B H xs (ns.map D.bl) → xs = ns.map V.bl
  | [], _, .nil => rfl
  | n :: r, _, .cons (.bl _) t => by rw [RpA0.blsV t]; rfl
theorem RpA0.strsV : ∀ {ns : List Str} {xs : List V}, RpA K B H xs (ns.map D.str) → xs = ns.map V.str
  | [], _, .nil => rfl
  | n :: r, _, .cons (.str _) t => by rw [RpA0.strsV t]; rfl
end
theorem maxI_mem : ∀ (l : List Int), l ≠ [] → maxI l ∈ l ∧ ∀ y ∈ l, y ≤ maxI l
  | [a], _ => ⟨by simp [maxI], by simp [maxI]⟩
  | a :: b :: r, _ => by
    obtain ⟨h1, h2⟩ := maxI_mem (b :: r) (by simp)
    simp only [maxI]
    refine ⟨?_, fun y hy => ?_⟩
    · rcases Int.le_total a (maxI (b :: r)) with h | h
      · rw [Int.max_eq_right h]; exact List.mem_cons_of_mem _ h1
      · rw [Int.max_eq_left h]; exact List.mem_cons_self
    · rcases List.mem_cons.mp hy with rfl | hy
      · exact Int.le_max_left _ _
      · exact Int.le_trans (h2 y hy) (Int.le_max_right _ _)
theorem cb_len : CbM X (.builtin "len") bLen := by
  refine ⟨_, call_len, fun vs ds z B H Q hB r h q => ?_⟩
  unfold bLen at h
  split at h
  · cases r with
    | cons r1 r2 =>
      cases r2
      cases r1
      split at h
      · next hl => cases h; exact ⟨_, _, rfl, ⟨line1 hl, rfl⟩, q _ H (Kx.refl hB) (.int _)⟩
      · cases h
  · cases r with
    | cons r1 r2 =>
      cases r2
      split at h
      · next ds hd =>
        cases h
        obtain ⟨p, xs, rfl, hs, ra⟩ := r1.seq hd
        refine ⟨_, ds.length, rfl, ?_, q _ H (Kx.refl hB) (.int _)⟩
        rw [← ra.length]
        rcases hs with hs | hs
        · exact .inl ⟨xs, hs, rfl⟩
        · exact .inr ⟨xs, hs, rfl⟩
      · cases h
  · cases h
theorem cb_isi : CbM X (.builtin "isinstance") bIsi := by
  refine ⟨_, call_isi, fun vs ds z B H Q hB r h q => ?_⟩
  unfold bIsi at h
  split at h
  · cases r with
    | cons r1 r2 =>
      cases r2 with
      | cons r3 r4 =>
        cases r4
        cases r3
        split at h
        · next n hn =>
          split at h
          · next k hk => cases h; exact ⟨_, _, _, _, k, rfl, .ty _, (r1.tyX hn).1, kit_ty hk, q _ H (Kx.refl hB) (.bl _)⟩
          · cases h
        · cases h
  · cases h
theorem rl_tyN (pins : List (Addr × Obj)) (s : Shared) (σ : L2.St) (H : Hp) (x : V) (v : Value) (Q : VK) (I : Inv X pins σ H s) (r : RelV x v) (h : ∃ n, tyNV x H = some n ∧ Q (.ty n) H) :
    wpAny (model X.prog X.w) X.A (call (.type "type") [v]) (EP X pins σ Q) X.xe s := by
  obtain ⟨n, e, q⟩ := h
  have base : zTyV x H = some n → wpAny (model X.prog X.w) X.A (call (.type "type") [v]) (EP X pins σ Q) X.xe s := fun e2 => rl_type pins s σ H x v Q I r ⟨n, e2, q⟩
  cases x with
  | ref p =>
    cases (show v = Value.ref p from r)
    unfold tyNV at e
    cases ho : H p with
    | none => exact base (by simp only [ho] at e; exact e)
    | some o =>
      cases o with
      | dK kvs =>
        simp only [ho] at e
        cases e
        have fin : EP X pins σ Q (.type "dict") s := ⟨.ty "dict", H, I, rfl, q⟩
        obtain ⟨_, _, vs, _, q1⟩ := (show ObjOk X.prog X.w H s.heap p (.dK kvs) from I.hok p _ ho)
        obtain ⟨ob, es, ep, h1, h2, _⟩ := q1
        exact call_type_of (Tx := "dict") ⟨ob, h1, h2.1⟩ (by decide +kernel) fin
      | _ => exact base (by simp only [ho] at e; exact e)
  | _ => exact base e
theorem cb_type : CbM X (.type "type") bType := by
  refine ⟨_, call_r1 rl_tyN, fun vs ds z B H Q hB r h q => ?_⟩
  unfold bType at h
  split at h
  · cases r with
    | cons r1 r2 =>
      cases r2
      split at h
      · next n hn => cases h; exact ⟨n, (r1.tyX hn).2, q _ H (Kx.refl hB) (.ty _)⟩
      · cases h
  · cases h
theorem cb_int : CbM X (.type "int") bInt := by
  refine ⟨_, call_int1, fun vs ds z B H Q hB r h q => ?_⟩
  unfold bInt at h
  split at h
  · cases r with
    | cons r1 r2 => cases r2; cases r1; cases h; exact .inl ⟨_, rfl, q _ H (Kx.refl hB) (.int _)⟩
  · cases r with
    | cons r1 r2 => cases r2; cases r1; cases h; exact .inr ⟨_, rfl, q _ H (Kx.refl hB) (.int _)⟩
  · cases h
theorem cb_max (hc : X.calm = true) : CbM X (.builtin "max") bMax := by
  refine ⟨_, cr_max hc, fun vs ds z B H Q hB r h q => ?_⟩
  unfold bMax at h
  split at h
  · cases r with
    | cons r1 r2 =>
      cases r2
      cases r1 with
      | lst hp ra =>
        simp only at h
        split at h
        · next i is hi =>
          cases h
          rw [intsOf_eq hi] at ra
          have e := RpA0.intsV ra
          subst e
          refine ⟨_, i :: is, rfl, sq_of (hid_some hp), by simp, fun m h1 h2 => ?_⟩
          obtain ⟨g1, g2⟩ := maxI_mem (i :: is) (by simp)
          have e : m = maxI (i :: is) := Int.le_antisymm (g2 m h1) (h2 _ g1)
          subst e
          exact q _ H (Kx.refl hB) (.int _)
        · cases h
      | _ => cases h
  · cases h
theorem cb_all (hc : X.calm = true) : CbM X (.builtin "all") bAll := by
  refine ⟨_, cr_all hc, fun vs ds z B H Q hB r h q => ?_⟩
  unfold bAll at h
  split at h
  · cases r with
    | cons r1 r2 =>
      cases r2
      cases r1 with
      | lst hp ra =>
        split at h
        · next bs hb =>
          cases h
          rw [blsOf_eq hb] at ra
          have e := RpA0.blsV ra
          subst e
          exact ⟨_, bs, rfl, sq_of (hid_some hp), q _ H (Kx.refl hB) (.bl _)⟩
        · cases h
  · cases h
/-- s.join(xs) -/
def D.join : D → D → Option D
  | .str a, .lst ds => match strsOf ds with
    | some ys => if (ys.map (·.length)).sum + ys.length * a.length ≤ 16777216 then some (.str (Txt.join a ys)) else none
    | none => none
  | _, _ => none
end
end Ask
namespace Ask
open PySem L2 Evl
section
variable {X : Cx} {W : WX} {a b c e : Expr} {es : List Expr} {ma mb mc : Sl → R D} {pos p2 : Pos}
theorem EvE.okk {K : PySem.W.Frag} {mg : Str → Option Value} {te : TE} {m : Sl → R D} {env : Sl} {σ : L2.St} {B : List Addr} {H : Hp} {Q : VK} {d : D} (ha : EvE K mg W te m) (hs : RS K B H σ env) (hm : m env = .ok d) (k : ∀ v H1, Kx B H H1 → Rp K B H1 v d → Q v H1) : te σ H Q :=
  ha env σ B H Q hs (by rw [hm]; exact k)
/-! ### the rest of the expressions -/
def ifM (t : Sl → R Bool) (a b : Sl → R D) : Sl → R D := fun env => (t env).bind fun x => if x = true then a env else b env
theorem me_if {m : Sl → R Bool} (hc : MT X W c m) (ha : ME X W a ma) (hb : ME X W b mb) : ME X W (.IfExp c a b pos) (ifM m ma mb) := by
  obtain ⟨t, h1, h2⟩ := hc
  obtain ⟨ta, a1, a2⟩ := ha
  obtain ⟨tb, b1, b2⟩ := hb
  refine ⟨_, pe_ifExp h1 a1 b1, fun env σ B H Q hs h => h2 env σ B H _ hs (Po.step h fun x _ v H1 e1 r1 q => ?_)⟩
  have ev : v = x := r1
  subst ev
  cases v with
  | true => exact iteT (a2 env σ B H1 Q (hs.mono e1) q)
  | false => exact iteF (b2 env σ B H1 Q (hs.mono e1) q)
/-- a < b < c -/
def chM (g g' : D → D → Option D) (a b c : Sl → R D) : Sl → R D := fun env => (a env).bind fun x => (b env).bind fun y => (R.of (g x y)).bind fun z => match z with
  | .bl k => if k = true then (c env).bind fun w => R.of (g' y w) else .ok (.bl false)
  | _ => .bad
theorem EvE.chain {K : PySem.W.Frag} {mg : Str → Option Value} {g g' : D → D → Option D} {r r' : R2} {ta tb tc : TE} (h2 : ∀ (x y : V) (d e z : D) (B : List Addr) (H : Hp) (Q : VK), InB B H → Rp K B H x d → Rp K B H y e → g d e = some z → (∀ v H', Kx B H H' → Rp K B H' v z → Q v H') → r x y H Q)
    (k2 : ∀ (x y : V) (d e z : D) (B : List Addr) (H : Hp) (Q : VK), InB B H → Rp K B H x d → Rp K B H y e → g' d e = some z → (∀ v H', Kx B H H' → Rp K B H' v z → Q v H') → r' x y H Q)
    (a2 : EvE K mg W ta ma) (b2 : EvE K mg W tb mb) (c2 : EvE K mg W tc mc) : EvE K mg W (tChain r r' ta tb tc) (chM g g' ma mb mc) := fun env σ B H Q hs h => by
  refine a2 env σ B H _ hs (Po.step h fun x _ v H1 e1 r1 q => b2 env σ B H1 _ (hs.mono e1) (Po.step q fun y _ u H2 e2 r2 q2 => ?_))
  cases hz : g x y with
  | none => rw [hz] at q2; exact q2.elim
  | some z =>
    rw [hz] at q2
    refine h2 v u x y z B H2 _ e2.inB' (r1.mv e2) r2 hz fun w H3 e3 r3 => ?_
    have q3 := Po.mono e3 q2
    cases r3 with
    | bl k =>
      refine ⟨k, rfl, ?_⟩
      cases k with
      | true =>
        refine iteT (c2 env σ B H3 _ (((hs.mono e1).mono e2).mono e3) (Po.step (show Po (Rp K) mg W σ B H3 Q ((mc env).bind fun w => R.of (g' y w)) from q3) fun z' _ w' H4 e4 r4 q4 => ?_))
        cases hz' : g' y z' with
        | none => rw [hz'] at q4; exact q4.elim
        | some z2 =>
          rw [hz'] at q4
          exact k2 u w' y z' z2 B H4 Q e4.inB' ((r2.mv e3).mv e4) r4 hz' q4
      | false => exact iteF (q3 (.bl false) H3 (Kx.refl e3.inB') (.bl false))
    | _ => exact q3.elim
theorem me_chain {op op' : CmpOp} {g g' : D → D → Option D} (ho : OpM X (compareOp op) g) (ho' : OpM X (compareOp op') g') (ha : ME X W a ma) (hb : ME X W b mb) (hc : ME X W c mc) (hm : lastMarks [op, op'] [b, c] = false := by with_unfolding_all rfl) :
    ME X W (.Compare a [op, op'] [b, c] pos) (chM g g' ma mb mc) := by
  obtain ⟨r, h1, h2⟩ := ho
  obtain ⟨r', k1, k2⟩ := ho'
  obtain ⟨ta, a1, a2⟩ := ha
  obtain ⟨tb, b1, b2⟩ := hb
  obtain ⟨tc, c1, c2⟩ := hc
  exact ⟨_, pe_chain h1 k1 a1 b1 c1 hm, EvE.chain h2 k2 a2 b2 c2⟩
/-- s.join(xs) -/
def joinM (a b : Sl → R D) : Sl → R D := fun env => (a env).bind fun x => match x with
  | .str s => (b env).bind fun y => R.of (D.join (.str s) y)
  | _ => .bad
theorem me_join {o : Expr} {apos : Pos} (ho : ME X W o ma) (he : ME X W e mb) (hs : starEach [e] X.env = [(false, eval e X.env)] := by rfl) (hbase : attributeBase o "join" X.env (eval o X.env) = eval o X.env := by rfl) (hline : (apos.endLine == pos.line) = true := by rfl) :
    ME X W (.Call (.Attribute o "join" apos) [e] [] pos) (joinM ma mb) := by
  obtain ⟨ta, a1, a2⟩ := ho
  obtain ⟨tb, b1, b2⟩ := he
  refine ⟨_, pe_join a1 b1 hs hbase hline, fun env σ B H Q hs h => a2 env σ B H _ hs (Po.step h fun x hx v H1 e1 r1 q => ?_)⟩
  cases r1 with
  | str s =>
    refine ⟨⟨s, rfl⟩, b2 env σ B H1 _ (hs.mono e1) (Po.step q fun y hy u H2 e2 r2 q2 => ?_)⟩
    cases hz : D.join (.str s) y with
    | none => rw [hz] at q2; exact q2.elim
    | some z =>
      rw [hz] at q2
      unfold D.join at hz
      split at hz
      · next s' ds hs' =>
        cases hs'
        split at hz
        · next ys hy =>
          split at hz
          · next hl =>
            cases hz
            cases r2 with
            | lst hp ra =>
              rw [strsOf_eq hy] at ra
              have ev := RpA0.strsV ra
              subst ev
              exact ⟨s, _, ys, rfl, rfl, .inl (sq_of (hid_some hp)), hl, q2 _ H2 (Kx.refl e2.inB') (.str _)⟩
          · cases hz
        · cases hz
      · cases hz
  | _ => exact q.elim
/-! own defs -/
def spM (K : PySem.W.Frag) (mg : Str → Option Value) (n : Nat) (m : List D → R D) : Sp := fun vs H Q E => ∃ (B : List Addr) (ds : List D), InB B H ∧ ds.length = n ∧ RpA K B H vs ds ∧ Po (Rp K) mg (fun cls d _ H' => E cls d H') [] B H Q (m ds)
/-- the def at the module's name x is the function m of its n arguments -/
def FnI (P : Program) (w : World) (K : PySem.W.Frag) (mg : Str → Option Value) (base : Heap) (x : Str) (k n : Nat) (m : List D → R D) : Prop :=
  ∃ (f : Addr) (fd : FuncData) (ps : List Str), ps.length = n ∧ mg x = some (.ref f) ∧ PySem.W.keepIn K (.ref f) = true ∧ Binds K fd ps [] ∧ FnOk P w K mg base (L2.CX P w) k f fd ps (spM K mg n m)
theorem FnI.mono {P : Program} {w : World} {K : PySem.W.Frag} {mg : Str → Option Value} {base : Heap} {x : Str} {j k n : Nat} {m : List D → R D} (F : FnI P w K mg base x j n m) (h : j ≤ k) : FnI P w K mg base x k n m := by
  obtain ⟨f, fd, ps, hl, h1, h2, h3, h4⟩ := F
  exact ⟨f, fd, ps, hl, h1, h2, h3, h4.mono h⟩
def PassW (X : Cx) (W : WX) : Prop := ∀ σ, PassesAt (L2.CX X.prog X.w) X σ (WE W σ)
theorem passW_of {W : WX} (tk : Takes X W) : PassW X W := fun σ => passAt tk σ
theorem passW0 : PassW X (fun _ _ _ _ => False) := fun σ => passAt takes0 σ
def callM (n : Nat) (m : List D → R D) (a : Sl → R (List D)) : Sl → R D := fun env => (a env).bind fun ds => if ds.length = n then m ds else .bad
theorem me_call {x : Str} {p : Pos} {k n : Nat} {m : List D → R D} {mr : Sl → R (List D)} (F : FnI X.prog X.w X.K X.mg X.base x k n m) (hr : Room k X.A) (hw : PassW X W) (hg : Gl X x)
    (ha : MA X W (e :: es) mr) (hdb : (x == ("__debug__" : Str)) = false := by decide) (he : starEach (e :: es) X.env = (false, eval e X.env) :: starEach es X.env := by rfl) (hpl : (backTo pos (starEach es X.env)).any (·.1) = false := by rfl) :
    ME X W (.Call (.Name x p) (e :: es) [] pos) (callM n m mr) := by
  obtain ⟨f, fd, ps, hl, hm, hk, hb, G⟩ := F
  obtain ⟨ta, a1, a2⟩ := ha
  refine ⟨_, pe_callS G hr hg hm hk hb hw a1 hdb he hpl, fun env σ B H Q hs h => a2 env σ B H _ hs (Po.step h fun ds _ vs H1 e1 r1 q => ?_)⟩
  by_cases hn : ds.length = n
  · rw [if_pos hn] at q
    refine ⟨B, ds, e1.inB', hn, r1, ?_⟩
    cases hm2 : m ds with
    | ok d => rw [hm2] at q; exact q
    | err c => rw [hm2] at q; exact q
    | bad => rw [hm2] at q; exact q
  · rw [if_neg hn] at q
    exact q.elim
/-! ### what is walked -/
structure Ky (B : List Addr) (H : Hp) (B' : List Addr) (H' : Hp) : Prop where
  hid : Ex (hid B H) (hid B' H')
  inB' : InB B' H'
theorem Rp0.my {K : PySem.W.Frag} {B B' : List Addr} {H H' : Hp} {v : V} {d : D} (r : Rp K B H v d) (e : Ky B H B' H') : Rp K B' H' v d := r.mono e.hid
theorem RpA0.my {K : PySem.W.Frag} {B B' : List Addr} {H H' : Hp} {v : List V} {d : List D} (r : RpA K B H v d) (e : Ky B H B' H') : RpA K B' H' v d := r.mono e.hid
theorem RS.my {K : PySem.W.Frag} {B B' : List Addr} {H H' : Hp} {σ : L2.St} {env : Sl} (h : RS K B H σ env) (e : Ky B H B' H') : RS K B' H' σ env := ⟨e.inB', h.len, fun i d q => let ⟨v, a, b⟩ := h.get i d q; ⟨v, a, b.my e⟩⟩
def Walks (K : PySem.W.Frag) (B : List Addr) (H : Hp) (J : It) (ds : List D) : Prop := ∀ B' H2, Ky B H B' H2 → (∀ i, i < ds.length → J.go i H2 ∧ ∀ x H3, J.yld i H2 x H3 → Kx B' H2 H3 ∧ ∃ d, ds[i]? = some d ∧ Rp K B' H3 x d) ∧ J.stop ds.length H2
def EvI (K : PySem.W.Frag) (mg : Str → Option Value) (W : WX) (wi : TI) (m : Sl → R (List D)) : Prop := ∀ (env : Sl) (σ : L2.St) (B : List Addr) (H : Hp) (Q : It → Hp → Prop), RS K B H σ env → Po (Walks K) mg W σ B H Q (m env) → wi σ H Q
def MI (X : Cx) (W : WX) (tg iter : Expr) (m : Sl → R (List D)) : Prop := ∃ wi, PI X tg iter wi ∧ EvI X.K X.mg W wi m
theorem walks_list {K : PySem.W.Frag} {B : List Addr} {H : Hp} {p : Addr} {xs : List V} {ds : List D} (h : SqL K (hid B H) p xs) (r : RpA K B H xs ds) : Walks K B H (Itl K p) ds := fun B' H2 e => by
  refine ⟨fun i hi => ?_, xs, (ex_l (hid_ex B' H2) (ex_l e.hid h)), by rw [r.length]; exact Nat.le_refl _⟩
  obtain ⟨d, hd⟩ : ∃ d, ds[i]? = some d := ⟨ds[i], List.getElem?_eq_getElem hi⟩
  obtain ⟨v, hv, rv⟩ := r.get hd
  refine ⟨⟨xs, v, (ex_l (hid_ex B' H2) (ex_l e.hid h)), hv⟩, fun x H3 hy => ?_⟩
  obtain ⟨e3, hy⟩ := hy
  subst e3
  have hx := hy xs ((ex_l (hid_ex B' _) (ex_l e.hid h)))
  rw [hv] at hx
  cases hx
  exact ⟨Kx.refl e.inB', d, hd, rv.my e⟩
theorem walks_tup {K : PySem.W.Frag} {B : List Addr} {H : Hp} {p : Addr} {xs : List V} {ds : List D} (h : SqT K (hid B H) p xs) (r : RpA K B H xs ds) : Walks K B H (Itt K p) ds := fun B' H2 e => by
  refine ⟨fun i hi => ?_, xs, (ex_t (hid_ex B' H2) (ex_t e.hid h)), by rw [r.length]; exact Nat.le_refl _⟩
  obtain ⟨d, hd⟩ : ∃ d, ds[i]? = some d := ⟨ds[i], List.getElem?_eq_getElem hi⟩
  obtain ⟨v, hv, rv⟩ := r.get hd
  refine ⟨⟨xs, v, (ex_t (hid_ex B' H2) (ex_t e.hid h)), hv⟩, fun x H3 hy => ?_⟩
  obtain ⟨e3, hy⟩ := hy
  subst e3
  have hx := hy xs ((ex_t (hid_ex B' _) (ex_t e.hid h)))
  rw [hv] at hx
  cases hx
  exact ⟨Kx.refl e.inB', d, hd, rv.my e⟩
def signs (z : Str) : List D := z.cps.toList.map fun c => .str ⟨#[c]⟩
theorem walks_str {K : PySem.W.Frag} {B : List Addr} {H : Hp} {z : Str} : Walks K B H (Its z) (signs z) := fun B' H2 e => by
  have hl : (signs z).length = z.cps.size := by unfold signs; rw [List.length_map, Array.length_toList]
  refine ⟨fun i hi => ⟨by rw [hl] at hi; exact hi, fun x H3 hy => ?_⟩, by rw [hl]; exact Nat.le_refl _⟩
  obtain ⟨e3, c, hc, ex⟩ := hy
  subst e3 ex
  refine ⟨Kx.refl e.inB', _, ?_, .str _⟩
  unfold signs
  rw [List.getElem?_map, Array.getElem?_toList, hc]
  rfl
def rangeD (lo : Int) (n : Nat) : List D := (List.range n).map fun (i : Nat) => D.int (lo + (i : Int))
theorem walks_range {K : PySem.W.Frag} {B : List Addr} {H : Hp} {lo : Int} {n : Nat} : Walks K B H (Itr lo n) (rangeD lo n) := fun B' H2 e => by
  have hl : (rangeD lo n).length = n := by unfold rangeD; rw [List.length_map, List.length_range]
  refine ⟨fun i hi => ⟨by rw [hl] at hi; exact hi, fun x H3 hy => ?_⟩, by rw [hl]; exact Nat.le_refl _⟩
  obtain ⟨e3, ex⟩ := hy
  subst e3 ex
  rw [hl] at hi
  refine ⟨Kx.refl e.inB', .int (lo + (i : Int)), ?_, .int _⟩
  unfold rangeD
  rw [List.getElem?_map, List.getElem?_range hi]
  rfl
/-- a list, a tuple, a text -/
def itM (a : Sl → R D) : Sl → R (List D) := fun env => (a env).bind fun x => match x with
  | .str z => .ok (signs z)
  | d => match d.items with
    | some ds => .ok ds
    | none => .bad
theorem pi_or {tg iter : Expr} {w1 w2 : TI} (h1 : PI X tg iter w1) (h2 : PI X tg iter w2) : PI X tg iter (fun σ H R => w1 σ H R ∨ w2 σ H R) := ⟨fun pins s σ H R I h => h.elim (fun h => h1.run pins s σ H R I h) fun h => h2.run pins s σ H R I h⟩
theorem mi_any {tg : Expr} (ha : ME X W e ma) : MI X W tg e (itM ma) := by
  obtain ⟨ta, a1, a2⟩ := ha
  refine ⟨_, pi_or (pi_list a1) (pi_or (pi_tup a1) (pi_str a1)), fun env σ B H Q hs h => ?_⟩
  cases hm : ma env with
  | bad => unfold itM at h; rw [hm] at h; exact h.elim
  | err c =>
    unfold itM at h; rw [hm] at h
    exact .inl (a2 env σ B H _ hs (by rw [hm]; exact h))
  | ok d =>
    have h' := h
    unfold itM at h'; rw [hm] at h'
    have go : ∀ {ds : List D}, d.items = some ds → Po (Walks X.K) X.mg W σ B H Q (.ok ds) → iList X.K ta σ H Q ∨ iTup X.K ta σ H Q ∨ iStr ta σ H Q := fun {ds} hd q => by
      cases d with
      | lst ds' =>
        cases hd
        refine .inl (a2.okk hs hm fun v H1 e1 r1 => ?_)
        cases r1 with
        | lst hp ra => exact ⟨_, rfl, ⟨_, sq_of (hid_some hp)⟩, q _ H1 e1 (walks_list (sq_of hp) ra)⟩
      | klst ds' =>
        cases hd
        refine .inl (a2.okk hs hm fun v H1 e1 r1 => ?_)
        cases r1 with
        | klst hp ra => exact ⟨_, rfl, ⟨_, ex_l (hid_ex B H1) hp⟩, q _ H1 e1 (walks_list hp ra)⟩
      | tup ds' =>
        cases hd
        refine .inr (.inl (a2.okk hs hm fun v H1 e1 r1 => ?_))
        cases r1 with
        | tup hp ra => exact ⟨_, rfl, ⟨_, st_of (hid_some hp)⟩, q _ H1 e1 (walks_tup (st_of hp) ra)⟩
      | ktup ds' =>
        cases hd
        refine .inr (.inl (a2.okk hs hm fun v H1 e1 r1 => ?_))
        cases r1 with
        | ktup hp ra => exact ⟨_, rfl, ⟨_, ex_t (hid_ex B H1) hp⟩, q _ H1 e1 (walks_tup hp ra)⟩
      | _ => cases hd
    cases d with
    | str z =>
      refine .inr (.inr (a2.okk hs hm fun v H1 e1 r1 => ?_))
      cases r1
      exact ⟨z, rfl, h' _ H1 e1 walks_str⟩
    | lst ds => exact go rfl h'
    | klst ds => exact go rfl h'
    | tup ds => exact go rfl h'
    | ktup ds => exact go rfl h'
    | _ => exact h'.elim
def rngM (a : Sl → R (List D)) : Sl → R (List D) := fun env => (a env).bind fun xs => match xs with
  | [.int n] => if -1000000 ≤ n ∧ n ≤ 1000000 then .ok (rangeD 0 n.toNat) else .bad
  | _ => .bad
theorem mi_range {tg : Expr} {p : Pos} {m : Sl → R (List D)} (hg : Gl X "range") (hm : X.mg "range" = none) (ha : MA X W [a] m) (hs : starEach [a] X.env = [(false, eval a X.env)] := by rfl) : MI X W tg (.Call (.Name "range" p) [a] [] pos) (rngM m) := by
  obtain ⟨ta, a1, a2⟩ := ha
  refine ⟨_, pi_range1 hg hm a1 hs, fun env σ B H Q hs h => a2 env σ B H _ hs (Po.step h fun ds _ vs H1 e1 r1 q => ?_)⟩
  split at q
  · split at q
    · next n hn =>
      cases r1 with
      | cons r2 r3 =>
        cases r3
        cases r2
        exact ⟨_, rfl, by omega, by omega, q _ H1 (Kx.refl e1.inB') walks_range⟩
    · exact q.elim
  · exact q.elim
/-- pairs of the items of two tuples, or of two lists -/
def zipD (a b : List D) : List D := (a.zip b).map fun p => .tup [p.1, p.2]
def isT : D → Bool
  | .tup _ => true
  | .ktup _ => true
  | _ => false
def zipM (a : Sl → R (List D)) : Sl → R (List D) := fun env => (a env).bind fun xs => match xs with
  | [x, y] => match x.items, y.items with
    | some ds, some es => if isT x = isT y then .ok (zipD ds es) else .bad
    | _, _ => .bad
  | _ => .bad
theorem zipD_get {a b : List D} {i : Nat} {x y : D} (h1 : a[i]? = some x) (h2 : b[i]? = some y) : (zipD a b)[i]? = some (.tup [x, y]) := by
  unfold zipD
  have e : (a.zip b)[i]? = some (x, y) := by rw [List.getElem?_zip_eq_some]; exact ⟨h1, h2⟩
  rw [List.getElem?_map, e]
  rfl
theorem zipD_len (a b : List D) : (zipD a b).length = min a.length b.length := by
  unfold zipD
  rw [List.length_map, List.length_zip]
theorem walks_zipT {K : PySem.W.Frag} {B : List Addr} {H : Hp} {p q : Addr} {xs ys : List V} {ds es : List D} (h : SqT K (hid B H) p xs) (k : SqT K (hid B H) q ys) (r : RpA K B H xs ds) (t : RpA K B H ys es) : Walks K B H (RZ.ItzT K p q) (zipD ds es) := fun B' H2 e => by
  refine ⟨fun i hi => ?_, xs, ys, (ex_t (hid_ex B' H2) (ex_t e.hid h)), (ex_t (hid_ex B' H2) (ex_t e.hid k)), ?_⟩
  · rw [zipD_len] at hi
    obtain ⟨d, hd⟩ : ∃ d, ds[i]? = some d := ⟨ds[i], List.getElem?_eq_getElem (by omega)⟩
    obtain ⟨f, hf⟩ : ∃ d, es[i]? = some d := ⟨es[i], List.getElem?_eq_getElem (by omega)⟩
    obtain ⟨v, hv, rv⟩ := r.get hd
    obtain ⟨u, hu, ru⟩ := t.get hf
    refine ⟨⟨xs, ys, v, u, (ex_t (hid_ex B' H2) (ex_t e.hid h)), (ex_t (hid_ex B' H2) (ex_t e.hid k)), hv, hu⟩, fun z H3 hy => ?_⟩
    obtain ⟨T, x, y, ez, hT, e3, hx, hy⟩ := hy
    subst ez e3
    have hx' := hx xs ((ex_t (hid_ex B' H2) (ex_t e.hid h)))
    have hy' := hy ys ((ex_t (hid_ex B' H2) (ex_t e.hid k)))
    rw [hv] at hx'
    rw [hu] at hy'
    cases hx'
    cases hy'
    exact ⟨Kx.new e.inB' hT, _, zipD_get hd hf, .tup (hid_new e.inB' hT) (.cons ((rv.my e).mv (Kx.new e.inB' hT)) (.cons ((ru.my e).mv (Kx.new e.inB' hT)) .nil))⟩
  · rw [zipD_len, ← r.length, ← t.length]
    omega
theorem walks_zipL {K : PySem.W.Frag} {B : List Addr} {H : Hp} {p q : Addr} {xs ys : List V} {ds es : List D} (h : SqL K (hid B H) p xs) (k : SqL K (hid B H) q ys) (r : RpA K B H xs ds) (t : RpA K B H ys es) : Walks K B H (Itz K p q) (zipD ds es) := fun B' H2 e => by
  refine ⟨fun i hi => ?_, xs, ys, (ex_l (hid_ex B' H2) (ex_l e.hid h)), (ex_l (hid_ex B' H2) (ex_l e.hid k)), ?_⟩
  · rw [zipD_len] at hi
    obtain ⟨d, hd⟩ : ∃ d, ds[i]? = some d := ⟨ds[i], List.getElem?_eq_getElem (by omega)⟩
    obtain ⟨f, hf⟩ : ∃ d, es[i]? = some d := ⟨es[i], List.getElem?_eq_getElem (by omega)⟩
    obtain ⟨v, hv, rv⟩ := r.get hd
    obtain ⟨u, hu, ru⟩ := t.get hf
    refine ⟨⟨xs, ys, v, u, (ex_l (hid_ex B' H2) (ex_l e.hid h)), (ex_l (hid_ex B' H2) (ex_l e.hid k)), hv, hu⟩, fun z H3 hy => ?_⟩
    obtain ⟨T, x, y, ez, hT, e3, hx, hy⟩ := hy
    subst ez e3
    have hx' := hx xs ((ex_l (hid_ex B' H2) (ex_l e.hid h)))
    have hy' := hy ys ((ex_l (hid_ex B' H2) (ex_l e.hid k)))
    rw [hv] at hx'
    rw [hu] at hy'
    cases hx'
    cases hy'
    exact ⟨Kx.new e.inB' hT, _, zipD_get hd hf, .tup (hid_new e.inB' hT) (.cons ((rv.my e).mv (Kx.new e.inB' hT)) (.cons ((ru.my e).mv (Kx.new e.inB' hT)) .nil))⟩
  · rw [zipD_len, ← r.length, ← t.length]
    omega
theorem Rp0.seqT {K : PySem.W.Frag} {B : List Addr} {H : Hp} {v : V} {d : D} {ds : List D} (r : Rp K B H v d) (e : d.items = some ds) : ∃ a xs, v = .ref a ∧ RpA K B H xs ds ∧ ((isT d = true ∧ SqT K (hid B H) a xs) ∨ (isT d = false ∧ SqL K (hid B H) a xs)) := by
  cases r with
  | tup h q => cases e; exact ⟨_, _, rfl, q, .inl ⟨rfl, st_of h⟩⟩
  | lst h q => cases e; exact ⟨_, _, rfl, q, .inr ⟨rfl, sq_of h⟩⟩
  | ktup h q => cases e; exact ⟨_, _, rfl, q, .inl ⟨rfl, h⟩⟩
  | klst h q => cases e; exact ⟨_, _, rfl, q, .inr ⟨rfl, h⟩⟩
  | _ => cases e
theorem mi_zip {p tpos : Pos} {e2 : Expr} {elts : List Expr} {kk : Nat} {m : Sl → R (List D)} (hg : Gl X "zip") (hm : X.mg "zip" = none) (ha : MA X W [e, e2] m)
    (hs : starEach [e, e2] X.env = (false, eval e X.env) :: starEach [e2] X.env := by rfl) (hpl : (backTo pos (starEach [e2] X.env)).any (·.1) = false := by rfl) : MI X W (.Tuple elts kk tpos) (.Call (.Name "zip" p) [e, e2] [] pos) (zipM m) := by
  obtain ⟨ta, a1, a2⟩ := ha
  refine ⟨_, RZ.pi_zipA hg hm a1 hs hpl, fun env σ B H Q hs h => a2 env σ B H _ hs (Po.step h fun ds _ vs H1 e1 r1 q => ?_)⟩
  split at q
  · split at q
    · next x y _ _ xs ys hx hy =>
      split at q
      · next hT =>
        cases r1 with
        | cons r2 r3 =>
          cases r3 with
          | cons r4 r5 =>
            cases r5
            obtain ⟨p1, zs1, rfl, ra1, k1⟩ := r2.seqT hx
            obtain ⟨p2, zs2, rfl, ra2, k2⟩ := r4.seqT hy
            refine ⟨p1, p2, zs1, zs2, rfl, ?_⟩
            rcases k1 with ⟨t1, k1⟩ | ⟨t1, k1⟩
            · rcases k2 with ⟨t2, k2⟩ | ⟨t2, k2⟩
              · exact .inr ⟨ex_t (hid_ex B H1) k1, ex_t (hid_ex B H1) k2, q _ H1 (Kx.refl e1.inB') (walks_zipT k1 k2 ra1 ra2)⟩
              · rw [t1, t2] at hT; cases hT
            · rcases k2 with ⟨t2, k2⟩ | ⟨t2, k2⟩
              · rw [t1, t2] at hT; cases hT
              · exact .inl ⟨ex_l (hid_ex B H1) k1, ex_l (hid_ex B H1) k2, q _ H1 (Kx.refl e1.inB') (walks_zipL k1 k2 ra1 ra2)⟩
      · exact q.elim
    · exact q.elim
  · exact q.elim
/-! ### targets -/
def EvG (K : PySem.W.Frag) (g : TG) (m : D → Sl → Option Sl) : Prop := ∀ (env env' : Sl) (σ : L2.St) (B : List Addr) (H : Hp) (v : V) (d : D) (Q : L2.St → Hp → Prop), RS K B H σ env → Rp K B H v d → m d env = some env' → (∀ σ', RS K B H σ' env' → Q σ' H) → g v σ H Q
def MG (X : Cx) (tg : Expr) (m : D → Sl → Option Sl) : Prop := ∃ g, PG X tg g ∧ EvG X.K g m
def tgN (i : Nat) : D → Sl → Option Sl := fun d env => some (env.set i (some d))
theorem mg_name (i : Nat) {x : Str} (hN : X.N.Nodup) (hi : X.N[i]? = some x := by rfl) (hx : Loc X.env.scope x := by first | exact Or.inl rfl | exact Or.inr rfl) (hf : X.fn x = true ∨ X.env.scope.names.lookup x = some .local := by first | exact .inl rfl | exact .inr rfl) : MG X (.Name x pos) (tgN i) :=
  ⟨_, pg_name hN hi hx hf, fun env env' σ B H v d Q hs r h q => by cases h; exact q _ (hs.set r)⟩
def tg2 (a b : D → Sl → Option Sl) : D → Sl → Option Sl := fun d env => match d.items with
  | some [x, y] => if isT d = true then (a x env).bind fun e1 => b y e1 else none
  | _ => none
theorem mg_two {x y : Expr} {k : Nat} {m1 m2 : D → Sl → Option Sl} (hc : X.calm = true) (h1 : MG X x m1) (h2 : MG X y m2) (s1 : (assignEach [x, y] X.env).map (·.2) = assign x X.env :: (assignEach [y] X.env).map (·.2) := by rfl) (s2 : (assignEach [y] X.env).map (·.2) = assign y X.env :: (assignEach [] X.env).map (·.2) := by rfl)
    (hn : (assignEach [x, y] X.env).length = 2 := by rfl) (hst : (assignEach [x, y] X.env).findIdx? (·.1) = none := by rfl) : MG X (.Tuple [x, y] k pos) (tg2 m1 m2) := by
  obtain ⟨g1, a1, a2⟩ := h1
  obtain ⟨g2, b1, b2⟩ := h2
  refine ⟨_, pg_tup hc (pgs_cons a1 (pgs_cons b1 pgs_nil s2) s1) hn hst, fun env env' σ B H v d Q hs r h q => ?_⟩
  unfold tg2 at h
  split at h
  · next x y hd =>
    split at h
    · next hT =>
      obtain ⟨p, xs, rfl, ra, k⟩ := r.seqT hd
      rcases k with ⟨_, k⟩ | ⟨t, _⟩
      · cases ra with
        | cons r1 ra =>
          cases ra with
          | cons r2 ra =>
            cases ra
            cases h1 : m1 x env with
            | none => rw [h1] at h; cases h
            | some e1 =>
              rw [h1] at h
              exact ⟨p, _, rfl, ex_t (hid_ex B H) k, rfl, _, _, rfl, a2 env e1 σ B H _ x _ hs r1 h1 fun σ1 hs1 => ⟨_, _, rfl, b2 e1 env' σ1 B H _ y _ hs1 r2 h fun σ2 hs2 => ⟨rfl, q σ2 hs2⟩⟩⟩
      · rw [t] at hT; cases hT
    · cases h
  · cases h
end
end Ask
namespace Ask
open PySem L2 Evl
section
variable {X : Cx} {W : WX} {a b c e : Expr} {es : List Expr} {ma mb mc : Sl → R D} {pos p2 : Pos}
/-! ### comprehensions -/
def lcGo (b : D → Sl → Option Sl) (t : Sl → R Bool) (el : Sl → R D) (env : Sl) : List D → R (List D)
  | [] => .ok []
  | d :: ds => match b d env with
    | none => .bad
    | some e1 => (t e1).bind fun k => if k = true then (el e1).bind fun y => (lcGo b t el env ds).bind fun ys => .ok (y :: ys) else lcGo b t el env ds
def lcM (it : Sl → R (List D)) (vs : List Nat) (b : D → Sl → Option Sl) (t : Sl → R Bool) (el : Sl → R D) : Sl → R D := fun env => (it env).bind fun ds => if ds.length ≤ 50000 then match lcGo b t el (wipeE env vs) ds with
  | .ok ys => .ok (.lst ys)
  | _ => .bad else .bad
def yesM : Sl → R Bool := fun _ => .ok true
theorem lcGo_len {b : D → Sl → Option Sl} {t : Sl → R Bool} {el : Sl → R D} {env : Sl} : ∀ {ds ys : List D}, lcGo b t el env ds = .ok ys → ys.length ≤ ds.length
  | [], ys, h => by cases h; exact Nat.le_refl _
  | d :: ds, ys, h => by
    simp only [lcGo] at h
    cases h1 : b d env with
    | none => rw [h1] at h; cases h
    | some e1 =>
      rw [h1] at h
      simp only at h
      cases h2 : t e1 with
      | ok k =>
        rw [h2] at h
        simp only [R.bind] at h
        cases k with
        | true =>
          simp only [if_true] at h
          cases h3 : el e1 with
          | ok y =>
            rw [h3] at h
            simp only at h
            cases h4 : lcGo b t el env ds with
            | ok zs =>
              rw [h4] at h
              cases h
              have := lcGo_len h4
              simp only [List.length_cons]
              omega
            | err c => rw [h4] at h; cases h
            | bad => rw [h4] at h; cases h
          | err c => rw [h3] at h; cases h
          | bad => rw [h3] at h; cases h
        | false =>
          simp only [Bool.false_eq_true, if_false] at h
          have := lcGo_len h
          simp only [List.length_cons]
          omega
      | err c => rw [h2] at h; cases h
      | bad => rw [h2] at h; cases h
/-- in the block of a comprehension -/
def Blk (X : Cx) (scope : Scope) (P : Cx → Prop) : Prop := ∀ (s : Shared) (H : Hp) (C : Addr) (cl : List (Str × Addr)) (fp : List Addr), P (X.blk s H scope (compEnvC scope cl C X.env) fp)
abbrev W0 : WX := fun _ _ _ _ => False
theorem Po.noerr {α β : Type} {rel : List Addr → Hp → β → α → Prop} {mg : Str → Option Value} {σ : L2.St} {B : List Addr} {H : Hp} {Q : β → Hp → Prop} {x : R α} {a : α} (e : x = .ok a) (k : ∀ v H', Kx B H H' → rel B H' v a → Q v H') : Po rel mg W σ B H Q x := by
  subst e
  exact k
theorem ky_lay {B : List Addr} {H : Hp} {Dl : Addr} {o : HO} (hB : InB B H) (h : H Dl = none) : Ky B H (Dl :: B) (upd H Dl o) where
  hid := fun a u q => by
    have q' := hid_some q
    have hn : a ∉ B := fun z => by unfold Ask.hid at q; rw [if_pos z] at q; cases q
    have hd : a ≠ Dl := ne_of_none q' h
    exact hid_at (by rw [upd_ne hd]; exact q') (by simp only [List.mem_cons, not_or]; exact ⟨hd, hn⟩)
  inB' := fun a ha z => by
    by_cases hd : a = Dl
    · subst hd; rw [upd_same] at z; cases z
    · rw [upd_ne hd] at z
      rcases List.mem_cons.mp ha with e | e
      · exact hd e
      · exact hB a e z
theorem ky_less {B : List Addr} {H : Hp} {Dl : Addr} (hB : InB (Dl :: B) H) : Ky (Dl :: B) H B H where
  hid := fun a u q => by
    have hn : a ∉ Dl :: B := fun z => by unfold Ask.hid at q; rw [if_pos z] at q; cases q
    exact hid_at (hid_some q) fun z => hn (List.mem_cons_of_mem _ z)
  inB' := fun a ha => hB a (List.mem_cons_of_mem _ ha)
theorem ky_put {B : List Addr} {H : Hp} {Dl : Addr} {o : HO} (hB : InB (Dl :: B) H) : Ky (Dl :: B) H (Dl :: B) (upd H Dl o) where
  hid := fun a u q => by
    have hn : a ∉ Dl :: B := fun z => by unfold Ask.hid at q; rw [if_pos z] at q; cases q
    have hd : a ≠ Dl := fun z => hn (by rw [z]; exact List.mem_cons_self)
    exact hid_at (by rw [upd_ne hd]; exact hid_some q) hn
  inB' := fun a ha z => by
    by_cases hd : a = Dl
    · subst hd; rw [upd_same] at z; cases z
    · rw [upd_ne hd] at z; exact hB a ha z
theorem Ky.trans {B1 B2 B3 : List Addr} {H1 H2 H3 : Hp} (a : Ky B1 H1 B2 H2) (b : Ky B2 H2 B3 H3) : Ky B1 H1 B3 H3 := ⟨a.hid.trans b.hid, b.inB'⟩
theorem Kx.ky {B : List Addr} {H H' : Hp} (e : Kx B H H') : Ky B H B H' := ⟨e.hid, e.inB'⟩
theorem EvLc {K : PySem.W.Frag} {mg : Str → Option Value} {wi : TI} {g : TG} {tt : TT} {te : TE} {vs : List Nat} {mi : Sl → R (List D)} {bi : D → Sl → Option Sl} {mt : Sl → R Bool} {me : Sl → R D}
    (hi : EvI K mg W wi mi) (hg : EvG K g bi) (ht : EvB K mg W0 tt mt) (he : EvE K mg W0 te me) (hw2 : ∀ v σ H Q, g v (wipe σ vs) H Q → g v (wipe σ vs) H fun σ2 H2 => wipe σ2 vs = wipe σ vs ∧ Q σ2 H2) :
    EvE K mg W (tLc wi g tt te vs) (lcM mi vs bi mt me) := fun env σ B H Q hs h => by
  refine hi env σ B H _ hs (Po.step h fun ds _ J H1 e1 wk q => ?_)
  by_cases hl : ds.length ≤ 50000
  · rw [if_pos hl] at q
    intro Dl hD
    have hB1 := e1.inB'
    have hDB : Dl ∉ B := fun z => hB1 Dl z hD
    cases hgo : lcGo bi mt me (wipeE env vs) ds with
    | bad => rw [hgo] at q; exact q.elim
    | err c => rw [hgo] at q; exact q.elim
    | ok ys =>
      rw [hgo] at q
      have q' : ∀ v H', Kx B H1 H' → Rp K B H' v (.lst ys) → Q v H' := q
      refine ⟨fun i m H2 => m = ds.length - i ∧ i ≤ ds.length ∧ Ky B H1 (Dl :: B) H2 ∧ Ex H1 H2 ∧ ∃ acc zs rs, H2 Dl = some (.lst acc) ∧ RpA K (Dl :: B) H2 acc zs ∧ lcGo bi mt me (wipeE env vs) (ds.drop i) = .ok rs ∧ zs ++ rs = ys,
        ⟨ds.length, by simp, Nat.zero_le _, ky_lay hB1 hD, Ex.new hD, [], [], ys, upd_same, .nil, hgo, rfl⟩, ?_⟩
      rintro i m H2 ⟨rfl, hi2, e2, x2, acc, zs, rs, hacc, ra, hrs, hys⟩
      obtain ⟨go, stop⟩ := wk _ H2 e2
      by_cases hlt : i < ds.length
      · obtain ⟨g1, g2⟩ := go i hlt
        refine .inr ⟨g1, fun H3 => i + 1 ≤ ds.length ∧ Ky B H1 (Dl :: B) H3 ∧ Ex H1 H3 ∧ ∃ acc zs rs, H3 Dl = some (.lst acc) ∧ RpA K (Dl :: B) H3 acc zs ∧ lcGo bi mt me (wipeE env vs) (ds.drop (i + 1)) = .ok rs ∧ zs ++ rs = ys, fun H' n => ⟨ds.length - (i + 1), by omega, rfl, n.1, n.2.1, n.2.2⟩, fun x H3 y => ?_⟩
        obtain ⟨e3, d, hd, rx⟩ := g2 x H3 y
        have hdrop : ds.drop i = d :: ds.drop (i + 1) := by
          rw [List.drop_eq_getElem_cons hlt]
          rw [List.getElem?_eq_getElem hlt] at hd
          cases hd
          rfl
        rw [hdrop] at hrs
        simp only [lcGo] at hrs
        cases hb : bi d (wipeE env vs) with
        | none => rw [hb] at hrs; cases hrs
        | some f1 =>
          rw [hb] at hrs
          simp only at hrs
          have hs3 : RS K (Dl :: B) H3 (wipe σ vs) (wipeE env vs) := ((hs.mono e1).my (e2.trans e3.ky)).wipe vs
          refine hw2 _ _ _ _ (hg _ _ _ _ _ _ _ _ hs3 rx hb fun σ' hs' => ?_)
          cases hk : mt f1 with
          | err c => rw [hk] at hrs; cases hrs
          | bad => rw [hk] at hrs; cases hrs
          | ok k =>
            rw [hk] at hrs
            refine ht f1 σ' _ H3 _ hs' (Po.noerr hk fun b H4 e4 r4 => ?_)
            have eb : b = k := r4
            subst eb
            simp only [R.bind] at hrs
            cases b with
            | true =>
              simp only [if_true] at hrs
              refine iteT ?_
              cases hel : me f1 with
              | err c => rw [hel] at hrs; cases hrs
              | bad => rw [hel] at hrs; cases hrs
              | ok y' =>
                rw [hel] at hrs
                simp only at hrs
                cases hrest : lcGo bi mt me (wipeE env vs) (ds.drop (i + 1)) with
                | err c => rw [hrest] at hrs; cases hrs
                | bad => rw [hrest] at hrs; cases hrs
                | ok rs' =>
                  rw [hrest] at hrs
                  cases hrs
                  refine he f1 σ' _ H4 _ (hs'.mono e4) (Po.noerr hel fun v H5 e5 r5 => ?_)
                  have l1 : acc.length = zs.length := ra.length
                  have l2 : (zs ++ y' :: rs').length = ys.length := by rw [hys]
                  have l3 := lcGo_len hgo
                  rw [List.length_append, List.length_cons] at l2
                  have hDl : H5 Dl = some (.lst acc) := e5.ex _ _ (e4.ex _ _ (e3.ex _ _ hacc))
                  have ra5 : RpA K (Dl :: B) H5 acc zs := ((ra.mv e3).mv e4).mv e5
                  have put := ky_put (o := .lst (acc ++ [v])) e5.inB'
                  refine ⟨acc, hDl, sz_lt (by omega), by omega, (((e2.trans e3.ky).trans e4.ky).trans e5.ky).trans put, Ex.mut (((x2.trans e3.ex).trans e4.ex).trans e5.ex) hD, acc ++ [v], zs ++ [y'], rs', upd_same, (ra5.append (.cons r5 .nil)).my put, rfl, ?_⟩
                  rw [List.append_assoc]
                  exact hys
            | false =>
              simp only [Bool.false_eq_true, if_false] at hrs
              exact iteF ⟨by omega, (e2.trans e3.ky).trans e4.ky, (x2.trans e3.ex).trans e4.ex, acc, zs, rs, e4.ex _ _ (e3.ex _ _ hacc), (ra.mv e3).mv e4, hrs, hys⟩
      · have ei : i = ds.length := by omega
        subst ei
        rw [List.drop_length] at hrs
        cases hrs
        rw [List.append_nil] at hys
        subst hys
        exact .inl ⟨stop, q' _ H2 ⟨x2, hB1⟩ (.lst (hid_at hacc hDB) (ra.my (ky_less e2.inB')))⟩
  · rw [if_neg hl] at q
    exact q.elim
/-- the weakest reading of a function -/
def teOf (K : PySem.W.Frag) (mg : Str → Option Value) (W : WX) (m : Sl → R D) : TE := fun σ H Q => ∃ env B, RS K B H σ env ∧ Po (Rp K) mg W σ B H Q (m env)
def tbOf (K : PySem.W.Frag) (mg : Str → Option Value) (W : WX) (m : Sl → R Bool) : TT := fun σ H Q => ∃ env B, RS K B H σ env ∧ Po (fun _ _ a b => a = b) mg W σ B H Q (m env)
theorem ME.pe {m : Sl → R D} (h : ME X W e m) : PE X e (teOf X.K X.mg W m) := by
  obtain ⟨te, h1, h2⟩ := h
  exact ⟨fun pins s σ H Q I ⟨env, B, hs, q⟩ => h1.run pins s σ H Q I (h2 env σ B H Q hs q)⟩
theorem MT.pt {m : Sl → R Bool} (h : MT X W e m) : PT X e (tbOf X.K X.mg W m) := by
  obtain ⟨te, h1, h2⟩ := h
  exact ⟨fun pins s σ H Q I ⟨env, B, hs, q⟩ => h1.run pins s σ H Q I (h2 env σ B H Q hs q)⟩
theorem teOf_ev {K : PySem.W.Frag} {mg : Str → Option Value} {m : Sl → R D} : EvE K mg W (teOf K mg W m) m := fun env σ B H Q hs h => ⟨env, B, hs, h⟩
theorem tbOf_ev {K : PySem.W.Frag} {mg : Str → Option Value} {m : Sl → R Bool} : EvB K mg W (tbOf K mg W m) m := fun env σ B H Q hs h => ⟨env, B, hs, h⟩
theorem wipe_one {σ : L2.St} {i : Nat} {v : V} {H : Hp} {Q : L2.St → Hp → Prop} (h : gName i v (wipe σ [i]) H Q) : gName i v (wipe σ [i]) H fun σ2 H2 => wipe σ2 [i] = wipe σ [i] ∧ Q σ2 H2 := by
  refine ⟨?_, h⟩
  show ((σ.set i none).set i (some v)).set i none = σ.set i none
  rw [List.set_set, List.set_set]
/-- [elt for x in iter], as a value; i: x's slot -/
theorem me_lc (i : Nat) {elt iter : Expr} {x : Str} {px : Pos} {scope : Scope} {mi : Sl → R (List D)} {m : Sl → R D} (hc : X.calm = true) (hN : X.N.Nodup) (hi : MI X W (.Name x px) iter mi) (ok : BlkOk X.N X.env.scope scope [(x, i)])
    (hg1 : Blk X scope fun Y => PG Y (.Name x px) (gName i)) (he : Blk X scope fun Y => ME Y W0 elt m) (hs : ∀ x, foldedSetIterable iter X.env x = pure x := by intro _; rfl) :
    ME X W (.ListComp elt [⟨.Name x px, iter, [], 0⟩] scope pos) (lcM mi [i] (tgN i) yesM m) := by
  obtain ⟨wi, i1, i2⟩ := hi
  refine ⟨_, pe_lc (own := [(x, i)]) hc hN i1 ok hg1 (fun _ _ _ _ _ => pts_nil) (fun s H C cl fp => (he s H C cl fp).pe) hs, EvLc i2 (fun env env' σ B H v d Q hs r h q => ?_) (fun env σ B H Q hs h => ?_) teOf_ev fun v σ H Q h => wipe_one h⟩
  · cases h; exact q _ (hs.set r)
  · exact h true H (Kx.refl hs.inB) rfl
theorem me_lcIf (i : Nat) {elt iter c : Expr} {x : Str} {px : Pos} {scope : Scope} {mi : Sl → R (List D)} {m : Sl → R D} {mt : Sl → R Bool} (hc : X.calm = true) (hN : X.N.Nodup) (hi : MI X W (.Name x px) iter mi) (ok : BlkOk X.N X.env.scope scope [(x, i)])
    (hg1 : Blk X scope fun Y => PG Y (.Name x px) (gName i)) (ht : Blk X scope fun Y => MT Y W0 c mt) (he : Blk X scope fun Y => ME Y W0 elt m) (hs : ∀ x, foldedSetIterable iter X.env x = pure x := by intro _; rfl) :
    ME X W (.ListComp elt [⟨.Name x px, iter, [c], 0⟩] scope pos) (lcM mi [i] (tgN i) mt m) := by
  obtain ⟨wi, i1, i2⟩ := hi
  refine ⟨_, pe_lc (own := [(x, i)]) hc hN i1 ok hg1 (fun s H C cl fp => pts_one (ht s H C cl fp).pt) (fun s H C cl fp => (he s H C cl fp).pe) hs, EvLc i2 (fun env env' σ B H v d Q hs r h q => ?_) tbOf_ev teOf_ev fun v σ H Q h => wipe_one h⟩
  cases h; exact q _ (hs.set r)
/-- y = [..] -/
theorem ms_setLc (i j : Nat) {elt iter : Expr} {x y : Str} {px py spos : Pos} {scope : Scope} {mi : Sl → R (List D)} {m : Sl → R D} (hc : X.calm = true) (hN : X.N.Nodup) (hy : X.N[j]? = some y) (hyl : X.env.scope.names.lookup y = some .local)
    (hsw : swapsWith (.ListComp elt [⟨.Name x px, iter, [], 0⟩] scope pos) (some (.Name y py)) spos.line X.env = pure true) (hi : MI X W (.Name x px) iter mi) (ok : BlkOk X.N X.env.scope scope [(x, i)])
    (hg1 : Blk X scope fun Y => PG Y (.Name x px) (gName i)) (he : Blk X scope fun Y => ME Y W0 elt m) (hs : ∀ x, foldedSetIterable iter X.env x = pure x := by intro _; rfl) :
    ∃ te, PS X (.Assign [.Name y py] (.ListComp elt [⟨.Name x px, iter, [], 0⟩] scope pos) spos) (tAsg te (gName j)) ∧ EvE X.K X.mg W te (lcM mi [i] (tgN i) yesM m) := by
  obtain ⟨wi, i1, i2⟩ := hi
  refine ⟨_, ps_setLc (own := [(x, i)]) hc hN hy hyl hsw i1 ok hg1 (fun _ _ _ _ _ => pts_nil) (fun s H C cl fp => (he s H C cl fp).pe) hs, EvLc i2 (fun env env' σ B H v d Q hs r h q => ?_) (fun env σ B H Q hs h => ?_) teOf_ev fun v σ H Q h => wipe_one h⟩
  · cases h; exact q _ (hs.set r)
  · exact h true H (Kx.refl hs.inB) rfl
/-! ### statements -/
def toO {α : Type} (x : R α) (f : α → O) : O := match x with
  | .ok a => f a
  | .err c => .er c
  | .bad => .bad
def seqM (a b : Sl → O) : Sl → O := fun env => match a env with
  | .nx e => b e
  | o => o
def nextM : Sl → O := fun env => .nx env
def asgM (i : Nat) (m : Sl → R D) : Sl → O := fun env => toO (m env) fun d => .nx (env.set i (some d))
def retM (m : Sl → R D) : Sl → O := fun env => toO (m env) .rt
def dropM (m : Sl → R D) : Sl → O := fun env => toO (m env) fun _ => .nx env
def ifS (t : Sl → R Bool) (a b : Sl → O) : Sl → O := fun env => toO (t env) fun k => if k = true then a env else b env
def raiseM (c : Str) (m : Sl → R (List D)) : Sl → O := fun env => toO (m env) fun ds => if ds.length ≤ 1000 then .er c else .bad
/-- from a value to what stands behind -/
theorem Po.toO {α β : Type} {rel : List Addr → Hp → β → α → Prop} {K : PySem.W.Frag} {mg : Str → Option Value} {σ : L2.St} {B : List Addr} {H : Hp} {E : Ends} {Q : β → Hp → Prop} {x : R α} {f : α → O} (h : PoS K mg W E B H (toO x f))
    (k : ∀ a, x = .ok a → ∀ v H1, Kx B H H1 → rel B H1 v a → PoS K mg W E B H1 (f a) → Q v H1) : Po rel mg W σ B H Q x := by
  cases x with
  | ok a => exact fun v H1 e r => k a rfl v H1 e r (PoS.mono e h)
  | err c => exact fun H' e => h σ H' e
  | bad => exact h
theorem mss_nil : MSs X W [] nextM := ⟨_, pss_nil, fun env σ B H E hs h => h σ H (Kx.refl hs.inB) hs⟩
theorem mss_one {st : Stmt} {m : Sl → O} (h : MS X W st m) : MSs X W [st] m := let ⟨t, a, b⟩ := h; ⟨t, pss_one a, b⟩
theorem mss_cons {st : Stmt} {rest : List Stmt} {m n : Sl → O} (h : MS X W st m) (k : MSs X W rest n) : MSs X W (st :: rest) (seqM m n) := by
  obtain ⟨t, a1, a2⟩ := h
  obtain ⟨u, b1, b2⟩ := k
  refine ⟨_, pss_cons a1 b1, fun env σ B H E hs h => a2 env σ B H _ hs ?_⟩
  unfold seqM at h
  cases hm : m env with
  | nx e => rw [hm] at h; exact fun σ' H' x r => b2 e σ' B H' E r (PoS.mono x h)
  | rt d => rw [hm] at h; exact h
  | bk e => rw [hm] at h; exact h
  | ct e => rw [hm] at h; exact h
  | er c => rw [hm] at h; exact h
  | bad => rw [hm] at h; exact h
theorem ms_ret (he : ME X W e ma) : MS X W (.Return (some e) pos) (retM ma) := by
  obtain ⟨t, a1, a2⟩ := he
  exact ⟨_, ps_ret a1, fun env σ B H E hs h => a2 env σ B H _ hs (Po.toO h fun d _ v H1 e1 r q => q v H1 (Kx.refl e1.inB') r)⟩
theorem ms_set (i : Nat) {x : Str} {pos' : Pos} (he : ME X W e ma) (hN : X.N.Nodup) (hi : X.N[i]? = some x := by rfl) (hx : Loc X.env.scope x := by first | exact Or.inl rfl | exact Or.inr rfl) (hs : swapsWith e (some (.Name x pos')) pos.line X.env = pure false := by rfl) (hf : X.fn x = true ∨ X.env.scope.names.lookup x = some .local := by first | exact .inl rfl | exact .inr rfl) :
    MS X W (.Assign [.Name x pos'] e pos) (asgM i ma) := by
  obtain ⟨t, a1, a2⟩ := he
  exact ⟨_, ps_set hN hi hx a1 hs hf, fun env σ B H E hs h => a2 env σ B H _ hs (Po.toO h fun d _ v H1 e1 r q => q _ H1 (Kx.refl e1.inB') ((hs.mono e1).set r))⟩
theorem ms_asgLc {st : Stmt} (j : Nat) {m : Sl → R D} (h : ∃ te, PS X st (tAsg te (gName j)) ∧ EvE X.K X.mg W te m) : MS X W st (asgM j m) := by
  obtain ⟨t, a1, a2⟩ := h
  exact ⟨_, a1, fun env σ B H E hs h => a2 env σ B H _ hs (Po.toO h fun d _ v H1 e1 r q => q _ H1 (Kx.refl e1.inB') ((hs.mono e1).set r))⟩
theorem ms_expr (he : ME X W e ma) (hs : swapsWith e none pos.line X.env = pure false := by rfl) : MS X W (.Expr e pos) (dropM ma) := by
  obtain ⟨t, a1, a2⟩ := he
  exact ⟨_, ps_expr a1 hs, fun env σ B H E hs h => a2 env σ B H _ hs (Po.toO h fun d _ v H1 e1 r q => q _ H1 (Kx.refl e1.inB') (hs.mono e1))⟩
theorem ms_if {m : Sl → R Bool} {xs ys : List Stmt} {n k : Sl → O} (hc : MT X W c m) (ha : MSs X W xs n) (hb : MSs X W ys k) : MS X W (.If c xs ys pos) (ifS m n k) := by
  obtain ⟨t, h1, h2⟩ := hc
  obtain ⟨ta, a1, a2⟩ := ha
  obtain ⟨tb, b1, b2⟩ := hb
  refine ⟨_, ps_if h1 a1 b1, fun env σ B H E hs h => h2 env σ B H _ hs (Po.toO h fun x _ v H1 e1 r q => ?_)⟩
  have ev : v = x := r
  subst ev
  cases v with
  | true => exact iteT (a2 env σ B H1 E (hs.mono e1) q)
  | false => exact iteF (b2 env σ B H1 E (hs.mono e1) q)
/-- x += e, whole numbers -/
def augM (i : Nat) (m : Sl → R D) : Sl → O := fun env => toO (varM i env) fun a => toO (m env) fun b => match a, b with
  | .int p, .int q => .nx (env.set i (some (.int (p + q))))
  | _, _ => .bad
theorem ms_aug (i : Nat) {x : Str} {pos' : Pos} (he : ME X W e ma) (hN : X.N.Nodup) (hi : X.N[i]? = some x := by rfl) (hx : Loc X.env.scope x := by first | exact Or.inl rfl | exact Or.inr rfl) (hf : X.fn x = true ∨ X.env.scope.names.lookup x = some .local := by first | exact .inl rfl | exact .inr rfl) :
    MS X W (.AugAssign (.Name x pos') .Add e pos) (augM i ma) := by
  obtain ⟨t, a1, a2⟩ := he
  refine ⟨_, ps_aug hN hi hx a1 ip_add hf, fun env σ B H E hs h => ?_⟩
  unfold augM varM at h
  cases hv : env[i]? with
  | none => rw [hv] at h; exact h.elim
  | some o =>
    rw [hv] at h
    cases o with
    | none => exact h.elim
    | some d =>
      obtain ⟨v, hv2, rv⟩ := hs.get i d hv
      refine ⟨v, hv2, a2 env σ B H _ hs (Po.toO h fun b _ u H1 e1 r q => ?_)⟩
      cases rv with
      | int p =>
        cases r with
        | int p2 => exact ⟨p, p2, rfl, rfl, q _ H1 (Kx.refl e1.inB') ((hs.mono e1).set (.int _))⟩
        | _ => exact q.elim
      | _ => exact q.elim
/-- a loop -/
def forGo (b : D → Sl → Option Sl) (body : Sl → O) : List D → Sl → O
  | [], env => .nx env
  | d :: ds, env => match b d env with
    | none => .bad
    | some e1 => match body e1 with
      | .nx e2 => forGo b body ds e2
      | .ct e2 => forGo b body ds e2
      | .bk e2 => .nx e2
      | o => o
def forM (it : Sl → R (List D)) (b : D → Sl → Option Sl) (body : Sl → O) : Sl → O := fun env => toO (it env) fun ds => forGo b body ds env
theorem ms_for {tg iter : Expr} {body : List Stmt} {mi : Sl → R (List D)} {bi : D → Sl → Option Sl} {mb : Sl → O} (hp : PassesOwn (model X.prog X.w) X.A X.env X.xe) (hc : X.calm = true) (hi : MI X W tg iter mi) (hg : MG X tg bi) (hb : MSs X W body mb)
    (hs : ∀ x, foldedSetIterable iter X.env x = pure x := by intro _; rfl) : MS X W (.For tg iter body [] pos) (forM mi bi mb) := by
  obtain ⟨wi, i1, i2⟩ := hi
  obtain ⟨g, g1, g2⟩ := hg
  obtain ⟨tb, b1, b2⟩ := hb
  refine ⟨_, ps_for hp hc i1 g1 b1 hs, fun env σ B H E hs h => i2 env σ B H _ hs (Po.toO h fun ds _ J H1 e1 wk q => ?_)⟩
  refine ⟨fun i m σ2 H2 => m = ds.length - i ∧ i ≤ ds.length ∧ Kx B H1 H2 ∧ ∃ en, RS X.K B H2 σ2 en ∧ PoS X.K X.mg W E B H2 (forGo bi mb (ds.drop i) en), ⟨ds.length, by simp, Nat.zero_le _, Kx.refl e1.inB', env, hs.mono e1, q⟩, ?_⟩
  rintro i m σ2 H2 ⟨rfl, hi2, k2, en, hs2, q2⟩
  obtain ⟨go, stop⟩ := wk B H2 k2.ky
  by_cases hlt : i < ds.length
  · obtain ⟨g3, y3⟩ := go i hlt
    refine .inr ⟨g3, fun σ3 H3 => i + 1 ≤ ds.length ∧ Kx B H1 H3 ∧ ∃ en, RS X.K B H3 σ3 en ∧ PoS X.K X.mg W E B H3 (forGo bi mb (ds.drop (i + 1)) en), fun σ' H' n => ⟨ds.length - (i + 1), by omega, rfl, n.1, n.2.1, n.2.2⟩, fun x H3 y => ?_⟩
    obtain ⟨e3, d, hd, rx⟩ := y3 x H3 y
    have hdrop : ds.drop i = d :: ds.drop (i + 1) := by
      rw [List.drop_eq_getElem_cons hlt]
      rw [List.getElem?_eq_getElem hlt] at hd
      cases hd
      rfl
    rw [hdrop] at q2
    simp only [forGo] at q2
    cases hb : bi d en with
    | none => rw [hb] at q2; exact q2.elim
    | some f1 =>
      rw [hb] at q2
      simp only at q2
      refine g2 _ _ _ _ _ _ _ _ (hs2.mono e3) rx hb fun σ' hs' => b2 f1 σ' B H3 _ hs' ?_
      cases hm : mb f1 with
      | nx e => rw [hm] at q2; exact fun σ4 H4 x4 r4 => ⟨by omega, (k2.trans e3).trans x4, e, r4, PoS.mono (e3.trans x4) q2⟩
      | ct e => rw [hm] at q2; exact fun σ4 H4 x4 r4 => ⟨by omega, (k2.trans e3).trans x4, e, r4, PoS.mono (e3.trans x4) q2⟩
      | bk e => rw [hm] at q2; exact PoS.mono (o := .nx e) e3 q2
      | rt d => rw [hm] at q2; exact PoS.mono (o := .rt d) e3 q2
      | er c => rw [hm] at q2; exact PoS.mono (o := .er c) e3 q2
      | bad => rw [hm] at q2; exact q2.elim
  · have ei : i = ds.length := by omega
    subst ei
    rw [List.drop_length] at q2
    exact .inl ⟨stop, q2 _ H2 (Kx.refl k2.inB') hs2⟩
/-- raise C(..) -/
theorem ms_raise {C : Addr} {bmB : List Value} {Bn newId initId : String} {x : Str} {p cp : Pos} {ts : Sl → R (List D)} (F : ExcBaseFacts Bn newId initId bmB) (q : PySem.W.excIn X.K C bmB newId = true) (gC : X.mg x = some (.ref C))
    (kC : PySem.W.keepIn X.K (.ref C) = true) (r : Raises X (.ref C)) (hc : X.calm = true) (tk : Takes X W) (hg : Gl X x) (ha : MA X W (e :: es) ts) (hdb : (x == ("__debug__" : Str)) = false := by decide)
    (he : starEach (e :: es) X.env = (false, eval e X.env) :: starEach es X.env := by rfl) (hpl : (backTo cp (starEach es X.env)).any (·.1) = false := by rfl) :
    MS X W (.Raise (some (.Call (.Name x p) (e :: es) [] cp)) none pos) (raiseM x ts) := by
  obtain ⟨ta, a1, a2⟩ := ha
  refine ⟨_, ps_raise hc tk (pmk_ownA F q gC kC r hg a1 hdb he hpl), fun env σ B H E hs h => a2 env σ B H _ hs (Po.toO h fun ds _ vs H1 e1 r q => ?_)⟩
  by_cases hl : ds.length ≤ 1000
  · rw [if_pos hl] at q
    refine ⟨by rw [r.length]; exact line1 (by omega), ?_⟩
    have z := q σ H1 (Kx.refl e1.inB')
    unfold clsV at z
    rw [gC] at z
    exact z
  · rw [if_neg hl] at q
    exact q.elim
/-! ### defs -/
def fnM (n nl : Nat) (body : Sl → O) : List D → R D := fun ds => if ds.length = n then match body (ds.map some ++ List.replicate nl none) with
    | .nx _ => .ok .non
    | .rt d => .ok d
    | .er c => .err c
    | _ => .bad else .bad
theorem rs_start {K : PySem.W.Frag} {B : List Addr} {H : Hp} {N : List Str} {vs : List V} {ds : List D} (hB : InB B H) (r : RpA K B H vs ds) : RS K B H (L2.start N vs) (ds.map some ++ List.replicate (N.length - ds.length) none) := by
  have hl := r.length
  refine ⟨hB, by unfold L2.start; simp [hl], fun i d h => ?_⟩
  unfold L2.start
  by_cases hi : i < ds.length
  · rw [List.getElem?_append_left (by simpa using hi), List.getElem?_map] at h
    cases hd : ds[i]? with
    | none => rw [hd] at h; cases h
    | some e =>
      rw [hd] at h
      cases h
      obtain ⟨v, hv, rv⟩ := r.get hd
      refine ⟨v, ?_, rv⟩
      rw [List.getElem?_append_left (by simpa [hl] using hi), List.getElem?_map, hv]
      rfl
  · rw [List.getElem?_append_right (by simpa using hi), List.getElem?_replicate] at h
    split at h <;> cases h
theorem fn_okR {P : Program} {w : World} {K : PySem.W.Frag} {mg : Str → Option Value} {base : Heap} {x qual : Str} {st : Stmt} {f : Addr} {fd : FuncData} {N ps : List Str} {k n nl : Nat} {mb : Sl → O} (F : Fun K x qual st f fd) (S : FnScope N ps (defScope st)) (hn : ps.length = n) (hnl : N.length = n + nl)
    (body : ∀ (cdv : Value) (A : Around) (outer : List Env) (s : Shared) (H : Hp) (E : XK), Room k (A.deeper (PyProof.Rows.envOfC qual (defScope st) s.heap.objs.size f cdv)) →
      MSs (cxOf (L2.CX P w) P w K mg base N qual (defScope st) f cdv A outer s H E) (fun cls d _ H' => E cls d H') (defBody st) mb) : FnOk P w K mg base (L2.CX P w) (k + 1) f fd ps (spM K mg n (fnM n nl mb)) := by
  refine F.okX S (fun vs H Q E h => ?_) fun cdv A outer s H vs Q E hr h => ?_
  · obtain ⟨B, ds, _, hl, r, _⟩ := h
    rw [r.length, hl, hn]
  · obtain ⟨B, ds, hB, hl, r, q⟩ := h
    obtain ⟨t, t1, t2⟩ := body cdv A outer s H E hr
    refine ⟨t, t1, t2 _ _ B H _ (rs_start (N := N) hB r) ?_⟩
    have e : N.length - ds.length = nl := by omega
    rw [e]
    unfold fnM at q
    rw [if_pos hl] at q
    show PoS K mg (fun cls d _ H' => E cls d H') { nx := fun _ H' => Q .non H', rt := Q } B H (mb (ds.map some ++ List.replicate nl none))
    cases hb : mb (ds.map some ++ List.replicate nl none) with
    | nx e => rw [hb] at q; exact fun σ' H' x _ => q .non H' x .non
    | rt d => rw [hb] at q; exact q
    | er c => rw [hb] at q; exact fun σ' H' x => q H' x
    | bk e => rw [hb] at q; exact q.elim
    | ct e => rw [hb] at q; exact q.elim
    | bad => rw [hb] at q; exact q.elim
theorem fn_ok {P : Program} {w : World} {K : PySem.W.Frag} {mg : Str → Option Value} {base : Heap} {x qual : Str} {st : Stmt} {f : Addr} {fd : FuncData} {N ps : List Str} {k n nl : Nat} {mb : Sl → O} (F : Fun K x qual st f fd) (S : FnScope N ps (defScope st)) (hn : ps.length = n) (hnl : N.length = n + nl) (hm : mg x = some (.ref f))
    (hbd : ∀ (kV doc pm : Value) (an : Option Addr) (cdv ct : Value) (us : List Value), us.length = ps.length → bindArgs (PySem.W.fnOf x qual (defArgs st) (defBody st) (defScope st) .none kV doc pm an cdv ct) ⟨us, []⟩ = pure (ps.zip us))
    (body : ∀ (cdv : Value) (A : Around) (outer : List Env) (s : Shared) (H : Hp) (E : XK), Room k (A.deeper (PyProof.Rows.envOfC qual (defScope st) s.heap.objs.size f cdv)) →
      MSs (cxOf (L2.CX P w) P w K mg base N qual (defScope st) f cdv A outer s H E) (fun cls d _ H' => E cls d H') (defBody st) mb) : FnI P w K mg base x (k + 1) n (fnM n nl mb) :=
  ⟨f, fd, ps, hn, hm, F.kp, F.binds hbd, fn_okR F S hn hnl body⟩
/-- nothing is said -/
theorem fn_none {P : Program} {w : World} {K : PySem.W.Frag} {mg : Str → Option Value} {base : Heap} {x qual : Str} {st : Stmt} {f : Addr} {fd : FuncData} {ps : List Str} {k n : Nat} (F : Fun K x qual st f fd) (hn : ps.length = n) (hm : mg x = some (.ref f))
    (hbd : ∀ (kV doc pm : Value) (an : Option Addr) (cdv ct : Value) (us : List Value), us.length = ps.length → bindArgs (PySem.W.fnOf x qual (defArgs st) (defBody st) (defScope st) .none kV doc pm an cdv ct) ⟨us, []⟩ = pure (ps.zip us)) : FnI P w K mg base x k n (fun _ => .bad) := by
  refine ⟨f, fd, ps, hn, hm, F.kp, F.binds hbd, fun vs H Q E h => ?_, fun A outer s H args us vs Q E _ _ _ _ h => ?_⟩
  · obtain ⟨_, _, _, _, _, q⟩ := h
    exact q.elim
  · obtain ⟨_, _, _, _, _, q⟩ := h
    exact q.elim
end
end Ask
namespace Ask
open PySem L2 Evl
section
variable {X : Cx} {W : WX} {a b c e : Expr} {es : List Expr} {ma mb mc : Sl → R D} {pos p2 : Pos}
/-- a chain as a test -/
theorem mt_chain {op op' : CmpOp} {g g' : D → D → Option D} (ho : OpM X (compareOp op) g) (ho' : OpM X (compareOp op') g') (ha : ME X W a ma) (hb : ME X W b mb) (hc : ME X W c mc) (hm : lastMarks [op, op'] [b, c] = false := by with_unfolding_all rfl) :
    MT X W (.Compare a [op, op'] [b, c] pos) (asB (chM g g' ma mb mc)) := by
  obtain ⟨r, h1, h2⟩ := ho
  obtain ⟨r', k1, k2⟩ := ho'
  obtain ⟨ta, a1, a2⟩ := ha
  obtain ⟨tb, b1, b2⟩ := hb
  obtain ⟨tc, c1, c2⟩ := hc
  exact ⟨_, pt_chain h1 k1 a1 b1 c1 hm, EvB.of (EvE.chain h2 k2 a2 b2 c2)⟩
/-- -a -/
def negM (a : Sl → R D) : Sl → R D := fun env => (a env).bind fun x => match x with
  | .int i => .ok (.int (-i))
  | _ => .bad
theorem me_neg (ha : ME X W a ma) : ME X W (.UnaryOp .USub a pos) (negM ma) := by
  obtain ⟨ta, a1, a2⟩ := ha
  refine ⟨_, pe_un un_neg a1, fun env σ B H Q hs h => a2 env σ B H _ hs (Po.step h fun x _ v H1 e1 r1 q => ?_)⟩
  cases r1 with
  | int i => exact ⟨i, rfl, q _ H1 (Kx.refl e1.inB') (.int _)⟩
  | _ => exact q.elim
/-! ### a written text with values in it -/
def fmtM (m : Sl → R D) : Sl → R D := fun env => (m env).bind fun x => match x with
  | .str y => if y.length ≤ 100000 then .ok (.str y) else .bad
  | .int i => if i.natAbs.log2 < 1920 then .ok (.str (toString i)) else .bad
  | _ => .bad
theorem me_fmt (he : ME X W e ma) : ME X W (.FormattedValue e (-1) none pos) (fmtM ma) := by
  obtain ⟨t, a1, a2⟩ := he
  refine ⟨_, pe_fmt a1, fun env σ B H Q hs h => a2 env σ B H _ hs (Po.step h fun x _ v H1 e1 r1 q => ?_)⟩
  cases r1 with
  | str y =>
    by_cases hl : y.length ≤ 100000
    · simp only [if_pos hl] at q
      exact .inl ⟨y, rfl, line1 hl, q _ H1 (Kx.refl e1.inB') (.str _)⟩
    · simp only [if_neg hl] at q
      exact q.elim
  | int i =>
    by_cases hl : i.natAbs.log2 < 1920
    · simp only [if_pos hl] at q
      exact .inr ⟨i, rfl, hl, q _ H1 (Kx.refl e1.inB') (.str _)⟩
    · simp only [if_neg hl] at q
      exact q.elim
  | _ => exact q.elim
def EvJ (K : PySem.W.Frag) (mg : Str → Option Value) (W : WX) (ts : List TE) (m : Str → Sl → R Str) : Prop := ∀ (acc : Str) (env : Sl) (σ : L2.St) (B : List Addr) (H : Hp) (Q : Str → Hp → Prop), RS K B H σ env → Po (fun _ _ a b => a = b) mg W σ B H Q (m acc env) → tJs ts acc σ H Q
def MJ (X : Cx) (W : WX) (es : List Expr) (m : Str → Sl → R Str) : Prop := ∃ ts, PJ X es ts ∧ EvJ X.K X.mg W ts m
def nilJ : Str → Sl → R Str := fun acc _ => .ok acc
def consJ (m : Sl → R D) (r : Str → Sl → R Str) : Str → Sl → R Str := fun acc env => (m env).bind fun x => match x with
  | .str y => if (acc ++ y).length ≤ 100000 then r (acc ++ y) env else .bad
  | _ => .bad
theorem mj_nil : MJ X W [] nilJ := ⟨[], .nil, fun acc env σ B H Q hs h => h acc H (Kx.refl hs.inB) rfl⟩
theorem mj_cons {r : Str → Sl → R Str} (he : ME X W e ma) (hr : MJ X W es r) : MJ X W (e :: es) (consJ ma r) := by
  obtain ⟨t, a1, a2⟩ := he
  obtain ⟨ts, b1, b2⟩ := hr
  refine ⟨t :: ts, .cons a1 b1, fun acc env σ B H Q hs h => a2 env σ B H _ hs (Po.step h fun x _ v H1 e1 r1 q => ?_)⟩
  cases r1 with
  | str y =>
    by_cases hl : (acc ++ y).length ≤ 100000
    · simp only [if_pos hl] at q
      exact ⟨y, rfl, line1 hl, b2 _ env σ B H1 Q (hs.mono e1) q⟩
    · simp only [if_neg hl] at q
      exact q.elim
  | _ => exact q.elim
def jsM (m : Str → Sl → R Str) : Sl → R D := fun env => (m Str.empty env).bind fun s => .ok (.str s)
theorem me_js {v1 v2 : Expr} {rest : List Expr} {m : Str → Sl → R Str} (h : MJ X W (v1 :: v2 :: rest) m) : ME X W (.JoinedStr (v1 :: v2 :: rest) pos) (jsM m) := by
  obtain ⟨ts, a1, a2⟩ := h
  refine ⟨_, pe_joined a1, fun env σ B H Q hs h => a2 Str.empty env σ B H _ hs (Po.step h fun s _ v H1 e1 r1 q => ?_)⟩
  have ev : v = s := r1
  subst ev
  exact q _ H1 (Kx.refl e1.inB') (.str _)
/-! ### dicts -/
theorem putK_new {k : Str} {v : V} : ∀ {kvs : List (Key × V)}, (∀ p ∈ kvs, p.1 ≠ Sum.inr k) → putK kvs (Sum.inr k) v = kvs ++ [(Sum.inr k, v)] := fun {kvs} h => by
  unfold putK
  rw [if_neg]
  intro q
  rw [List.any_eq_true] at q
  obtain ⟨p, hp, e⟩ := q
  exact h p hp (of_decide_eq_true e)
theorem mergeK_new : ∀ (more kvs : List (Key × V)), (∀ p ∈ more, ∃ k, p.1 = Sum.inr k) → ((kvs ++ more).map (·.1)).Nodup → mergeK kvs more = kvs ++ more
  | [], kvs, _, _ => by simp [mergeK]
  | (kk, v) :: r, kvs, h, nd => by
    obtain ⟨k, hk⟩ := h (kk, v) List.mem_cons_self
    have hk : kk = Sum.inr k := hk
    subst hk
    show mergeK (putK kvs (Sum.inr k) v) r = _
    have hn : ∀ p ∈ kvs, p.1 ≠ Sum.inr k := fun p hp e => by
      rw [List.map_append, List.nodup_append] at nd
      exact nd.2.2 _ (List.mem_map_of_mem hp) _ (List.mem_map_of_mem List.mem_cons_self) e
    rw [putK_new hn, mergeK_new r _ (fun p hp => h p (List.mem_cons_of_mem _ hp)) (by rw [List.append_assoc]; exact nd), List.append_assoc]
    rfl
/-- a written dict of texts and whole numbers -/
def cE (kvs : List (Str × Int)) : List (Key × V) := kvs.map fun p => (Sum.inr p.1, V.int p.2)
def cD (kvs : List (Str × Int)) : List (Str × D) := kvs.map fun p => (p.1, D.int p.2)
theorem rpd_c {K : PySem.W.Frag} {H : Hp} : ∀ kvs : List (Str × Int), RpD0 K H (cE kvs) (cD kvs)
  | [] => .nil
  | p :: r => .cons (.int p.2) (rpd_c r)
theorem tPairs_c {σ : L2.St} : ∀ (kvs : List (Str × Int)) {H : Hp} {Q : List (V × V) → Hp → Prop}, Q ((cE kvs).map fun kv => (kV kv.1, kv.2)) H → tPairs (kvs.map fun p => (tC (.str p.1), tC (.int p.2))) σ H Q
  | [], H, Q, h => h
  | p :: r, H, Q, h => by
    show tPairs (r.map fun p => (tC (.str p.1), tC (.int p.2))) σ H fun ps H3 => Q ((V.str p.1, V.int p.2) :: ps) H3
    exact tPairs_c r h
theorem me_dict0 : ME X W (.Dict [] [] pos) (cM (.dct [])) :=
  ⟨_, pe_dnewK, fun env σ B H Q hs q p hp => q _ _ (Kx.new hs.inB hp) (.dct (hid_new hs.inB hp) .nil)⟩
theorem me_disp {keys : List (Option Expr)} {values : List Expr} (kvs : List (Str × Int)) (h : PPs X pos keys values (kvs.map fun p => (tC (.str p.1), tC (.int p.2)))) (nd : (kvs.map (·.1)).Nodup) (h15 : kvs.length ≤ 15) (hall : keys.all (·.isSome) = true) (hl : keys.length = values.length) (h0 : keys ≠ [])
    (h16 : keys.length ≤ 15) : ME X W (.Dict keys values pos) (cM (.dct (cD kvs))) := by
  refine ⟨_, pe_disp h hall hl h0 h16, fun env σ B H Q hs q p hp => tPairs_c kvs ⟨upd_same, cE kvs, rfl, by unfold cE; rw [List.length_map]; exact h15, ?_⟩⟩
  have e : mergeK [] (cE kvs) = cE kvs := mergeK_new (cE kvs) [] (fun p hp => by
    unfold cE at hp
    obtain ⟨z, _, rfl⟩ := List.mem_map.mp hp
    exact ⟨_, rfl⟩) (by
    rw [List.nil_append]
    unfold cE
    rw [List.map_map]
    have : ((fun x : Key × V => x.1) ∘ fun p : Str × Int => ((Sum.inr p.1 : Key), V.int p.2)) = (Sum.inr : Str → Key) ∘ fun p => p.1 := rfl
    rw [this, ← List.map_map]
    exact List.Pairwise.map (S := (· ≠ ·)) _ (fun a b hab e => hab (Sum.inr.inj e)) nd)
  rw [e, upd_upd]
  exact q _ _ (Kx.new hs.inB hp) (.dct (hid_new hs.inB hp) (rpd_c kvs))
def D.dix : D → D → Option D
  | .dct kvs, .str k => kvs.lookup k
  | _, _ => none
theorem RpD0.get {K : PySem.W.Frag} {H : Hp} {k : Str} : ∀ {xs : List (Key × V)} {ds : List (Str × D)} {d : D}, RpD0 K H xs ds → ds.lookup k = some d → ∃ v, valV xs (Sum.inr k) = some v ∧ Rp0 K H v d
  | _, _, d, .nil, h => by cases h
  | _, _, d, .cons (k := k') (v := v) (d := d') r t, h => by
    by_cases hk : k = k'
    · subst hk
      rw [List.lookup_cons_self] at h
      cases h
      exact ⟨v, valV_pos rfl, r⟩
    · have hb : (k == k') = false := beq_eq_false_iff_ne.mpr hk
      rw [List.lookup_cons, hb] at h
      obtain ⟨v2, h1, h2⟩ := RpD0.get t h
      exact ⟨v2, by rw [valV_neg (fun q => hk (Sum.inr.inj q).symm)]; exact h1, h2⟩
/-- d[k] -/
theorem me_dix (hu : X.A.units + 1 < cLine) (ha : ME X W a ma) (hb : ME X W b mb) (hs : NoSl b) : ME X W (.Subscript a b pos) (op2 D.dix ma mb) := by
  obtain ⟨ta, a1, a2⟩ := ha
  obtain ⟨tb, b1, b2⟩ := hb
  refine ⟨_, pe_dget hu a1 b1 hs, fun env σ B H Q hs h => a2 env σ B H _ hs (Po.step h fun x _ v H1 e1 r1 q => b2 env σ B H1 _ (hs.mono e1) (Po.step q fun y _ u H2 e2 r2 q2 => ?_))⟩
  cases hz : D.dix x y with
  | none => rw [hz] at q2; exact q2.elim
  | some z =>
    rw [hz] at q2
    cases r1.mv e2 with
    | dct hp rd =>
      cases r2 with
      | str k =>
        obtain ⟨v, hv, rv⟩ := rd.get (show _ = some z from hz)
        exact ⟨_, v, rfl, by rw [← hv]; exact DGet.k (k := Sum.inr k) (hid_some hp), q2 v H2 (Kx.refl e2.inB') rv⟩
      | _ => cases hz
    | _ => cases hz
/-- the entries of a dict of the module and its table -/
def EsT (K : PySem.W.Frag) (es : List DictEntry) (tbl : List (Str × D)) : Prop := Paired (fun (e : DictEntry) (p : Str × D) => (∃ t, e.key = .str p.1 t) ∧ ∃ v, RelV v e.val ∧ ∀ B H, Rp K B H v p.2) es tbl
theorem est_find {K : PySem.W.Frag} {z : Str} : ∀ {es : List DictEntry} {tbl : List (Str × D)}, EsT K es tbl → ∃ v, RelV v (((es.find? fun e => Value.isStrOf z e.key).map (·.val)).getD .none) ∧ ∀ B H, Rp K B H v ((tbl.lookup z).getD .non)
  | _, _, .nil => ⟨.non, rfl, fun _ _ => .non⟩
  | e :: es, p :: tbl, .cons ⟨⟨t, hk⟩, v, h1, h2⟩ r => by
    by_cases hz : z = p.1
    · subst hz
      have e1 : Value.isStrOf p.1 e.key = true := by rw [hk]; simp [Value.isStrOf]
      rw [List.find?_cons, e1]
      obtain ⟨k, d⟩ := p
      rw [List.lookup_cons_self]
      exact ⟨v, h1, h2⟩
    · have e1 : Value.isStrOf z e.key = false := by
        rw [hk]
        simp only [Value.isStrOf]
        exact beq_eq_false_iff_ne.mpr (fun q => hz q.symm)
      rw [List.find?_cons, e1]
      obtain ⟨k, d⟩ := p
      have hb : (z == k) = false := beq_eq_false_iff_ne.mpr hz
      rw [List.lookup_cons, hb]
      exact est_find r
def kgetM (tbl : List (Str × D)) (m : Sl → R D) : Sl → R D := fun env => (m env).bind fun x => match x with
  | .str z => .ok ((tbl.lookup z).getD .non)
  | _ => .bad
theorem me_kget {x : Str} {px apos cpos : Pos} {d : Addr} {es : Array DictEntry} {n : Nat} {tbl : List (Str × D)} (KD : KDict X.K X.w d es n) (T : EsT X.K es.toList tbl) (hg : Gl X x) (hm : X.mg x = some (.ref d)) (he : ME X W e ma) (m : M1 X (.Name x px) "get" apos e cpos) (hdb : (x == ("__debug__" : Str)) = false := by decide) :
    ME X W (.Call (.Attribute (.Name x px) "get" apos) [e] [] cpos) (kgetM tbl ma) := by
  obtain ⟨t, a1, a2⟩ := he
  refine ⟨fun σ H Q => t σ H fun y H1 => ∃ z : Str, y = .str z ∧ ∃ v, RelV v (((es.toList.find? fun e => Value.isStrOf z e.key).map (·.val)).getD .none) ∧ Q v H1, ⟨fun pins s σ H Q I h => ?_⟩, fun env σ B H Q hs h => a2 env σ B H _ hs (Po.step h fun x _ v H1 e1 r1 q => ?_)⟩
  · refine PySem.wpAny_Call_method m.base m.few m.line PySem.F.plainAttrs_dict PySem.F.slot_dict_get PySem.F.type_dict_get (ld_glob I hg hm ?_ hdb)
    have mp := PySem.W.mapOf_K (prog := X.prog) (w := X.w) I.kIn KD.at_ KD.lit
    refine ⟨mp.typeIs, fun b hb => ?_, ?_⟩
    · cases hb
      exact ⟨_, I.kIn _ _ KD.at_, rfl⟩
    · rw [m.trees]
      refine Calls.callWith_builtin rfl (Calls.evalArgs_plain (Calls.spliced_cons (thn (a1.run pins s σ H _ I h) fun iv s2 ⟨y, H2, I2, ry, z, ey, v, rv, q2⟩ => Calls.spliced_nil ?_)))
      subst ey
      obtain ⟨tk, rfl⟩ := ry
      refine PySem.call_meetsIn PySem.F.slot_dict_get (kd_type KD I2) PySem.F.entry_dict_get (PySem.F.args_dict_get_2 _ _) (meets_dict_get (PySem.strKind X.prog X.w) d (PySem.strKind_is X.prog X.w z tk) KD.low) ⟨_, PySem.W.mapOf_K (prog := X.prog) (w := X.w) I2.kIn KD.at_ KD.lit, ?_⟩
      refine ⟨v, H2, I2.tok _, ?_, q2⟩
      obtain ⟨l⟩ := es
      simp only [findBy, List.find?_toArray]
      exact rv
  · cases r1 with
    | str z =>
      obtain ⟨v, h1, h2⟩ := est_find (z := z) T
      exact ⟨z, rfl, v, h1, q v H1 (Kx.refl e1.inB') (h2 B H1)⟩
    | _ => exact q.elim
end
end Ask
namespace Ask
open PySem L2 Evl
/-- a tuple of the module -/
def KTup (K : PySem.W.Frag) (a : Addr) (xs : List V) : Prop := ∃ (o : Obj) (its : Array Value) (n : Nat), K.lookup a = some o ∧ o.cls = .type "tuple" ∧ o.data = .seq its n ∧ its.size ≤ sizeLine ∧ Vals xs its.toList
theorem ktup_mk {K : PySem.W.Frag} {a : Addr} {xs : List V} {o : Obj} {its : Array Value} {n : Nat} (h : K.lookup a = some o) (c : o.cls = .type "tuple") (d : o.data = .seq its n) (z : its.size ≤ sizeLine) (v : Vals xs its.toList) : KTup K a xs := ⟨o, its, n, h, c, d, z, v⟩
/-- the class facts' answers of isinstance -/
theorem kit_sub {K : PySem.W.Frag} {A C : Addr} {b : Bool} (h : A ≠ C) (h1 : PySem.W.isClsIn K C = true) (h2 : PySem.W.typeIn K (.ref C) = some (.type "type")) (h3 : PySem.W.subIn K (.ref A) (.ref C) = some b) : PySem.W.kitOne K (.ref A) (.ref C) = some b := by
  unfold PySem.W.kitOne
  rw [if_neg (by simpa using h)]
  show (if ((PySem.W.clsIn K C).isSome && PySem.W.typeIn K (.ref C) == some (.type "type")) = true then PySem.W.subIn K (.ref A) (.ref C) else none) = some b
  have h1' : (PySem.W.clsIn K C).isSome = true := h1
  rw [h1', h2, if_pos (by rfl)]
  exact h3
theorem kit_self {K : PySem.W.Frag} {A : Addr} : PySem.W.kitOne K (.ref A) (.ref A) = some true := by
  unfold PySem.W.kitOne
  rw [if_pos (by simp)]
theorem kit_typ {K : PySem.W.Frag} {A : Addr} {T : String} {b : Bool} (h1 : PySem.W.kitMeta T = true) (h3 : PySem.W.subIn K (.ref A) (.type T) = some b) : PySem.W.kitOne K (.ref A) (.type T) = some b := by
  unfold PySem.W.kitOne
  rw [if_neg (by simp)]
  show (if PySem.W.kitMeta T = true then PySem.W.subIn K (.ref A) (.type T) else none) = some b
  rw [if_pos h1]
  exact h3
/-- the law's promise to the outside -/
def spT (K : PySem.W.Frag) : Sp := fun vs H Q _ => ∃ (a : Addr) (ns : List Int), vs = [.ref a] ∧ ns.length ≤ 63 ∧ SqL K H a (ns.map V.int) ∧ ∀ H', Q (.bl true) H'
theorem walk_law {l : PySem.W.OpenLaw} {k : Nat} {q : Program} {loose : List Str} {XP : (Str → Option Value) → Heap → Prop} {YP : World → Heap → Prop} {d : DefRec} {K : Params → PySem.W.Frag} {x : Str} {m : List D → R D} (hn : l.most = some 63) (hdf : d.params.defaults = []) (hr : Room k callerA)
    (hY : ∀ (w : World) (h : Heap), YP w h → (K w.params).In h)
    (F : ∀ (w : World) (mg : Str → Option Value) (fa : Addr) (h : Heap), (K w.params).In h → h.Ns mainGlobals mg → mg d.name = some (.ref fa) →
      ∃ fd : FuncData, (∀ (s : Shared) (u : Value), BindsTo s fd ⟨[u], []⟩ [(x, u)]) ∧ ∀ base : Heap, (K w.params).In base → base.Ns mainGlobals mg → FnOk l.prog w (K w.params) mg base (L2.CX l.prog w) k fa fd [x] (spM (K w.params) mg 1 m))
    (hm : ∀ ns : List Int, ns.length ≤ 63 → m [.klst (ns.map D.int)] = .ok (.bl true)) : PySem.W.WalkO q loose XP YP l.row.toRowW d [] (fun f vs => PySem.call f vs) := by
  refine L2.walk_of (n := 63) (k := k) (x := x) (CX := fun w => L2.CX l.prog w) (sp := fun w => spT (K w.params)) hn (by decide) hdf hr hY (fun w mg fa h h1 h2 h3 => ?_) (fun w H a ns hl _ hS => ⟨a, ns, rfl, hl, hS, fun _ => rfl⟩) fun w H s e s' c => ?_
  · obtain ⟨fd, hb, hF⟩ := F w mg fa h h1 h2 h3
    refine ⟨fd, hb, fun base b1 b2 => (hF base b1 b2).imp fun vs H Q E hq => ?_⟩
    obtain ⟨a, ns, rfl, hl, hS, hq⟩ := hq
    refine ⟨[], [.klst (ns.map D.int)], (fun _ z => by cases z), rfl, .cons (.klst ?_ (RpA0.ints ns)) .nil, ?_⟩
    · have e : hid [] H = H := by funext a; unfold hid; rw [if_neg (by simp)]
      rw [e]; exact hS
    · rw [hm ns hl]
      intro v H' _ r
      cases r
      exact hq H'
  · obtain ⟨_, _, _, _, _, _, _, _, _, _, _, _, z⟩ := c
    exact z
end Ask
namespace Ask
open PySem L2 Evl
/-! defs with lists of their own, that grow: the slots ow hold them; no other name reads them -/
theorem wipeE_length (env : Sl) : ∀ vs : List Nat, (wipeE env vs).length = env.length
  | [] => rfl
  | v :: vs => by unfold wipeE; rw [List.length_set, wipeE_length env vs]
theorem wipeE_out {env : Sl} {i : Nat} : ∀ {vs : List Nat}, i ∉ vs → (wipeE env vs)[i]? = env[i]?
  | [], _ => rfl
  | v :: vs, h => by
    unfold wipeE
    simp only [List.mem_cons, not_or] at h
    rw [List.getElem?_set_ne (Ne.symm h.1)]
    exact wipeE_out h.2
theorem wipeE_in {env : Sl} {i : Nat} : ∀ {vs : List Nat} {d : D}, i ∈ vs → (wipeE env vs)[i]? ≠ some (some d)
  | v :: vs, d, h => by
    unfold wipeE
    by_cases hv : v = i
    · subst hv
      by_cases hl : v < (wipeE env vs).length
      · rw [List.getElem?_set_self hl]; exact fun e => by cases e
      · rw [List.getElem?_eq_none (by rw [List.length_set]; omega)]; exact fun e => by cases e
    · rw [List.getElem?_set_ne hv]
      rcases List.mem_cons.mp h with e | e
      · exact absurd e.symm hv
      · exact wipeE_in e
structure RSo (K : PySem.W.Frag) (ow : List Nat) (B0 : List Addr) (H0 : Hp) (ks : List (List Addr × Hp)) (B : List Addr) (H : Hp) (σ : L2.St) (env : Sl) : Prop where
  inB0 : InB B0 H0
  sub : ∀ a ∈ B0, a ∈ B
  ky : Ky B0 H0 B H
  kys : ∀ p ∈ ks, Ky p.1 p.2 B H
  ex : Ex H0 H
  rs : RS K B H σ (wipeE env ow)
  own : ∀ i ∈ ow, ∀ d, env[i]? = some (some d) → ∃ p acc zs, d = .lst zs ∧ σ[i]? = some (some (.ref p)) ∧ p ∈ B ∧ H0 p = none ∧ H p = some (.lst acc) ∧ RpA K B H acc zs
  dis : ∀ i ∈ ow, ∀ j ∈ ow, ∀ p d e, env[i]? = some (some d) → env[j]? = some (some e) → σ[i]? = some (some (.ref p)) → σ[j]? = some (some (.ref p)) → i = j
section
variable {K : PySem.W.Frag} {ow : List Nat} {B0 B : List Addr} {H0 H H1 : Hp} {ks : List (List Addr × Hp)} {σ : L2.St} {env : Sl}
theorem RSo.mono (h : RSo K ow B0 H0 ks B H σ env) (e : Kx B H H1) : RSo K ow B0 H0 ks B H1 σ env where
  inB0 := h.inB0
  sub := h.sub
  ky := h.ky.trans e.ky
  kys := fun p hp => (h.kys p hp).trans e.ky
  ex := h.ex.trans e.ex
  rs := h.rs.mono e
  own := fun i hi d q => let ⟨p, acc, zs, a1, a2, a3, a4, a5, a6⟩ := h.own i hi d q; ⟨p, acc, zs, a1, a2, a3, a4, e.ex _ _ a5, a6.mv e⟩
  dis := h.dis
theorem RSo.kx (h : RSo K ow B0 H0 ks B H σ env) : Kx B0 H0 H := ⟨h.ex, h.inB0⟩
theorem RSo.back (h : RSo K ow B0 H0 ks B H σ env) : Ky B H B0 H where
  hid := fun a u q => by
    have hn : a ∉ B := fun z => by unfold Ask.hid at q; rw [if_pos z] at q; cases q
    exact hid_at (hid_some q) fun z => hn (h.sub a z)
  inB' := fun a ha => h.ky.inB' a (h.sub a ha)
theorem RSo.addK (h : RSo K ow B0 H0 ks B H σ env) : RSo K ow B0 H0 ((B, H) :: ks) B H σ env := by
  refine ⟨h.inB0, h.sub, h.ky, fun p hp => ?_, h.ex, h.rs, h.own, h.dis⟩
  rcases List.mem_cons.mp hp with e | e
  · subst e; exact ⟨Ex.refl _, h.ky.inB'⟩
  · exact h.kys p e
theorem RSo.lessK {k0 : List Addr × Hp} (h : RSo K ow B0 H0 (k0 :: ks) B H σ env) : RSo K ow B0 H0 ks B H σ env :=
  ⟨h.inB0, h.sub, h.ky, fun p hp => h.kys p (List.mem_cons_of_mem _ hp), h.ex, h.rs, h.own, h.dis⟩
theorem wipe_setE {i : Nat} {x : Option D} : ∀ {vs : List Nat}, i ∉ vs → wipeE (env.set i x) vs = (wipeE env vs).set i x
  | [], _ => rfl
  | v :: vs, h => by
    simp only [List.mem_cons, not_or] at h
    unfold wipeE
    rw [wipe_setE h.2, List.set_comm _ _ h.1]
theorem RSo.set {i : Nat} {v : V} {d : D} (h : RSo K ow B0 H0 ks B H σ env) (hi : i ∉ ow) (r : Rp K B H v d) : RSo K ow B0 H0 ks B H (σ.set i (some v)) (env.set i (some d)) where
  inB0 := h.inB0
  sub := h.sub
  ky := h.ky
  kys := h.kys
  ex := h.ex
  rs := by rw [wipe_setE hi]; exact h.rs.set r
  own := fun j hj e q => by
    have hn : i ≠ j := fun z => hi (z ▸ hj)
    rw [List.getElem?_set_ne hn] at q
    rw [List.getElem?_set_ne hn]
    exact h.own j hj e q
  dis := fun j hj k hk p d e q1 q2 q3 q4 => by
    have hn : i ≠ j := fun z => hi (z ▸ hj)
    have hm : i ≠ k := fun z => hi (z ▸ hk)
    rw [List.getElem?_set_ne hn] at q1 q3
    rw [List.getElem?_set_ne hm] at q2 q4
    exact h.dis j hj k hk p d e q1 q2 q3 q4
end
def PoSo (K : PySem.W.Frag) (mg : Str → Option Value) (W : WX) (ow : List Nat) (E : Ends) (B0 : List Addr) (H0 : Hp) (ks : List (List Addr × Hp)) : O → Prop
  | .nx env => ∀ σ' B' H', RSo K ow B0 H0 ks B' H' σ' env → E.nx σ' H'
  | .rt d => ∀ v H', Kx B0 H0 H' → Rp K B0 H' v d → E.rt v H'
  | .bk env => ∀ σ' B' H', RSo K ow B0 H0 ks B' H' σ' env → E.bk σ' H'
  | .ct env => ∀ σ' B' H', RSo K ow B0 H0 ks B' H' σ' env → E.ct σ' H'
  | .er c => ∀ σ' H', Kx B0 H0 H' → W (clsV mg c) none σ' H'
  | .bad => False
def EvSo (K : PySem.W.Frag) (mg : Str → Option Value) (W : WX) (ow : List Nat) (ts : TS) (m : Sl → O) : Prop := ∀ (env : Sl) (σ : L2.St) (B0 : List Addr) (H0 : Hp) (ks : List (List Addr × Hp)) (B : List Addr) (H : Hp) (E : Ends), RSo K ow B0 H0 ks B H σ env → PoSo K mg W ow E B0 H0 ks (m env) → ts E σ H
def MSo (X : Cx) (W : WX) (ow : List Nat) (st : Stmt) (m : Sl → O) : Prop := ∃ ts, PS X st ts ∧ EvSo X.K X.mg W ow ts m
def MSso (X : Cx) (W : WX) (ow : List Nat) (st : List Stmt) (m : Sl → O) : Prop := ∃ ts, PSs X st ts ∧ EvSo X.K X.mg W ow ts m
section
variable {X : Cx} {W : WX} {ow : List Nat} {a b c e : Expr} {es : List Expr} {ma mb mc : Sl → R D} {pos p2 : Pos}
theorem Po.toOo {α β : Type} {rel : List Addr → Hp → β → α → Prop} {K : PySem.W.Frag} {mg : Str → Option Value} {σ : L2.St} {B0 B : List Addr} {H0 H : Hp} {ks : List (List Addr × Hp)} {env : Sl} {E : Ends} {Q : β → Hp → Prop} {x : R α} {f : α → O} (hs : RSo K ow B0 H0 ks B H σ env) (h : PoSo K mg W ow E B0 H0 ks (Ask.toO x f))
    (k : ∀ a, x = .ok a → ∀ v H1, RSo K ow B0 H0 ks B H1 σ env → rel B H1 v a → PoSo K mg W ow E B0 H0 ks (f a) → Q v H1) : Po rel mg W σ B H Q x := by
  cases x with
  | ok a => exact fun v H1 e r => k a rfl v H1 (hs.mono e) r h
  | err c => exact fun H' e => h σ H' (hs.mono e).kx
  | bad => exact h
theorem msso_nil : MSso X W ow [] nextM := ⟨_, pss_nil, fun env σ B0 H0 ks B H E hs h => h σ B H hs⟩
theorem msso_one {st : Stmt} {m : Sl → O} (h : MSo X W ow st m) : MSso X W ow [st] m := let ⟨t, a, b⟩ := h; ⟨t, pss_one a, b⟩
theorem msso_cons {st : Stmt} {rest : List Stmt} {m n : Sl → O} (h : MSo X W ow st m) (k : MSso X W ow rest n) : MSso X W ow (st :: rest) (seqM m n) := by
  obtain ⟨t, a1, a2⟩ := h
  obtain ⟨u, b1, b2⟩ := k
  refine ⟨_, pss_cons a1 b1, fun env σ B0 H0 ks B H E hs h => a2 env σ B0 H0 ks B H _ hs ?_⟩
  unfold seqM at h
  cases hm : m env with
  | nx e => rw [hm] at h; exact fun σ' B' H' r => b2 e σ' B0 H0 ks B' H' E r h
  | rt d => rw [hm] at h; exact h
  | bk e => rw [hm] at h; exact h
  | ct e => rw [hm] at h; exact h
  | er c => rw [hm] at h; exact h
  | bad => rw [hm] at h; exact h
def retMo (ow : List Nat) (m : Sl → R D) : Sl → O := fun env => toO (m (wipeE env ow)) .rt
theorem mso_ret (he : ME X W e ma) : MSo X W ow (.Return (some e) pos) (retMo ow ma) := by
  obtain ⟨t, a1, a2⟩ := he
  exact ⟨_, ps_ret a1, fun env σ B0 H0 ks B H E hs h => a2 _ σ B H _ hs.rs (Po.toOo hs h fun d _ v H1 h1 r q => q v H1 h1.kx (r.my h1.back))⟩
def asgMo (ow : List Nat) (i : Nat) (m : Sl → R D) : Sl → O := fun env => toO (m (wipeE env ow)) fun d => .nx (env.set i (some d))
theorem mso_set (i : Nat) {x : Str} {pos' : Pos} (hi2 : i ∉ ow) (he : ME X W e ma) (hN : X.N.Nodup) (hi : X.N[i]? = some x := by rfl) (hx : Loc X.env.scope x := by first | exact Or.inl rfl | exact Or.inr rfl) (hs : swapsWith e (some (.Name x pos')) pos.line X.env = pure false := by rfl) (hf : X.fn x = true ∨ X.env.scope.names.lookup x = some .local := by first | exact .inl rfl | exact .inr rfl) :
    MSo X W ow (.Assign [.Name x pos'] e pos) (asgMo ow i ma) := by
  obtain ⟨t, a1, a2⟩ := he
  exact ⟨_, ps_set hN hi hx a1 hs hf, fun env σ B0 H0 ks B H E hs h => a2 _ σ B H _ hs.rs (Po.toOo hs h fun d _ v H1 h1 r q => q _ B H1 (h1.set hi2 r))⟩
theorem mso_asgLc {st : Stmt} (j : Nat) {m : Sl → R D} (hj : j ∉ ow) (h : ∃ te, PS X st (tAsg te (gName j)) ∧ EvE X.K X.mg W te m) : MSo X W ow st (asgMo ow j m) := by
  obtain ⟨t, a1, a2⟩ := h
  exact ⟨_, a1, fun env σ B0 H0 ks B H E hs h => a2 _ σ B H _ hs.rs (Po.toOo hs h fun d _ v H1 h1 r q => q _ B H1 (h1.set hj r))⟩
def dropMo (ow : List Nat) (m : Sl → R D) : Sl → O := fun env => toO (m (wipeE env ow)) fun _ => .nx env
theorem mso_expr (he : ME X W e ma) (hs : swapsWith e none pos.line X.env = pure false := by rfl) : MSo X W ow (.Expr e pos) (dropMo ow ma) := by
  obtain ⟨t, a1, a2⟩ := he
  exact ⟨_, ps_expr a1 hs, fun env σ B0 H0 ks B H E hs h => a2 _ σ B H _ hs.rs (Po.toOo hs h fun d _ v H1 h1 r q => q _ B H1 h1)⟩
def ifSo (ow : List Nat) (t : Sl → R Bool) (a b : Sl → O) : Sl → O := fun env => toO (t (wipeE env ow)) fun k => if k = true then a env else b env
theorem mso_if {m : Sl → R Bool} {xs ys : List Stmt} {n k : Sl → O} (hc : MT X W c m) (ha : MSso X W ow xs n) (hb : MSso X W ow ys k) : MSo X W ow (.If c xs ys pos) (ifSo ow m n k) := by
  obtain ⟨t, h1, h2⟩ := hc
  obtain ⟨ta, a1, a2⟩ := ha
  obtain ⟨tb, b1, b2⟩ := hb
  refine ⟨_, ps_if h1 a1 b1, fun env σ B0 H0 ks B H E hs h => h2 _ σ B H _ hs.rs (Po.toOo hs h fun x _ v H1 h1 r q => ?_)⟩
  have ev : v = x := r
  subst ev
  cases v with
  | true => exact iteT (a2 env σ B0 H0 ks B H1 E h1 q)
  | false => exact iteF (b2 env σ B0 H0 ks B H1 E h1 q)
def augMo (ow : List Nat) (i : Nat) (m : Sl → R D) : Sl → O := fun env => toO (varM i (wipeE env ow)) fun a => toO (m (wipeE env ow)) fun b => match a, b with
  | .int p, .int q => .nx (env.set i (some (.int (p + q))))
  | _, _ => .bad
theorem mso_aug (i : Nat) {x : Str} {pos' : Pos} (hi2 : i ∉ ow) (he : ME X W e ma) (hN : X.N.Nodup) (hi : X.N[i]? = some x := by rfl) (hx : Loc X.env.scope x := by first | exact Or.inl rfl | exact Or.inr rfl) (hf : X.fn x = true ∨ X.env.scope.names.lookup x = some .local := by first | exact .inl rfl | exact .inr rfl) :
    MSo X W ow (.AugAssign (.Name x pos') .Add e pos) (augMo ow i ma) := by
  obtain ⟨t, a1, a2⟩ := he
  refine ⟨_, ps_aug hN hi hx a1 ip_add hf, fun env σ B0 H0 ks B H E hs h => ?_⟩
  unfold augMo varM at h
  cases hv : (wipeE env ow)[i]? with
  | none => rw [hv] at h; exact h.elim
  | some o =>
    rw [hv] at h
    cases o with
    | none => exact h.elim
    | some d =>
      obtain ⟨v, hv2, rv⟩ := hs.rs.get i d hv
      refine ⟨v, hv2, a2 _ σ B H _ hs.rs (Po.toOo hs h fun b _ u H1 h1 r q => ?_)⟩
      cases rv with
      | int p =>
        cases r with
        | int p2 => exact ⟨p, p2, rfl, rfl, q _ B H1 (h1.set hi2 (.int _))⟩
        | _ => exact q.elim
      | _ => exact q.elim
def forMo (ow : List Nat) (it : Sl → R (List D)) (b : D → Sl → Option Sl) (body : Sl → O) : Sl → O := fun env => toO (it (wipeE env ow)) fun ds => forGo b body ds env
/-- a target that is none of them -/
def GoodG (K : PySem.W.Frag) (ow : List Nat) (g : TG) (m : D → Sl → Option Sl) : Prop := ∀ (env env' : Sl) (σ : L2.St) (B0 : List Addr) (H0 : Hp) (ks : List (List Addr × Hp)) (B : List Addr) (H : Hp) (v : V) (d : D) (Q : L2.St → Hp → Prop), RSo K ow B0 H0 ks B H σ env → Rp K B H v d → m d env = some env' → (∀ σ', RSo K ow B0 H0 ks B H σ' env' → Q σ' H) → g v σ H Q
def MGo (X : Cx) (ow : List Nat) (tg : Expr) (m : D → Sl → Option Sl) : Prop := ∃ g, PG X tg g ∧ GoodG X.K ow g m
theorem mgo_name (i : Nat) {x : Str} (hi2 : i ∉ ow) (hN : X.N.Nodup) (hi : X.N[i]? = some x := by rfl) (hx : Loc X.env.scope x := by first | exact Or.inl rfl | exact Or.inr rfl) (hf : X.fn x = true ∨ X.env.scope.names.lookup x = some .local := by first | exact .inl rfl | exact .inr rfl) : MGo X ow (.Name x pos) (tgN i) :=
  ⟨_, pg_name hN hi hx hf, fun env env' σ B0 H0 ks B H v d Q hs r h q => by cases h; exact q _ (hs.set hi2 r)⟩
theorem mgo_two {x y : Expr} {k : Nat} {m1 m2 : D → Sl → Option Sl} (hc : X.calm = true) (h1 : MGo X ow x m1) (h2 : MGo X ow y m2) (s1 : (assignEach [x, y] X.env).map (·.2) = assign x X.env :: (assignEach [y] X.env).map (·.2) := by rfl) (s2 : (assignEach [y] X.env).map (·.2) = assign y X.env :: (assignEach [] X.env).map (·.2) := by rfl)
    (hn : (assignEach [x, y] X.env).length = 2 := by rfl) (hst : (assignEach [x, y] X.env).findIdx? (·.1) = none := by rfl) : MGo X ow (.Tuple [x, y] k pos) (tg2 m1 m2) := by
  obtain ⟨g1, a1, a2⟩ := h1
  obtain ⟨g2, b1, b2⟩ := h2
  refine ⟨_, pg_tup hc (pgs_cons a1 (pgs_cons b1 pgs_nil s2) s1) hn hst, fun env env' σ B0 H0 ks B H v d Q hs r h q => ?_⟩
  unfold tg2 at h
  split at h
  · next x y hd =>
    split at h
    · next hT =>
      obtain ⟨p, xs, rfl, ra, k⟩ := r.seqT hd
      rcases k with ⟨_, k⟩ | ⟨t, _⟩
      · cases ra with
        | cons r1 ra =>
          cases ra with
          | cons r2 ra =>
            cases ra
            cases h1 : m1 x env with
            | none => rw [h1] at h; cases h
            | some e1 =>
              rw [h1] at h
              exact ⟨p, _, rfl, ex_t (hid_ex B H) k, rfl, _, _, rfl, a2 env e1 σ B0 H0 ks B H _ x _ hs r1 h1 fun σ1 hs1 => ⟨_, _, rfl, b2 e1 env' σ1 B0 H0 ks B H _ y _ hs1 r2 h fun σ2 hs2 => ⟨rfl, q σ2 hs2⟩⟩⟩
      · rw [t] at hT; cases hT
    · cases h
  · cases h
/-- the iterator and what it walks, kept while new objects are laid and lists of one's own grow -/
theorem mso_for {tg iter : Expr} {body : List Stmt} {mi : Sl → R (List D)} {bi : D → Sl → Option Sl} {mb : Sl → O} (hp : PassesOwn (model X.prog X.w) X.A X.env X.xe) (hc : X.calm = true) (hi : MI X W tg iter mi) (hg : MGo X ow tg bi) (hb : MSso X W ow body mb)
    (hs : ∀ x, foldedSetIterable iter X.env x = pure x := by intro _; rfl) : MSo X W ow (.For tg iter body [] pos) (forMo ow mi bi mb) := by
  obtain ⟨wi, i1, i2⟩ := hi
  obtain ⟨g, g1, g2⟩ := hg
  obtain ⟨tb, b1, b2⟩ := hb
  refine ⟨_, ps_for hp hc i1 g1 b1 hs, fun env σ B0 H0 ks B H E hs h => i2 _ σ B H _ hs.rs (Po.toOo hs h fun ds _ J H1 h1 wk q => ?_)⟩
  have h2 : RSo X.K ow B0 H0 ((B, H1) :: ks) B H1 σ env := h1.addK
  have less : ∀ {B' : List Addr} {H' : Hp} {σ' : L2.St} {en : Sl}, RSo X.K ow B0 H0 ((B, H1) :: ks) B' H' σ' en → RSo X.K ow B0 H0 ks B' H' σ' en := fun r => r.lessK
  refine ⟨fun i m σ2 H2 => m = ds.length - i ∧ i ≤ ds.length ∧ ∃ B2 en, RSo X.K ow B0 H0 ((B, H1) :: ks) B2 H2 σ2 en ∧ PoSo X.K X.mg W ow E B0 H0 ks (forGo bi mb (ds.drop i) en), ⟨ds.length, by simp, Nat.zero_le _, B, env, h2, q⟩, ?_⟩
  rintro i m σ2 H2 ⟨rfl, hi2, B2, en, hs2, q2⟩
  obtain ⟨go, stop⟩ := wk B2 H2 (hs2.kys _ List.mem_cons_self)
  by_cases hlt : i < ds.length
  · obtain ⟨g3, y3⟩ := go i hlt
    refine .inr ⟨g3, fun σ3 H3 => i + 1 ≤ ds.length ∧ ∃ B3 en, RSo X.K ow B0 H0 ((B, H1) :: ks) B3 H3 σ3 en ∧ PoSo X.K X.mg W ow E B0 H0 ks (forGo bi mb (ds.drop (i + 1)) en), fun σ' H' n => ⟨ds.length - (i + 1), by omega, rfl, n.1, n.2⟩, fun x H3 y => ?_⟩
    obtain ⟨e3, d, hd, rx⟩ := y3 x H3 y
    have hdrop : ds.drop i = d :: ds.drop (i + 1) := by
      rw [List.drop_eq_getElem_cons hlt]
      rw [List.getElem?_eq_getElem hlt] at hd
      cases hd
      rfl
    rw [hdrop] at q2
    simp only [forGo] at q2
    cases hb : bi d en with
    | none => rw [hb] at q2; exact q2.elim
    | some f1 =>
      rw [hb] at q2
      simp only at q2
      refine g2 _ _ _ _ _ _ _ _ _ _ _ (hs2.mono e3) rx hb fun σ' hs' => b2 f1 σ' B0 H0 ((B, H1) :: ks) B2 H3 _ hs' ?_
      cases hm : mb f1 with
      | nx e => rw [hm] at q2; exact fun σ4 B4 H4 r4 => ⟨by omega, B4, e, r4, q2⟩
      | ct e => rw [hm] at q2; exact fun σ4 B4 H4 r4 => ⟨by omega, B4, e, r4, q2⟩
      | bk e => rw [hm] at q2; exact fun σ4 B4 H4 r4 => q2 σ4 B4 H4 (less r4)
      | rt d => rw [hm] at q2; exact q2
      | er c => rw [hm] at q2; exact q2
      | bad => rw [hm] at q2; exact q2.elim
  · have ei : i = ds.length := by omega
    subst ei
    rw [List.drop_length] at q2
    exact .inl ⟨stop, q2 _ B2 H2 (less hs2)⟩
/-- x = [], a list of one's own -/
def newMo (i : Nat) : Sl → O := fun env => .nx (env.set i (some (.lst [])))
theorem mso_new (i : Nat) {x : Str} {pos' lpos : Pos} (hi2 : i ∈ ow) (hN : X.N.Nodup) (hi : X.N[i]? = some x := by rfl) (hx : Loc X.env.scope x := by first | exact Or.inl rfl | exact Or.inr rfl) (hs : swapsWith (.List [] lpos) (some (.Name x pos')) pos.line X.env = pure false := by rfl) (hf : X.fn x = true ∨ X.env.scope.names.lookup x = some .local := by first | exact .inl rfl | exact .inr rfl) :
    MSo X W ow (.Assign [.Name x pos'] (.List [] lpos) pos) (newMo i) := by
  refine ⟨_, ps_set hN hi hx (pe_lst pa_nil) hs hf, fun env σ B0 H0 ks B H E hs h => ?_⟩
  refine ⟨Nat.zero_le _, fun p hp => ?_⟩
  have hB := hs.rs.inB
  have lay : Ky B H (p :: B) (upd H p (.lst [])) := ky_lay hB hp
  have h0 : H0 p = none := by
    cases q : H0 p with
    | none => rfl
    | some o => rw [hs.ex p o q] at hp; cases hp
  have hl : (wipeE env ow).length = env.length := wipeE_length env ow
  have hσ := hs.rs.len
  refine h _ (p :: B) _ ⟨hs.inB0, fun a ha => List.mem_cons_of_mem _ (hs.sub a ha), hs.ky.trans lay, fun q hq => (hs.kys q hq).trans lay, hs.ex.trans (Ex.new hp), ⟨lay.inB', ?_, fun j d q => ?_⟩, fun j hj d q => ?_, fun j hj k hk r d e q1 q2 q3 q4 => ?_⟩
  · rw [List.length_set, wipeE_length, List.length_set, hσ, hl]
  · by_cases hji : i = j
    · subst hji
      exact absurd q (wipeE_in hi2)
    · by_cases hjo : j ∈ ow
      · exact absurd q (wipeE_in hjo)
      · rw [wipeE_out hjo, List.getElem?_set_ne hji] at q
        have q' : (wipeE env ow)[j]? = some (some d) := by rw [wipeE_out hjo]; exact q
        obtain ⟨v, e1, e2⟩ := hs.rs.get j d q'
        exact ⟨v, by rw [List.getElem?_set_ne hji]; exact e1, e2.my lay⟩
  · by_cases hji : i = j
    · subst hji
      by_cases hlt : i < env.length
      · rw [List.getElem?_set_self hlt] at q
        cases q
        exact ⟨p, [], [], rfl, List.getElem?_set_self (by omega), List.mem_cons_self, h0, upd_same, .nil⟩
      · rw [List.getElem?_eq_none (by rw [List.length_set]; omega)] at q
        cases q
    · rw [List.getElem?_set_ne hji] at q
      obtain ⟨r, acc, zs, a1, a2, a3, a4, a5, a6⟩ := hs.own j hj d q
      exact ⟨r, acc, zs, a1, by rw [List.getElem?_set_ne hji]; exact a2, List.mem_cons_of_mem _ a3, a4, by rw [upd_ne (ne_of_none a5 hp)]; exact a5, a6.my lay⟩
  · have fresh : ∀ j ∈ ow, i ≠ j → ∀ d, env[j]? = some (some d) → σ[j]? = some (some (.ref r)) → r ≠ p := fun j hj hn d hd hσj => by
      obtain ⟨r', acc, zs, a1, a2, a3, a4, a5, a6⟩ := hs.own j hj d hd
      rw [a2] at hσj
      cases hσj
      exact ne_of_none a5 hp
    by_cases hji : i = j
    · by_cases hki : i = k
      · exact hji.symm.trans hki
      · subst hji
        rw [List.getElem?_set_ne hki] at q2 q4
        have lt : i < σ.length := by
          by_cases hh : i < σ.length
          · exact hh
          · rw [List.getElem?_eq_none (by rw [List.length_set]; omega)] at q3; cases q3
        rw [List.getElem?_set_self lt] at q3
        cases q3
        exact absurd rfl (fresh k hk hki e q2 q4)
    · by_cases hki : i = k
      · subst hki
        rw [List.getElem?_set_ne hji] at q1 q3
        have lt : i < σ.length := by
          by_cases hh : i < σ.length
          · exact hh
          · rw [List.getElem?_eq_none (by rw [List.length_set]; omega)] at q4; cases q4
        rw [List.getElem?_set_self lt] at q4
        cases q4
        exact absurd rfl (fresh j hj hji d q1 q3)
      · rw [List.getElem?_set_ne hji] at q1 q3
        rw [List.getElem?_set_ne hki] at q2 q4
        exact hs.dis j hj k hk r d e q1 q2 q3 q4
/-- x.append(e) -/
def appMo (ow : List Nat) (i : Nat) (m : Sl → R D) : Sl → O := fun env => match env[i]? with
  | some (some (.lst zs)) => toO (m (wipeE env ow)) fun d => if zs.length ≤ 50000 then .nx (env.set i (some (.lst (zs ++ [d])))) else .bad
  | _ => .bad
theorem mso_app (i : Nat) {x : Str} {px apos cpos : Pos} (hi2 : i ∈ ow) (he : ME X W e ma) (hi : X.N[i]? = some x := by rfl) (hv : Vis X.env.scope x := by first | exact Or.inl rfl | exact Or.inr (Or.inl rfl) | exact Or.inr (Or.inr rfl)) (hd : (x == ("__debug__" : Str)) = false := by decide) (hcd : (x == ("__classdict__" : Str)) = false := by decide)
    (hs : swapsWith (.Call (.Attribute (.Name x px) "append" apos) [e] [] cpos) none pos.line X.env = pure false := by rfl)
    (hbase : attributeBase (.Name x px) "append" X.env (eval (.Name x px) X.env) = eval (.Name x px) X.env := by rfl)
    (hfew : ((backTo cpos (starEach [e] X.env)).all (fun x => !x.1) && (backToKw cpos (keywordEach [] X.env)).all (fun x => x.1.isSome)
      && decide (([e] : List Expr).length + ([] : List Keyword).length + (if ([] : List Keyword).isEmpty then 0 else 1) < 30)) = true := by rfl)
    (hline : (apos.endLine == cpos.line) = true := by rfl) (hst : starEach [e] X.env = (false, eval e X.env) :: starEach [] X.env := by rfl) (hplain : (backTo cpos (starEach ([] : List Expr) X.env)).any (·.1) = false := by rfl) :
    MSo X W ow (.Expr (.Call (.Attribute (.Name x px) "append" apos) [e] [] cpos) pos) (appMo ow i ma) := by
  obtain ⟨t, a1, a2⟩ := he
  refine ⟨_, ps_expr (pe_bm PySem.F.plainAttrs_list PySem.F.slot_list_append PySem.F.type_list_append mt_append (pe_var (i := i) hi hv hd hcd) (pa_cons a1 pa_nil hst) hbase hfew hline hst hplain) hs, fun env σ B0 H0 ks B H E hs h => ?_⟩
  unfold appMo at h
  split at h
  · next zs hz =>
    obtain ⟨p, acc, zs', e0, hσ, hpB, hp0, hp, ra⟩ := hs.own i hi2 _ hz
    cases e0
    refine ⟨.ref p, hσ, .inl ⟨rfl, acc, .inl (.inl hp)⟩, a2 _ σ B H _ hs.rs (Po.toOo hs h fun d _ v H1 h1 r q => ?_)⟩
    by_cases hl : zs.length ≤ 50000
    · rw [if_pos hl] at q
      obtain ⟨p', acc', zs'', e0, hσ', hpB', hp0', hp', ra'⟩ := h1.own i hi2 _ hz
      rw [hσ] at hσ'
      cases hσ'
      cases e0
      have lt : acc'.length = zs.length := ra'.length
      have hB := h1.rs.inB
      have put : ∀ {b : List Addr} {h : Hp}, Ky b h B H1 → Ky b h B (upd H1 p (.lst (acc' ++ [v]))) := fun {b h} k => by
        refine ⟨fun a o z => ?_, fun a ha => ?_⟩
        · have z1 := k.hid a o z
          have hn : a ∉ B := fun y => by unfold Ask.hid at z1; rw [if_pos y] at z1; cases z1
          have hap : a ≠ p := fun y => hn (by rw [y]; exact hpB)
          exact hid_at (by rw [upd_ne hap]; exact hid_some z1) hn
        · by_cases hap : a = p
          · rw [hap, upd_same]; exact fun z => by cases z
          · rw [upd_ne hap]; exact hB a ha
      have putS : Ky B H1 B (upd H1 p (.lst (acc' ++ [v]))) := put ⟨Ex.refl _, hB⟩
      have hlen := h1.rs.len
      have ilt : i < env.length := by
        by_cases hh : i < env.length
        · exact hh
        · rw [List.getElem?_eq_none (by omega)] at hz; cases hz
      refine ⟨p, acc', v, rfl, rfl, hp', sz_lt (by omega), q _ B _ ⟨h1.inB0, h1.sub, put h1.ky, fun z hz => put (h1.kys z hz), Ex.mut h1.ex hp0, ⟨putS.inB', ?_, fun j d' q' => ?_⟩, fun j hj d' q' => ?_, fun j hj k hk r' d' e' q1 q2 q3 q4 => ?_⟩⟩
      · rw [wipeE_length, List.length_set, hlen, wipeE_length]
      · by_cases hjo : j ∈ ow
        · exact absurd q' (wipeE_in hjo)
        · have hji : i ≠ j := fun z => hjo (z ▸ hi2)
          rw [wipeE_out hjo, List.getElem?_set_ne hji] at q'
          have q'' : (wipeE env ow)[j]? = some (some d') := by rw [wipeE_out hjo]; exact q'
          obtain ⟨u, e1, e2⟩ := h1.rs.get j d' q''
          exact ⟨u, e1, e2.my putS⟩
      · by_cases hji : i = j
        · subst hji
          rw [List.getElem?_set_self ilt] at q'
          cases q'
          exact ⟨p, acc' ++ [v], zs ++ [d], rfl, hσ, hpB, hp0, upd_same, (ra'.append (.cons r .nil)).my putS⟩
        · rw [List.getElem?_set_ne hji] at q'
          obtain ⟨p2, acc2, zs2, b1, b2, b3, b4, b5, b6⟩ := h1.own j hj d' q'
          have hne : p2 ≠ p := fun z => by
            subst z
            exact hji (h1.dis i hi2 j hj p2 _ _ hz q' hσ b2)
          exact ⟨p2, acc2, zs2, b1, b2, b3, b4, by rw [upd_ne hne]; exact b5, b6.my putS⟩
      · have back : ∀ {j : Nat} {d'' : D}, (env.set i (some (D.lst (zs ++ [d]))))[j]? = some (some d'') → ∃ d3, env[j]? = some (some d3) := fun {j d''} z => by
          by_cases hji : i = j
          · subst hji; exact ⟨_, hz⟩
          · rw [List.getElem?_set_ne hji] at z; exact ⟨_, z⟩
        obtain ⟨d3, z3⟩ := back q1
        obtain ⟨d4, z4⟩ := back q2
        exact h1.dis j hj k hk r' d3 d4 z3 z4 q3 q4
    · rw [if_neg hl] at q
      exact q.elim
  · exact h.elim
/-- return x, a list of one's own -/
def retOwn (i : Nat) : Sl → O := fun env => match env[i]? with
  | some (some d) => .rt d
  | _ => .bad
theorem mso_retOwn (i : Nat) {x : Str} {px : Pos} (hi2 : i ∈ ow) (hi : X.N[i]? = some x := by rfl) (hv : Vis X.env.scope x := by first | exact Or.inl rfl | exact Or.inr (Or.inl rfl) | exact Or.inr (Or.inr rfl)) (hd : (x == ("__debug__" : Str)) = false := by decide) (hcd : (x == ("__classdict__" : Str)) = false := by decide) :
    MSo X W ow (.Return (some (.Name x px)) pos) (retOwn i) := by
  refine ⟨_, ps_ret (pe_var (i := i) hi hv hd hcd), fun env σ B0 H0 ks B H E hs h => ?_⟩
  unfold retOwn at h
  split at h
  · next d hz =>
    obtain ⟨p, acc, zs, e0, hσ, hpB, hp0, hp, ra⟩ := hs.own i hi2 _ hz
    subst e0
    exact ⟨.ref p, hσ, h _ H hs.kx (.lst (hid_at hp fun z => hs.inB0 p z hp0) (ra.my hs.back))⟩
  · exact h.elim
theorem fn_okoR {P : Program} {w : World} {K : PySem.W.Frag} {mg : Str → Option Value} {base : Heap} {x qual : Str} {st : Stmt} {f : Addr} {fd : FuncData} {N ps : List Str} {k n nl : Nat} {mb : Sl → O} (F : Fun K x qual st f fd) (S : FnScope N ps (defScope st)) (hn : ps.length = n) (hnl : N.length = n + nl) (how : ∀ i ∈ ow, n ≤ i)
    (body : ∀ (cdv : Value) (A : Around) (outer : List Env) (s : Shared) (H : Hp) (E : XK), Room k (A.deeper (PyProof.Rows.envOfC qual (defScope st) s.heap.objs.size f cdv)) →
      MSso (cxOf (L2.CX P w) P w K mg base N qual (defScope st) f cdv A outer s H E) (fun cls d _ H' => E cls d H') ow (defBody st) mb) : FnOk P w K mg base (L2.CX P w) (k + 1) f fd ps (spM K mg n (fnM n nl mb)) := by
  refine F.okX S (fun vs H Q E h => ?_) fun cdv A outer s H vs Q E hr h => ?_
  · obtain ⟨B, ds, _, hl, r, _⟩ := h
    rw [r.length, hl, hn]
  · obtain ⟨B, ds, hB, hl, r, q⟩ := h
    obtain ⟨t, t1, t2⟩ := body cdv A outer s H E hr
    have e : N.length - ds.length = nl := by omega
    have rs := rs_start (N := N) hB r
    rw [e] at rs
    have none_at : ∀ i ∈ ow, ∀ d, (ds.map some ++ List.replicate nl none)[i]? ≠ some (some d) := fun i hi d z => by
      have := how i hi
      rw [List.getElem?_append_right (by simp; omega), List.getElem?_replicate] at z
      split at z <;> cases z
    refine ⟨t, t1, t2 _ _ B H [] B H _ ⟨hB, fun _ z => z, ⟨Ex.refl _, hB⟩, (fun _ z => by cases z), Ex.refl _, ⟨hB, by rw [wipeE_length]; exact rs.len, fun i d z => ?_⟩, fun i hi d z => absurd z (none_at i hi d), fun i hi j hj p d e z => absurd z (none_at i hi d)⟩ ?_⟩
    · by_cases hi : i ∈ ow
      · exact absurd z (wipeE_in hi)
      · rw [wipeE_out hi] at z
        exact rs.get i d z
    unfold fnM at q
    rw [if_pos hl] at q
    show PoSo K mg (fun cls d _ H' => E cls d H') ow { nx := fun _ H' => Q .non H', rt := Q } B H [] (mb (ds.map some ++ List.replicate nl none))
    cases hb : mb (ds.map some ++ List.replicate nl none) with
    | nx e => rw [hb] at q; exact fun σ' B' H' x => q .non H' x.kx .non
    | rt d => rw [hb] at q; exact q
    | er c => rw [hb] at q; exact fun σ' H' x => q H' x
    | bk e => rw [hb] at q; exact q.elim
    | ct e => rw [hb] at q; exact q.elim
    | bad => rw [hb] at q; exact q.elim
theorem fn_oko {P : Program} {w : World} {K : PySem.W.Frag} {mg : Str → Option Value} {base : Heap} {x qual : Str} {st : Stmt} {f : Addr} {fd : FuncData} {N ps : List Str} {k n nl : Nat} {mb : Sl → O} (F : Fun K x qual st f fd) (S : FnScope N ps (defScope st)) (hn : ps.length = n) (hnl : N.length = n + nl) (hm : mg x = some (.ref f))
    (hbd : ∀ (kV doc pm : Value) (an : Option Addr) (cdv ct : Value) (us : List Value), us.length = ps.length → bindArgs (PySem.W.fnOf x qual (defArgs st) (defBody st) (defScope st) .none kV doc pm an cdv ct) ⟨us, []⟩ = pure (ps.zip us)) (how : ∀ i ∈ ow, n ≤ i)
    (body : ∀ (cdv : Value) (A : Around) (outer : List Env) (s : Shared) (H : Hp) (E : XK), Room k (A.deeper (PyProof.Rows.envOfC qual (defScope st) s.heap.objs.size f cdv)) →
      MSso (cxOf (L2.CX P w) P w K mg base N qual (defScope st) f cdv A outer s H E) (fun cls d _ H' => E cls d H') ow (defBody st) mb) : FnI P w K mg base x (k + 1) n (fnM n nl mb) :=
  ⟨f, fd, ps, hn, hm, F.kp, F.binds hbd, fn_okoR F S hn hnl how body⟩
end
end Ask
namespace Ask
open PySem L2 Evl
/-- in an except suite: isinstance of the exception that the name holds -/
def bIsE (K : PySem.W.Frag) (Dc a : Addr) : List D → Option D
  | [.own x, .own C] => if x = a then match PySem.W.kitOne K (.ref Dc) (.ref C) with
    | some b => some (.bl b)
    | none => none else none
  | [.own x, .ty n] => if x = a then match PySem.W.kitOne K (.ref Dc) (.type n) with
    | some b => some (.bl b)
    | none => none else none
  | _ => none
theorem cb_isE {X : Cx} {a Dc : Addr} {oe : Obj} {pn : List (Addr × Obj)} (C : ExcC X.K Dc) (hz : Zc (.ref Dc) none oe) (hf : ∃ vs, oe.data = .fields vs) : CbM (X.suite a ((a, oe) :: pn)) (.builtin "isinstance") (bIsE X.K Dc a) := by
  refine ⟨_, call_isE C hz hf, fun vs ds z B H Q hB r h q => ?_⟩
  unfold bIsE at h
  split at h
  · cases r with
    | cons r1 r2 =>
      cases r2 with
      | cons r3 r4 =>
        cases r4
        cases r1
        cases r3
        split at h
        · next hx =>
          subst hx
          split at h
          · next b hb => cases h; exact ⟨_, _, b, rfl, fun u hu => hu, hb, q _ H (Kx.refl hB) (.bl _)⟩
          · cases h
        · cases h
  · cases r with
    | cons r1 r2 =>
      cases r2 with
      | cons r3 r4 =>
        cases r4
        cases r1
        cases r3
        split at h
        · next hx =>
          subst hx
          split at h
          · next b hb => cases h; exact ⟨_, _, b, rfl, fun u hu => hu, hb, q _ H (Kx.refl hB) (.bl _)⟩
          · cases h
        · cases h
  · cases h
/-- the weakest reading of a block -/
def tsOf (K : PySem.W.Frag) (mg : Str → Option Value) (W : WX) (m : Sl → O) : TS := fun E σ H => ∃ env B, RS K B H σ env ∧ PoS K mg W E B H (m env)
theorem MSs.pss {X : Cx} {W : WX} {st : List Stmt} {m : Sl → O} (h : MSs X W st m) : PSs X st (tsOf X.K X.mg W m) := by
  obtain ⟨t, h1, h2⟩ := h
  exact ⟨fun pins s σ H E I ⟨env, B, hs, q⟩ => h1.run pins s σ H E I (h2 env σ B H E hs q)⟩
end Ask
namespace My
open PySem L2 Evl Ask
/-! what the module holds -/
def top (i : Nat) : Stmt := PySem.Challenge.pw_askmark_k04_what_is_no_piece.main.body.getD i (.Pass ⟨0, 0, 0, 0⟩)
def c_DEEPEST_LEVEL : D := .int 30
def t_FORMS : List (Str × D) := [("num", .ktup [.str "number"]), ("name", .ktup [.str "name"]), ("sum", .ktup [.str "piece", .str "piece"]), ("let", .ktup [.str "name", .str "piece", .str "piece"]), ("choose", .ktup [.str "piece", .str "piece", .str "piece"]), ("ask", .ktup [.str "kind", .str "piece"]), ("hand", .ktup [.str "kind", .str "name", .str "piece", .str "piece"])]
def c_KINDS : D := .ktup [.str "coin", .str "fail", .str "line"]
def c_LARGEST_NUMBER : D := .int 999
def c_LONGEST_NAME : D := .int 8
structure Tx (K : PySem.W.Frag) (mg : Str → Option Value) (w : World) where
  n_ValueError : mg "ValueError" = none
  n_all : mg "all" = none
  n_bool : mg "bool" = none
  n_int : mg "int" = none
  n_isinstance : mg "isinstance" = none
  n_len : mg "len" = none
  n_range : mg "range" = none
  n_str : mg "str" = none
  n_tuple : mg "tuple" = none
  n_type : mg "type" = none
  n_zip : mg "zip" = none
  h_DEEPEST_LEVEL : ∃ t, mg "DEEPEST_LEVEL" = some (.int 30 t)
  h_FORMS : ∃ (d : Addr) (es : Array DictEntry) (n : Nat), mg "FORMS" = some (.ref d) ∧ KDict K w d es n ∧ EsT K es.toList t_FORMS
  h_KINDS : ∃ a, mg "KINDS" = some (.ref a) ∧ KTup K a [.str "coin", .str "fail", .str "line"]
  h_LARGEST_NUMBER : ∃ t, mg "LARGEST_NUMBER" = some (.int 999 t)
  h_LONGEST_NAME : ∃ t, mg "LONGEST_NAME" = some (.int 8 t)
  a_AskError : Addr
  g_AskError : mg "AskError" = some (.ref a_AskError)
  x_AskError : PySem.W.excIn K a_AskError [.type "ValueError", .type "Exception", .type "BaseException", .type "object"] "ValueError.__new__" = true
  k_AskError : PySem.W.keepIn K (.ref a_AskError) = true
  b_AskError : PySem.W.subIn K (.ref a_AskError) (.type "BaseException") = some true
  t_AskError : PySem.W.typeIn K (.ref a_AskError) = some (.type "type")
  i_AskError : ExcC K a_AskError
  a_BadName : Addr
  g_BadName : mg "BadName" = some (.ref a_BadName)
  x_BadName : PySem.W.excIn K a_BadName [.type "ValueError", .type "Exception", .type "BaseException", .type "object"] "ValueError.__new__" = true
  k_BadName : PySem.W.keepIn K (.ref a_BadName) = true
  b_BadName : PySem.W.subIn K (.ref a_BadName) (.type "BaseException") = some true
  t_BadName : PySem.W.typeIn K (.ref a_BadName) = some (.type "type")
  i_BadName : ExcC K a_BadName
  a_BadPiece : Addr
  g_BadPiece : mg "BadPiece" = some (.ref a_BadPiece)
  x_BadPiece : PySem.W.excIn K a_BadPiece [.type "ValueError", .type "Exception", .type "BaseException", .type "object"] "ValueError.__new__" = true
  k_BadPiece : PySem.W.keepIn K (.ref a_BadPiece) = true
  b_BadPiece : PySem.W.subIn K (.ref a_BadPiece) (.type "BaseException") = some true
  t_BadPiece : PySem.W.typeIn K (.ref a_BadPiece) = some (.type "type")
  i_BadPiece : ExcC K a_BadPiece
  a_TooTall : Addr
  g_TooTall : mg "TooTall" = some (.ref a_TooTall)
  x_TooTall : PySem.W.excIn K a_TooTall [.type "ValueError", .type "Exception", .type "BaseException", .type "object"] "ValueError.__new__" = true
  k_TooTall : PySem.W.keepIn K (.ref a_TooTall) = true
  b_TooTall : PySem.W.subIn K (.ref a_TooTall) (.type "BaseException") = some true
  t_TooTall : PySem.W.typeIn K (.ref a_TooTall) = some (.type "type")
  i_TooTall : ExcC K a_TooTall
  s_BadPiece_BadPiece : PySem.W.kitOne K (.ref a_BadPiece) (.ref a_BadPiece) = some true
  s_BadPiece_BadName : PySem.W.kitOne K (.ref a_BadPiece) (.ref a_BadName) = some false
  s_BadPiece_TooTall : PySem.W.kitOne K (.ref a_BadPiece) (.ref a_TooTall) = some false
  s_BadPiece_ValueError : PySem.W.kitOne K (.ref a_BadPiece) (.type "ValueError") = some true
  s_BadName_BadPiece : PySem.W.kitOne K (.ref a_BadName) (.ref a_BadPiece) = some false
  s_BadName_BadName : PySem.W.kitOne K (.ref a_BadName) (.ref a_BadName) = some true
  s_BadName_TooTall : PySem.W.kitOne K (.ref a_BadName) (.ref a_TooTall) = some false
  s_BadName_ValueError : PySem.W.kitOne K (.ref a_BadName) (.type "ValueError") = some true
  s_TooTall_BadPiece : PySem.W.kitOne K (.ref a_TooTall) (.ref a_BadPiece) = some false
  s_TooTall_BadName : PySem.W.kitOne K (.ref a_TooTall) (.ref a_BadName) = some false
  s_TooTall_TooTall : PySem.W.kitOne K (.ref a_TooTall) (.ref a_TooTall) = some true
  s_TooTall_ValueError : PySem.W.kitOne K (.ref a_TooTall) (.type "ValueError") = some true
  e_BadPiece_AskError : PySem.W.subIn K (.ref a_BadPiece) (.ref a_AskError) = some true
  e_BadName_AskError : PySem.W.subIn K (.ref a_BadName) (.ref a_AskError) = some true
  e_TooTall_AskError : PySem.W.subIn K (.ref a_TooTall) (.ref a_AskError) = some true
theorem Tx.e_DEEPEST_LEVEL {K : PySem.W.Frag} {mg : Str → Option Value} {w : World} (T : Tx K mg w) {X : Cx} {W : WX} {pos : Pos} (hg : Gl X "DEEPEST_LEVEL") (h1 : X.mg = mg := by rfl) (h2 : X.K = K := by rfl) : ME X W (.Name "DEEPEST_LEVEL" pos) (cM c_DEEPEST_LEVEL) := by
  subst h1 h2
  obtain ⟨t, hm⟩ := T.h_DEEPEST_LEVEL
  exact me_glob (v := .int 30) hg hm ⟨t, rfl⟩ fun _ _ => .int _
theorem Tx.get_FORMS {K : PySem.W.Frag} {mg : Str → Option Value} {w : World} (T : Tx K mg w) {X : Cx} {W : WX} {e : Expr} {px apos cpos : Pos} {ma : Sl → R D} (hg : Gl X "FORMS") (he : ME X W e ma) (m : M1 X (.Name "FORMS" px) "get" apos e cpos) (h1 : X.mg = mg := by rfl) (h2 : X.K = K := by rfl) (h3 : X.w = w := by rfl) : ME X W (.Call (.Attribute (.Name "FORMS" px) "get" apos) [e] [] cpos) (kgetM t_FORMS ma) := by
  subst h1 h2 h3
  obtain ⟨d, es, n, hm, kd, et⟩ := T.h_FORMS
  exact me_kget kd et hg hm he m
theorem Tx.e_KINDS {K : PySem.W.Frag} {mg : Str → Option Value} {w : World} (T : Tx K mg w) {X : Cx} {W : WX} {pos : Pos} (hg : Gl X "KINDS") (h1 : X.mg = mg := by rfl) (h2 : X.K = K := by rfl) : ME X W (.Name "KINDS" pos) (cM c_KINDS) := by
  subst h1 h2
  obtain ⟨a, hm, k⟩ := T.h_KINDS
  exact me_glob (v := .ref a) hg hm rfl fun B H => .ktup (.inr k) (RpA0.strs ["coin", "fail", "line"])
theorem Tx.e_LARGEST_NUMBER {K : PySem.W.Frag} {mg : Str → Option Value} {w : World} (T : Tx K mg w) {X : Cx} {W : WX} {pos : Pos} (hg : Gl X "LARGEST_NUMBER") (h1 : X.mg = mg := by rfl) (h2 : X.K = K := by rfl) : ME X W (.Name "LARGEST_NUMBER" pos) (cM c_LARGEST_NUMBER) := by
  subst h1 h2
  obtain ⟨t, hm⟩ := T.h_LARGEST_NUMBER
  exact me_glob (v := .int 999) hg hm ⟨t, rfl⟩ fun _ _ => .int _
theorem Tx.e_LONGEST_NAME {K : PySem.W.Frag} {mg : Str → Option Value} {w : World} (T : Tx K mg w) {X : Cx} {W : WX} {pos : Pos} (hg : Gl X "LONGEST_NAME") (h1 : X.mg = mg := by rfl) (h2 : X.K = K := by rfl) : ME X W (.Name "LONGEST_NAME" pos) (cM c_LONGEST_NAME) := by
  subst h1 h2
  obtain ⟨t, hm⟩ := T.h_LONGEST_NAME
  exact me_glob (v := .int 8) hg hm ⟨t, rfl⟩ fun _ _ => .int _
/-! l_mixed -/
abbrev s_l_mixed : Stmt := top 22
theorem sc_l_mixed : FnScope ["_law_cell", "_law_k", "_law_number"] ["_law_cell", "_law_k"] (defScope s_l_mixed) := ⟨rfl, rfl, rfl, by decide +kernel, rfl, by decide +kernel, by decide +kernel⟩
def b_l_mixed : Sl → O :=
  (seqM (asgM 2 (op2 D.mod (op2 D.mul (op2 D.add (op2 D.add (varM 0) (op2 D.mul (cM (.int 7)) (varM 1))) (cM (.int 3))) (cM (.int 48271))) (cM (.int 2147483647))))
  (retM (op2 D.mod (op2 D.mul (varM 2) (varM 2)) (cM (.int 2147483647)))))
def m_l_mixed : List D → R D := fnM 2 1 b_l_mixed
theorem ok_l_mixed {P : Program} {w : World} {K : PySem.W.Frag} {mg : Str → Option Value} {base : Heap} (T : Tx K mg w) {f : Addr} {fd : FuncData} (F : Fun K "_law_mixed" "_law_mixed" s_l_mixed f fd) (hm : mg "_law_mixed" = some (.ref f))  : FnI P w K mg base "_law_mixed" 1 2 m_l_mixed :=
  fn_ok F sc_l_mixed rfl rfl hm (fun _ _ _ _ _ _ us hl => match us, hl with | [_, _], _ => rfl) (fun cdv A outer s H E hr =>
  (mss_cons (ms_set 2 (me_op om_mod (me_op om_mul (me_op om_add (me_op om_add (me_var 0) (me_op om_mul me_int (me_var 1))) me_int) me_int) me_int) sc_l_mixed.nd)
  (mss_one (ms_ret (me_op om_mod (me_op om_mul (me_var 2) (me_var 2)) me_int)))))
/-! l_cell_at -/
abbrev s_l_cell_at : Stmt := top 21
theorem sc_l_cell_at : FnScope ["_law_script", "_law_k"] ["_law_script", "_law_k"] (defScope s_l_cell_at) := ⟨rfl, rfl, rfl, by decide +kernel, rfl, by decide +kernel, by decide +kernel⟩
def b_l_cell_at : Sl → O :=
  (seqM (ifS (asB (op2 D.lt (varM 1) (cbM bLen (consA (varM 0) nilA))))
  (retM (op2 D.ix (varM 0) (varM 1)))
  nextM)
  (retM (cM (.int 0))))
def m_l_cell_at : List D → R D := fnM 2 0 b_l_cell_at
theorem ok_l_cell_at {P : Program} {w : World} {K : PySem.W.Frag} {mg : Str → Option Value} {base : Heap} (T : Tx K mg w) {f : Addr} {fd : FuncData} (F : Fun K "_law_cell_at" "_law_cell_at" s_l_cell_at f fd) (hm : mg "_law_cell_at" = some (.ref f))  : FnI P w K mg base "_law_cell_at" 1 2 m_l_cell_at :=
  fn_ok F sc_l_cell_at rfl rfl hm (fun _ _ _ _ _ _ us hl => match us, hl with | [_, _], _ => rfl) (fun cdv A outer s H E hr =>
  (mss_cons (ms_if (mt_cmp om_lt (me_var 1) (me_cb cb_len rfl T.n_len PySem.boot_len (ma_cons (me_var 0) ma_nil)) (nomark _))
  (mss_one (ms_ret (me_ix (me_var 0) (me_var 1))))
  mss_nil)
  (mss_one (ms_ret me_int))))
/-! l_bad -/
abbrev s_l_bad : Stmt := top 26
theorem sc_l_bad : FnScope ["_law_number", "_law_some"] ["_law_number"] (defScope s_l_bad) := ⟨rfl, rfl, rfl, by decide +kernel, rfl, by decide +kernel, by decide +kernel⟩
def b_l_bad : Sl → O :=
  (seqM (asgM 1 (lstM (consA (cM .non) (consA (cM (.int 7)) (consA (cM (.str "num")) (consA (lstM nilA) (consA (tupM nilA) (consA (tupM (consA (cM (.str "num")) nilA)) (consA (tupM (consA (cM (.str "num")) (consA (negM (cM (.int 1))) nilA))) (consA (tupM (consA (cM (.str "num")) (consA (cM (.int 1000)) nilA))) (consA (tupM (consA (cM (.str "num")) (consA (cM (.bl true)) nilA))) (consA (tupM (consA (cM (.str "num")) (consA (cM (.str "1")) nilA))) (consA (tupM (consA (cM (.str "num")) (consA (cM .non) nilA))) nilA)))))))))))))
  (seqM (asgM 1 (op2 D.add (varM 1) (lstM (consA (tupM (consA (cM (.str "num")) (consA (cM (.int 1)) (consA (cM (.int 2)) nilA)))) (consA (lstM (consA (cM (.str "num")) (consA (cM (.int 1)) nilA))) (consA (tupM (consA (cM (.str "name")) (consA (cM (.str "")) nilA))) (consA (tupM (consA (cM (.str "name")) (consA (cM (.str "abcdefghi")) nilA))) (consA (tupM (consA (cM (.str "name")) (consA (cM (.str "a1")) nilA))) (consA (tupM (consA (cM (.str "name")) (consA (cM (.str "Ab")) nilA))) nilA)))))))))
  (seqM (asgM 1 (op2 D.add (varM 1) (lstM (consA (tupM (consA (cM (.str "name")) (consA (cM (.int 5)) nilA))) (consA (tupM (consA (cM (.str "name")) (consA (cM (.str "0")) nilA))) (consA (tupM (consA (cM (.str "name")) nilA)) (consA (tupM (consA (cM (.str "sum")) (consA (tupM (consA (cM (.str "num")) (consA (cM (.int 1)) nilA))) nilA))) (consA (tupM (consA (cM (.str "Sum")) (consA (tupM (consA (cM (.str "num")) (consA (cM (.int 1)) nilA))) (consA (tupM (consA (cM (.str "num")) (consA (cM (.int 1)) nilA))) nilA)))) nilA))))))))
  (seqM (asgM 1 (op2 D.add (varM 1) (lstM (consA (tupM (consA (cM (.str "let")) (consA (cM (.str "a")) (consA (tupM (consA (cM (.str "num")) (consA (cM (.int 1)) nilA))) nilA)))) (consA (tupM (consA (cM (.str "let")) (consA (cM (.str "")) (consA (tupM (consA (cM (.str "num")) (consA (cM (.int 1)) nilA))) (consA (tupM (consA (cM (.str "num")) (consA (cM (.int 1)) nilA))) nilA))))) (consA (tupM (consA (cM (.str "let")) (consA (cM (.int 1)) (consA (tupM (consA (cM (.str "num")) (consA (cM (.int 1)) nilA))) (consA (tupM (consA (cM (.str "num")) (consA (cM (.int 1)) nilA))) nilA))))) nilA))))))
  (seqM (asgM 1 (op2 D.add (varM 1) (lstM (consA (tupM (consA (cM (.str "let")) (consA (cM (.str "a b")) (consA (tupM (consA (cM (.str "num")) (consA (cM (.int 1)) nilA))) (consA (tupM (consA (cM (.str "num")) (consA (cM (.int 1)) nilA))) nilA))))) (consA (tupM (consA (cM (.str "choose")) (consA (tupM (consA (cM (.str "num")) (consA (cM (.int 1)) nilA))) (consA (tupM (consA (cM (.str "num")) (consA (cM (.int 2)) nilA))) nilA)))) (consA (tupM (consA (cM (.str "ask")) (consA (cM (.str "line")) nilA))) nilA))))))
  (seqM (asgM 1 (op2 D.add (varM 1) (lstM (consA (tupM (consA (cM (.str "ask")) (consA (cM (.str "lines")) (consA (tupM (consA (cM (.str "num")) (consA (cM (.int 1)) nilA))) nilA)))) (consA (tupM (consA (cM (.str "ask")) (consA (cM .non) (consA (tupM (consA (cM (.str "num")) (consA (cM (.int 1)) nilA))) nilA)))) (consA (tupM (consA (cM (.str "ask")) (consA (cM (.str "Coin")) (consA (tupM (consA (cM (.str "num")) (consA (cM (.int 1)) nilA))) nilA)))) (consA (tupM (consA (cM (.int 1)) (consA (cM (.int 2)) nilA))) nilA)))))))
  (seqM (asgM 1 (op2 D.add (varM 1) (lstM (consA (tupM (consA (cM (.str "ask")) (consA (cM (.str "")) (consA (tupM (consA (cM (.str "num")) (consA (cM (.int 1)) nilA))) nilA)))) (consA (tupM (consA (cM (.str "ask")) (consA (cM (.str "coin")) (consA (tupM (consA (cM (.str "num")) (consA (cM (.int 1)) nilA))) (consA (tupM (consA (cM (.str "num")) (consA (cM (.int 1)) nilA))) nilA))))) (consA (tupM (consA (cM (.str "hand")) (consA (cM (.str "coin")) (consA (cM (.str "a")) (consA (tupM (consA (cM (.str "num")) (consA (cM (.int 1)) nilA))) nilA))))) nilA))))))
  (seqM (asgM 1 (op2 D.add (varM 1) (lstM (consA (tupM (consA (cM (.str "hand")) (consA (cM (.str "line ")) (consA (cM (.str "a")) (consA (tupM (consA (cM (.str "num")) (consA (cM (.int 1)) nilA))) (consA (tupM (consA (cM (.str "num")) (consA (cM (.int 1)) nilA))) nilA)))))) (consA (tupM (consA (cM (.str "hand")) (consA (cM (.str "fail")) (consA (cM (.str "")) (consA (tupM (consA (cM (.str "num")) (consA (cM (.int 1)) nilA))) (consA (tupM (consA (cM (.str "num")) (consA (cM (.int 1)) nilA))) nilA)))))) nilA)))))
  (seqM (asgM 1 (op2 D.add (varM 1) (lstM (consA (tupM (consA (cM (.str "hand")) (consA (cM (.str "fail")) (consA (cM (.int 3)) (consA (tupM (consA (cM (.str "num")) (consA (cM (.int 1)) nilA))) (consA (tupM (consA (cM (.str "num")) (consA (cM (.int 1)) nilA))) nilA)))))) (consA (tupM (consA (cM (.str "hand")) (consA (cM (.int 0)) (consA (cM (.str "a")) (consA (tupM (consA (cM (.str "num")) (consA (cM (.int 1)) nilA))) (consA (tupM (consA (cM (.str "num")) (consA (cM (.int 1)) nilA))) nilA)))))) (consA (tupM (consA (cM .non) (consA (cM (.int 1)) nilA))) nilA))))))
  (seqM (asgM 1 (op2 D.add (varM 1) (lstM (consA (tupM (consA (cM (.str "sum")) (consA (tupM (consA (cM (.str "num")) (consA (cM (.int 1)) nilA))) (consA (cM (.int 5)) nilA)))) (consA (tupM (consA (cM (.str "sum")) (consA (cM (.int 5)) (consA (tupM (consA (cM (.str "num")) (consA (cM (.int 1)) nilA))) nilA)))) (consA (tupM (consA (cM (.str "ask")) (consA (cM (.str "coin")) (consA (cM (.str "num")) nilA)))) (consA (tupM (consA (cM (.str "let")) (consA (cM (.str "a")) (consA (cM (.int 1)) (consA (tupM (consA (cM (.str "num")) (consA (cM (.int 1)) nilA))) nilA))))) nilA)))))))
  (seqM (asgM 1 (op2 D.add (varM 1) (lstM (consA (tupM (consA (cM (.str "choose")) (consA (tupM (consA (cM (.str "num")) (consA (cM (.int 0)) nilA))) (consA (tupM (consA (cM (.str "num")) (consA (cM (.int 1)) nilA))) (consA (cM .non) nilA))))) (consA (tupM (consA (cM (.str "hand")) (consA (cM (.str "coin")) (consA (cM (.str "a")) (consA (tupM (consA (cM (.str "num")) (consA (cM (.int 1)) nilA))) (consA (lstM (consA (tupM (consA (cM (.str "num")) (consA (cM (.int 1)) nilA))) nilA)) nilA)))))) nilA)))))
  (seqM (asgM 1 (op2 D.add (varM 1) (lstM (consA (tupM (consA (cM (.str "sum")) nilA)) (consA (tupM (consA (cM (.str "")) (consA (cM (.int 1)) nilA))) (consA (tupM (consA (cM (.str "ask")) (consA (tupM (consA (cM (.str "line")) nilA)) (consA (tupM (consA (cM (.str "num")) (consA (cM (.int 1)) nilA))) nilA)))) (consA (tupM (consA (cM (.str "name")) (consA (cM .non) nilA))) (consA (tupM (consA (tupM (consA (cM (.str "num")) (consA (cM (.int 1)) nilA))) nilA)) nilA))))))))
  (seqM (asgM 1 (op2 D.add (varM 1) (lstM (consA (tupM (consA (cM (.str "hand")) (consA (cM (.str "coin")) (consA (cM (.str "A")) (consA (tupM (consA (cM (.str "num")) (consA (cM (.int 1)) nilA))) (consA (tupM (consA (cM (.str "num")) (consA (cM (.int 1)) nilA))) nilA)))))) (consA (tupM (consA (cM (.str "hand")) (consA (cM (.str "line")) (consA (cM .non) (consA (tupM (consA (cM (.str "num")) (consA (cM (.int 1)) nilA))) (consA (tupM (consA (cM (.str "num")) (consA (cM (.int 1)) nilA))) nilA)))))) nilA)))))
  (seqM (asgM 1 (op2 D.add (varM 1) (lstM (consA (tupM (consA (cM (.str "hand")) (consA (cM (.str "coin")) (consA (cM (.str "a1")) (consA (tupM (consA (cM (.str "num")) (consA (cM (.int 1)) nilA))) (consA (tupM (consA (cM (.str "num")) (consA (cM (.int 1)) nilA))) nilA)))))) (consA (tupM (consA (lstM (consA (cM (.str "num")) nilA)) (consA (cM (.int 1)) nilA))) (consA (tupM (consA (cM (.dct [])) (consA (cM (.int 1)) nilA))) (consA (tupM (consA (cM (.str "name")) (consA (lstM (consA (cM (.str "a")) nilA)) nilA))) nilA)))))))
  (seqM (asgM 1 (op2 D.add (varM 1) (lstM (consA (tupM (consA (cM (.str "ask")) (consA (lstM (consA (cM (.str "line")) nilA)) (consA (tupM (consA (cM (.str "num")) (consA (cM (.int 1)) nilA))) nilA)))) (consA (tupM (consA (cM (.str "hand")) (consA (cM (.dct [])) (consA (cM (.str "a")) (consA (tupM (consA (cM (.str "num")) (consA (cM (.int 1)) nilA))) (consA (tupM (consA (cM (.str "num")) (consA (cM (.int 1)) nilA))) nilA)))))) nilA)))))
  (seqM (asgM 1 (op2 D.add (varM 1) (lstM (consA (tupM (consA (cM (.str "let")) (consA (lstM (consA (cM (.str "a")) nilA)) (consA (tupM (consA (cM (.str "num")) (consA (cM (.int 1)) nilA))) (consA (tupM (consA (cM (.str "num")) (consA (cM (.int 1)) nilA))) nilA))))) nilA))))
  (retM (op2 D.ix (varM 1) (op2 D.mod (varM 0) (cbM bLen (consA (varM 1) nilA)))))))))))))))))))))
def m_l_bad : List D → R D := fnM 1 1 b_l_bad
theorem ok_l_bad {P : Program} {w : World} {K : PySem.W.Frag} {mg : Str → Option Value} {base : Heap} (T : Tx K mg w) {f : Addr} {fd : FuncData} (F : Fun K "_law_bad" "_law_bad" s_l_bad f fd) (hm : mg "_law_bad" = some (.ref f))  : FnI P w K mg base "_law_bad" 1 1 m_l_bad :=
  fn_ok F sc_l_bad rfl rfl hm (fun _ _ _ _ _ _ us hl => match us, hl with | [_], _ => rfl) (fun cdv A outer s H E hr =>
  (mss_cons (ms_set 1 (me_lst (ma_cons me_non (ma_cons me_int (ma_cons me_str (ma_cons (me_lst ma_nil) (ma_cons (me_tup ma_nil) (ma_cons (me_tup (ma_cons me_str ma_nil)) (ma_cons (me_tup (ma_cons me_str (ma_cons (me_neg me_int) ma_nil))) (ma_cons (me_tup (ma_cons me_str (ma_cons me_int ma_nil))) (ma_cons (me_tup (ma_cons me_str (ma_cons me_bl ma_nil))) (ma_cons (me_tup (ma_cons me_str (ma_cons me_str ma_nil))) (ma_cons (me_tup (ma_cons me_str (ma_cons me_non ma_nil))) ma_nil)))))))))))) sc_l_bad.nd)
  (mss_cons (ms_set 1 (me_op om_add (me_var 1) (me_lst (ma_cons (me_tup (ma_cons me_str (ma_cons me_int (ma_cons me_int ma_nil)))) (ma_cons (me_lst (ma_cons me_str (ma_cons me_int ma_nil))) (ma_cons (me_tup (ma_cons me_str (ma_cons me_str ma_nil))) (ma_cons (me_tup (ma_cons me_str (ma_cons me_str ma_nil))) (ma_cons (me_tup (ma_cons me_str (ma_cons me_str ma_nil))) (ma_cons (me_tup (ma_cons me_str (ma_cons me_str ma_nil))) ma_nil)))))))) sc_l_bad.nd)
  (mss_cons (ms_set 1 (me_op om_add (me_var 1) (me_lst (ma_cons (me_tup (ma_cons me_str (ma_cons me_int ma_nil))) (ma_cons (me_tup (ma_cons me_str (ma_cons me_str ma_nil))) (ma_cons (me_tup (ma_cons me_str ma_nil)) (ma_cons (me_tup (ma_cons me_str (ma_cons (me_tup (ma_cons me_str (ma_cons me_int ma_nil))) ma_nil))) (ma_cons (me_tup (ma_cons me_str (ma_cons (me_tup (ma_cons me_str (ma_cons me_int ma_nil))) (ma_cons (me_tup (ma_cons me_str (ma_cons me_int ma_nil))) ma_nil)))) ma_nil))))))) sc_l_bad.nd)
  (mss_cons (ms_set 1 (me_op om_add (me_var 1) (me_lst (ma_cons (me_tup (ma_cons me_str (ma_cons me_str (ma_cons (me_tup (ma_cons me_str (ma_cons me_int ma_nil))) ma_nil)))) (ma_cons (me_tup (ma_cons me_str (ma_cons me_str (ma_cons (me_tup (ma_cons me_str (ma_cons me_int ma_nil))) (ma_cons (me_tup (ma_cons me_str (ma_cons me_int ma_nil))) ma_nil))))) (ma_cons (me_tup (ma_cons me_str (ma_cons me_int (ma_cons (me_tup (ma_cons me_str (ma_cons me_int ma_nil))) (ma_cons (me_tup (ma_cons me_str (ma_cons me_int ma_nil))) ma_nil))))) ma_nil))))) sc_l_bad.nd)
  (mss_cons (ms_set 1 (me_op om_add (me_var 1) (me_lst (ma_cons (me_tup (ma_cons me_str (ma_cons me_str (ma_cons (me_tup (ma_cons me_str (ma_cons me_int ma_nil))) (ma_cons (me_tup (ma_cons me_str (ma_cons me_int ma_nil))) ma_nil))))) (ma_cons (me_tup (ma_cons me_str (ma_cons (me_tup (ma_cons me_str (ma_cons me_int ma_nil))) (ma_cons (me_tup (ma_cons me_str (ma_cons me_int ma_nil))) ma_nil)))) (ma_cons (me_tup (ma_cons me_str (ma_cons me_str ma_nil))) ma_nil))))) sc_l_bad.nd)
  (mss_cons (ms_set 1 (me_op om_add (me_var 1) (me_lst (ma_cons (me_tup (ma_cons me_str (ma_cons me_str (ma_cons (me_tup (ma_cons me_str (ma_cons me_int ma_nil))) ma_nil)))) (ma_cons (me_tup (ma_cons me_str (ma_cons me_non (ma_cons (me_tup (ma_cons me_str (ma_cons me_int ma_nil))) ma_nil)))) (ma_cons (me_tup (ma_cons me_str (ma_cons me_str (ma_cons (me_tup (ma_cons me_str (ma_cons me_int ma_nil))) ma_nil)))) (ma_cons (me_tup (ma_cons me_int (ma_cons me_int ma_nil))) ma_nil)))))) sc_l_bad.nd)
  (mss_cons (ms_set 1 (me_op om_add (me_var 1) (me_lst (ma_cons (me_tup (ma_cons me_str (ma_cons me_str (ma_cons (me_tup (ma_cons me_str (ma_cons me_int ma_nil))) ma_nil)))) (ma_cons (me_tup (ma_cons me_str (ma_cons me_str (ma_cons (me_tup (ma_cons me_str (ma_cons me_int ma_nil))) (ma_cons (me_tup (ma_cons me_str (ma_cons me_int ma_nil))) ma_nil))))) (ma_cons (me_tup (ma_cons me_str (ma_cons me_str (ma_cons me_str (ma_cons (me_tup (ma_cons me_str (ma_cons me_int ma_nil))) ma_nil))))) ma_nil))))) sc_l_bad.nd)
  (mss_cons (ms_set 1 (me_op om_add (me_var 1) (me_lst (ma_cons (me_tup (ma_cons me_str (ma_cons me_str (ma_cons me_str (ma_cons (me_tup (ma_cons me_str (ma_cons me_int ma_nil))) (ma_cons (me_tup (ma_cons me_str (ma_cons me_int ma_nil))) ma_nil)))))) (ma_cons (me_tup (ma_cons me_str (ma_cons me_str (ma_cons me_str (ma_cons (me_tup (ma_cons me_str (ma_cons me_int ma_nil))) (ma_cons (me_tup (ma_cons me_str (ma_cons me_int ma_nil))) ma_nil)))))) ma_nil)))) sc_l_bad.nd)
  (mss_cons (ms_set 1 (me_op om_add (me_var 1) (me_lst (ma_cons (me_tup (ma_cons me_str (ma_cons me_str (ma_cons me_int (ma_cons (me_tup (ma_cons me_str (ma_cons me_int ma_nil))) (ma_cons (me_tup (ma_cons me_str (ma_cons me_int ma_nil))) ma_nil)))))) (ma_cons (me_tup (ma_cons me_str (ma_cons me_int (ma_cons me_str (ma_cons (me_tup (ma_cons me_str (ma_cons me_int ma_nil))) (ma_cons (me_tup (ma_cons me_str (ma_cons me_int ma_nil))) ma_nil)))))) (ma_cons (me_tup (ma_cons me_non (ma_cons me_int ma_nil))) ma_nil))))) sc_l_bad.nd)
  (mss_cons (ms_set 1 (me_op om_add (me_var 1) (me_lst (ma_cons (me_tup (ma_cons me_str (ma_cons (me_tup (ma_cons me_str (ma_cons me_int ma_nil))) (ma_cons me_int ma_nil)))) (ma_cons (me_tup (ma_cons me_str (ma_cons me_int (ma_cons (me_tup (ma_cons me_str (ma_cons me_int ma_nil))) ma_nil)))) (ma_cons (me_tup (ma_cons me_str (ma_cons me_str (ma_cons me_str ma_nil)))) (ma_cons (me_tup (ma_cons me_str (ma_cons me_str (ma_cons me_int (ma_cons (me_tup (ma_cons me_str (ma_cons me_int ma_nil))) ma_nil))))) ma_nil)))))) sc_l_bad.nd)
  (mss_cons (ms_set 1 (me_op om_add (me_var 1) (me_lst (ma_cons (me_tup (ma_cons me_str (ma_cons (me_tup (ma_cons me_str (ma_cons me_int ma_nil))) (ma_cons (me_tup (ma_cons me_str (ma_cons me_int ma_nil))) (ma_cons me_non ma_nil))))) (ma_cons (me_tup (ma_cons me_str (ma_cons me_str (ma_cons me_str (ma_cons (me_tup (ma_cons me_str (ma_cons me_int ma_nil))) (ma_cons (me_lst (ma_cons (me_tup (ma_cons me_str (ma_cons me_int ma_nil))) ma_nil)) ma_nil)))))) ma_nil)))) sc_l_bad.nd)
  (mss_cons (ms_set 1 (me_op om_add (me_var 1) (me_lst (ma_cons (me_tup (ma_cons me_str ma_nil)) (ma_cons (me_tup (ma_cons me_str (ma_cons me_int ma_nil))) (ma_cons (me_tup (ma_cons me_str (ma_cons (me_tup (ma_cons me_str ma_nil)) (ma_cons (me_tup (ma_cons me_str (ma_cons me_int ma_nil))) ma_nil)))) (ma_cons (me_tup (ma_cons me_str (ma_cons me_non ma_nil))) (ma_cons (me_tup (ma_cons (me_tup (ma_cons me_str (ma_cons me_int ma_nil))) ma_nil)) ma_nil))))))) sc_l_bad.nd)
  (mss_cons (ms_set 1 (me_op om_add (me_var 1) (me_lst (ma_cons (me_tup (ma_cons me_str (ma_cons me_str (ma_cons me_str (ma_cons (me_tup (ma_cons me_str (ma_cons me_int ma_nil))) (ma_cons (me_tup (ma_cons me_str (ma_cons me_int ma_nil))) ma_nil)))))) (ma_cons (me_tup (ma_cons me_str (ma_cons me_str (ma_cons me_non (ma_cons (me_tup (ma_cons me_str (ma_cons me_int ma_nil))) (ma_cons (me_tup (ma_cons me_str (ma_cons me_int ma_nil))) ma_nil)))))) ma_nil)))) sc_l_bad.nd)
  (mss_cons (ms_set 1 (me_op om_add (me_var 1) (me_lst (ma_cons (me_tup (ma_cons me_str (ma_cons me_str (ma_cons me_str (ma_cons (me_tup (ma_cons me_str (ma_cons me_int ma_nil))) (ma_cons (me_tup (ma_cons me_str (ma_cons me_int ma_nil))) ma_nil)))))) (ma_cons (me_tup (ma_cons (me_lst (ma_cons me_str ma_nil)) (ma_cons me_int ma_nil))) (ma_cons (me_tup (ma_cons me_dict0 (ma_cons me_int ma_nil))) (ma_cons (me_tup (ma_cons me_str (ma_cons (me_lst (ma_cons me_str ma_nil)) ma_nil))) ma_nil)))))) sc_l_bad.nd)
  (mss_cons (ms_set 1 (me_op om_add (me_var 1) (me_lst (ma_cons (me_tup (ma_cons me_str (ma_cons (me_lst (ma_cons me_str ma_nil)) (ma_cons (me_tup (ma_cons me_str (ma_cons me_int ma_nil))) ma_nil)))) (ma_cons (me_tup (ma_cons me_str (ma_cons me_dict0 (ma_cons me_str (ma_cons (me_tup (ma_cons me_str (ma_cons me_int ma_nil))) (ma_cons (me_tup (ma_cons me_str (ma_cons me_int ma_nil))) ma_nil)))))) ma_nil)))) sc_l_bad.nd)
  (mss_cons (ms_set 1 (me_op om_add (me_var 1) (me_lst (ma_cons (me_tup (ma_cons me_str (ma_cons (me_lst (ma_cons me_str ma_nil)) (ma_cons (me_tup (ma_cons me_str (ma_cons me_int ma_nil))) (ma_cons (me_tup (ma_cons me_str (ma_cons me_int ma_nil))) ma_nil))))) ma_nil))) sc_l_bad.nd)
  (mss_one (ms_ret (me_ix (me_var 1) (me_op om_mod (me_var 0) (me_cb cb_len rfl T.n_len PySem.boot_len (ma_cons (me_var 1) ma_nil)))))))))))))))))))))))
/-! form_of -/
abbrev s_form_of : Stmt := top 14
theorem sc_form_of : FnScope ["word"] ["word"] (defScope s_form_of) := ⟨rfl, rfl, rfl, by decide +kernel, rfl, by decide +kernel, by decide +kernel⟩
def b_form_of : Sl → O :=
  (seqM (ifS (asB (op2 D.isnt (cbM bType (consA (varM 0) nilA)) (cM (.ty "str"))))
  (retM (cM .non))
  nextM)
  (retM (kgetM t_FORMS (varM 0))))
def m_form_of : List D → R D := fnM 1 0 b_form_of
theorem ok_form_of {P : Program} {w : World} {K : PySem.W.Frag} {mg : Str → Option Value} {base : Heap} (T : Tx K mg w) {f : Addr} {fd : FuncData} (F : Fun K "form_of" "form_of" s_form_of f fd) (hm : mg "form_of" = some (.ref f))  : FnI P w K mg base "form_of" 1 1 m_form_of :=
  fn_ok F sc_form_of rfl rfl hm (fun _ _ _ _ _ _ us hl => match us, hl with | [_], _ => rfl) (fun cdv A outer s H E hr =>
  (mss_cons (ms_if (mt_cmp om_isnt (me_cty cb_type rfl T.n_type (by decide +kernel) (ma_cons (me_var 0) ma_nil)) (me_bltn (v := .ty "str") rfl T.n_str (by decide +kernel) rfl (fun _ _ => .ty _)) (nomark _))
  (mss_one (ms_ret me_non))
  mss_nil)
  (mss_one (ms_ret (T.get_FORMS rfl (me_var 0) ⟨rfl, rfl, rfl, rfl⟩)))))
/-! is_number -/
abbrev s_is_number : Stmt := top 16
theorem sc_is_number : FnScope ["value"] ["value"] (defScope s_is_number) := ⟨rfl, rfl, rfl, by decide +kernel, rfl, by decide +kernel, by decide +kernel⟩
def b_is_number : Sl → O :=
  (retM (andV (op2 D.is (cbM bType (consA (varM 0) nilA)) (cM (.ty "int"))) (chM D.le D.le (cM (.int 0)) (varM 0) (cM c_LARGEST_NUMBER))))
def m_is_number : List D → R D := fnM 1 0 b_is_number
theorem ok_is_number {P : Program} {w : World} {K : PySem.W.Frag} {mg : Str → Option Value} {base : Heap} (T : Tx K mg w) {f : Addr} {fd : FuncData} (F : Fun K "is_number" "is_number" s_is_number f fd) (hm : mg "is_number" = some (.ref f))  : FnI P w K mg base "is_number" 1 1 m_is_number :=
  fn_ok F sc_is_number rfl rfl hm (fun _ _ _ _ _ _ us hl => match us, hl with | [_], _ => rfl) (fun cdv A outer s H E hr =>
  (mss_one (ms_ret (me_and (me_cmp om_is (me_cty cb_type rfl T.n_type (by decide +kernel) (ma_cons (me_var 0) ma_nil)) (me_bltn (v := .ty "int") rfl T.n_int (by decide +kernel) rfl (fun _ _ => .ty _)) (nomark _)) (me_one (me_chain om_le om_le me_int (me_var 0) (T.e_LARGEST_NUMBER rfl)))))))
/-! is_name -/
abbrev s_is_name : Stmt := top 17
theorem sc_is_name : FnScope ["value", "letter"] ["value"] (defScope s_is_name) := ⟨rfl, rfl, rfl, by decide +kernel, rfl, by decide +kernel, by decide +kernel⟩
def le_is_name_0 : Sl → R D :=
  (chM D.le D.le (cM (.str "a")) (varM 1) (cM (.str "z")))
def b_is_name : Sl → O :=
  (seqM (ifS (orB (asB (op2 D.isnt (cbM bType (consA (varM 0) nilA)) (cM (.ty "str")))) (notB (asB (chM D.le D.le (cM (.int 1)) (cbM bLen (consA (varM 0) nilA)) (cM c_LONGEST_NAME)))))
  (retM (cM (.bl false)))
  nextM)
  (retM (cbM bAll (consA (lcM (itM (varM 0)) [1] (tgN 1) yesM le_is_name_0) nilA))))
def m_is_name : List D → R D := fnM 1 1 b_is_name
theorem ok_is_name {P : Program} {w : World} {K : PySem.W.Frag} {mg : Str → Option Value} {base : Heap} (T : Tx K mg w) {f : Addr} {fd : FuncData} (F : Fun K "is_name" "is_name" s_is_name f fd) (hm : mg "is_name" = some (.ref f))  : FnI P w K mg base "is_name" 1 1 m_is_name :=
  fn_ok F sc_is_name rfl rfl hm (fun _ _ _ _ _ _ us hl => match us, hl with | [_], _ => rfl) (fun cdv A outer s H E hr =>
  (mss_cons (ms_if (MW.mt (mw_or (mt_cmp om_isnt (me_cty cb_type rfl T.n_type (by decide +kernel) (ma_cons (me_var 0) ma_nil)) (me_bltn (v := .ty "str") rfl T.n_str (by decide +kernel) rfl (fun _ _ => .ty _)) (nomark _)) (mw_or1 (mt_not (mt_chain om_le om_le me_int (me_cb cb_len rfl T.n_len PySem.boot_len (ma_cons (me_var 0) ma_nil)) (T.e_LONGEST_NAME rfl))))))
  (mss_one (ms_ret me_bl))
  mss_nil)
  (mss_one (ms_ret (me_cb (cb_all rfl) rfl T.n_all (by decide +kernel) (ma_cons (me_lc 1 rfl sc_is_name.nd (mi_any (me_var 0)) (blkOk_by (N := ["value", "letter"]) (sc := defScope s_is_name) (by decide +kernel)) (fun _ _ _ _ _ => pg_name (i := 1) sc_is_name.nd rfl (Or.inl rfl)) (fun _ _ _ _ _ => (me_chain om_le om_le me_str (me_var 1) me_str))) ma_nil))))))
/-! is_kind -/
abbrev s_is_kind : Stmt := top 18
theorem sc_is_kind : FnScope ["value"] ["value"] (defScope s_is_kind) := ⟨rfl, rfl, rfl, by decide +kernel, rfl, by decide +kernel, by decide +kernel⟩
def b_is_kind : Sl → O :=
  (retM (andV (op2 D.is (cbM bType (consA (varM 0) nilA)) (cM (.ty "str"))) (op2 (D.inn false) (varM 0) (cM c_KINDS))))
def m_is_kind : List D → R D := fnM 1 0 b_is_kind
theorem ok_is_kind {P : Program} {w : World} {K : PySem.W.Frag} {mg : Str → Option Value} {base : Heap} (T : Tx K mg w) {f : Addr} {fd : FuncData} (F : Fun K "is_kind" "is_kind" s_is_kind f fd) (hm : mg "is_kind" = some (.ref f))  : FnI P w K mg base "is_kind" 1 1 m_is_kind :=
  fn_ok F sc_is_kind rfl rfl hm (fun _ _ _ _ _ _ us hl => match us, hl with | [_], _ => rfl) (fun cdv A outer s H E hr =>
  (mss_one (ms_ret (me_and (me_cmp om_is (me_cty cb_type rfl T.n_type (by decide +kernel) (ma_cons (me_var 0) ma_nil)) (me_bltn (v := .ty "str") rfl T.n_str (by decide +kernel) rfl (fun _ _ => .ty _)) (nomark _)) (me_one (me_cmp om_in (me_var 0) (T.e_KINDS rfl) (by rfl)))))))
/-! fits -/
abbrev s_fits : Stmt := top 15
theorem sc_fits : FnScope ["wanted", "part"] ["wanted", "part"] (defScope s_fits) := ⟨rfl, rfl, rfl, by decide +kernel, rfl, by decide +kernel, by decide +kernel⟩
def b_fits : Sl → O :=
  (seqM (ifS (asB (op2 D.eq (varM 0) (cM (.str "number"))))
  (retM (callM 1 m_is_number (consA (varM 1) nilA)))
  nextM)
  (seqM (ifS (asB (op2 D.eq (varM 0) (cM (.str "name"))))
  (retM (callM 1 m_is_name (consA (varM 1) nilA)))
  nextM)
  (seqM (ifS (asB (op2 D.eq (varM 0) (cM (.str "kind"))))
  (retM (callM 1 m_is_kind (consA (varM 1) nilA)))
  nextM)
  (retM (cM (.bl true))))))
def m_fits : List D → R D := fnM 2 0 b_fits
theorem ok_fits {P : Program} {w : World} {K : PySem.W.Frag} {mg : Str → Option Value} {base : Heap} (T : Tx K mg w) {f : Addr} {fd : FuncData} (F : Fun K "fits" "fits" s_fits f fd) (hm : mg "fits" = some (.ref f)) (G_is_number : FnI P w K mg base "is_number" 1 1 m_is_number) (G_is_name : FnI P w K mg base "is_name" 1 1 m_is_name) (G_is_kind : FnI P w K mg base "is_kind" 1 1 m_is_kind) : FnI P w K mg base "fits" 2 2 m_fits :=
  fn_ok F sc_fits rfl rfl hm (fun _ _ _ _ _ _ us hl => match us, hl with | [_, _], _ => rfl) (fun cdv A outer s H E hr =>
  (mss_cons (ms_if (mt_cmp om_eq (me_var 0) me_str (nomark _))
  (mss_one (ms_ret (me_call (G_is_number.mono (by decide)) hr (passW_of (takes_of rfl rfl rfl rfl)) rfl (ma_cons (me_var 1) ma_nil))))
  mss_nil)
  (mss_cons (ms_if (mt_cmp om_eq (me_var 0) me_str (nomark _))
  (mss_one (ms_ret (me_call (G_is_name.mono (by decide)) hr (passW_of (takes_of rfl rfl rfl rfl)) rfl (ma_cons (me_var 1) ma_nil))))
  mss_nil)
  (mss_cons (ms_if (mt_cmp om_eq (me_var 0) me_str (nomark _))
  (mss_one (ms_ret (me_call (G_is_kind.mono (by decide)) hr (passW_of (takes_of rfl rfl rfl rfl)) rfl (ma_cons (me_var 1) ma_nil))))
  mss_nil)
  (mss_one (ms_ret me_bl))))))
/-! check_form -/
abbrev s_check_form : Stmt := top 13
theorem sc_check_form : FnScope ["piece", "form", "wanted", "part"] ["piece"] (defScope s_check_form) := ⟨rfl, rfl, rfl, by decide +kernel, rfl, by decide +kernel, by decide +kernel⟩
def lb_check_form_0 : Sl → O :=
  (ifS (notB (asB (callM 2 m_fits (consA (varM 2) (consA (varM 3) nilA)))))
  (raiseM "BadPiece" (consA (jsM (consJ (cM (.str "no ")) (consJ (fmtM (varM 2)) (consJ (cM (.str " stands where a ")) (consJ (fmtM (op2 D.ix (varM 0) (cM (.int 0)))) (consJ (cM (.str " has one")) nilJ)))))) nilA))
  nextM)
def b_check_form : Sl → O :=
  (seqM (ifS (orB (asB (op2 D.isnt (cbM bType (consA (varM 0) nilA)) (cM (.ty "tuple")))) (asB (op2 D.eq (cbM bLen (consA (varM 0) nilA)) (cM (.int 0)))))
  (raiseM "BadPiece" (consA (cM (.str "a piece is a tuple that begins with a word")) nilA))
  nextM)
  (seqM (asgM 1 (callM 1 m_form_of (consA (op2 D.ix (varM 0) (cM (.int 0))) nilA)))
  (seqM (ifS (asB (op2 D.is (varM 1) (cM .non)))
  (raiseM "BadPiece" (consA (cM (.str "the first word is none of the seven")) nilA))
  nextM)
  (seqM (ifS (asB (op2 D.ne (cbM bLen (consA (varM 0) nilA)) (op2 D.add (cM (.int 1)) (cbM bLen (consA (varM 1) nilA)))))
  (raiseM "BadPiece" (consA (jsM (consJ (cM (.str "a ")) (consJ (fmtM (op2 D.ix (varM 0) (cM (.int 0)))) (consJ (cM (.str " has ")) (consJ (fmtM (cbM bLen (consA (varM 1) nilA))) (consJ (cM (.str " behind its first word")) nilJ)))))) nilA))
  nextM)
  (forM (zipM (consA (varM 1) (consA (slM (varM 0) (someM (cM (.int 1))) noM) nilA))) (tg2 (tgN 2) (tgN 3))
  lb_check_form_0)))))
def m_check_form : List D → R D := fnM 1 3 b_check_form
theorem ok_check_form {P : Program} {w : World} {K : PySem.W.Frag} {mg : Str → Option Value} {base : Heap} (T : Tx K mg w) {f : Addr} {fd : FuncData} (F : Fun K "check_form" "check_form" s_check_form f fd) (hm : mg "check_form" = some (.ref f)) (G_form_of : FnI P w K mg base "form_of" 1 1 m_form_of) (G_fits : FnI P w K mg base "fits" 2 2 m_fits) : FnI P w K mg base "check_form" 3 1 m_check_form :=
  fn_ok F sc_check_form rfl rfl hm (fun _ _ _ _ _ _ us hl => match us, hl with | [_], _ => rfl) (fun cdv A outer s H E hr =>
  (mss_cons (ms_if (MW.mt (mw_or (mt_cmp om_isnt (me_cty cb_type rfl T.n_type (by decide +kernel) (ma_cons (me_var 0) ma_nil)) (me_bltn (v := .ty "tuple") rfl T.n_tuple (by decide +kernel) rfl (fun _ _ => .ty _)) (nomark _)) (mw_or1 (mt_cmp om_eq (me_cb cb_len rfl T.n_len PySem.boot_len (ma_cons (me_var 0) ma_nil)) me_int (nomark _)))))
  (mss_one (ms_raise PySem.F.excBase_ValueError T.x_BadPiece T.g_BadPiece T.k_BadPiece (raises_own T.b_BadPiece T.t_BadPiece) rfl (takes_of rfl rfl rfl rfl) rfl (ma_cons me_str ma_nil)))
  mss_nil)
  (mss_cons (ms_set 1 (me_call (G_form_of.mono (by decide)) hr (passW_of (takes_of rfl rfl rfl rfl)) rfl (ma_cons (me_ix (me_var 0) me_int) ma_nil)) sc_check_form.nd)
  (mss_cons (ms_if (mt_cmp om_is (me_var 1) me_non (nomark _))
  (mss_one (ms_raise PySem.F.excBase_ValueError T.x_BadPiece T.g_BadPiece T.k_BadPiece (raises_own T.b_BadPiece T.t_BadPiece) rfl (takes_of rfl rfl rfl rfl) rfl (ma_cons me_str ma_nil)))
  mss_nil)
  (mss_cons (ms_if (mt_cmp om_ne (me_cb cb_len rfl T.n_len PySem.boot_len (ma_cons (me_var 0) ma_nil)) (me_op om_add me_int (me_cb cb_len rfl T.n_len PySem.boot_len (ma_cons (me_var 1) ma_nil))) (nomark _))
  (mss_one (ms_raise PySem.F.excBase_ValueError T.x_BadPiece T.g_BadPiece T.k_BadPiece (raises_own T.b_BadPiece T.t_BadPiece) rfl (takes_of rfl rfl rfl rfl) rfl (ma_cons (me_js (mj_cons me_str (mj_cons (me_fmt (me_ix (me_var 0) me_int)) (mj_cons me_str (mj_cons (me_fmt (me_cb cb_len rfl T.n_len PySem.boot_len (ma_cons (me_var 1) ma_nil))) (mj_cons me_str mj_nil)))))) ma_nil)))
  mss_nil)
  (mss_one (ms_for (passes_of rfl) rfl (mi_zip rfl T.n_zip (ma_cons (me_var 1) (ma_cons (me_sl (me_var 0) (mo_some me_int) mo_none) ma_nil))) (mg_two rfl (mg_name 2 sc_check_form.nd) (mg_name 3 sc_check_form.nd))
  (mss_one (ms_if (mt_not (mt_val (me_call (G_fits.mono (by decide)) hr (passW_of (takes_of rfl rfl rfl rfl)) rfl (ma_cons (me_var 2) (ma_cons (me_var 3) ma_nil)))))
  (mss_one (ms_raise PySem.F.excBase_ValueError T.x_BadPiece T.g_BadPiece T.k_BadPiece (raises_own T.b_BadPiece T.t_BadPiece) rfl (takes_of rfl rfl rfl rfl) rfl (ma_cons (me_js (mj_cons me_str (mj_cons (me_fmt (me_var 2)) (mj_cons me_str (mj_cons (me_fmt (me_ix (me_var 0) me_int)) (mj_cons me_str mj_nil)))))) ma_nil)))
  mss_nil)))))))))
/-! parts_with_names -/
abbrev s_parts_with_names : Stmt := top 19
theorem sc_parts_with_names : FnScope ["piece", "told", "word", "part"] ["piece", "told"] (defScope s_parts_with_names) := ⟨rfl, rfl, rfl, by decide +kernel, rfl, by decide +kernel, by decide +kernel⟩
def le_parts_with_names_0 : Sl → R D :=
  (tupM (consA (varM 3) (consA (varM 1) nilA)))
def b_parts_with_names : Sl → O :=
  (seqM (asgM 2 (op2 D.ix (varM 0) (cM (.int 0))))
  (seqM (ifS (asB (op2 D.eq (varM 2) (cM (.str "let"))))
  (retM (lstM (consA (tupM (consA (op2 D.ix (varM 0) (cM (.int 2))) (consA (varM 1) nilA))) (consA (tupM (consA (op2 D.ix (varM 0) (cM (.int 3))) (consA (op2 D.add (varM 1) (tupM (consA (op2 D.ix (varM 0) (cM (.int 1))) nilA))) nilA))) nilA))))
  nextM)
  (seqM (ifS (asB (op2 D.eq (varM 2) (cM (.str "hand"))))
  (retM (lstM (consA (tupM (consA (op2 D.ix (varM 0) (cM (.int 3))) (consA (op2 D.add (varM 1) (tupM (consA (op2 D.ix (varM 0) (cM (.int 2))) nilA))) nilA))) (consA (tupM (consA (op2 D.ix (varM 0) (cM (.int 4))) (consA (varM 1) nilA))) nilA))))
  nextM)
  (seqM (ifS (asB (op2 D.eq (varM 2) (cM (.str "ask"))))
  (retM (lstM (consA (tupM (consA (op2 D.ix (varM 0) (cM (.int 2))) (consA (varM 1) nilA))) nilA)))
  nextM)
  (seqM (ifS (orB (asB (op2 D.eq (varM 2) (cM (.str "sum")))) (asB (op2 D.eq (varM 2) (cM (.str "choose")))))
  (retM (lcM (itM (slM (varM 0) (someM (cM (.int 1))) noM)) [3] (tgN 3) yesM le_parts_with_names_0))
  nextM)
  (retM (lstM nilA)))))))
def m_parts_with_names : List D → R D := fnM 2 2 b_parts_with_names
theorem ok_parts_with_names {P : Program} {w : World} {K : PySem.W.Frag} {mg : Str → Option Value} {base : Heap} (T : Tx K mg w) {f : Addr} {fd : FuncData} (F : Fun K "parts_with_names" "parts_with_names" s_parts_with_names f fd) (hm : mg "parts_with_names" = some (.ref f))  : FnI P w K mg base "parts_with_names" 1 2 m_parts_with_names :=
  fn_ok F sc_parts_with_names rfl rfl hm (fun _ _ _ _ _ _ us hl => match us, hl with | [_, _], _ => rfl) (fun cdv A outer s H E hr =>
  (mss_cons (ms_set 2 (me_ix (me_var 0) me_int) sc_parts_with_names.nd)
  (mss_cons (ms_if (mt_cmp om_eq (me_var 2) me_str (nomark _))
  (mss_one (ms_ret (me_lst (ma_cons (me_tup (ma_cons (me_ix (me_var 0) me_int) (ma_cons (me_var 1) ma_nil))) (ma_cons (me_tup (ma_cons (me_ix (me_var 0) me_int) (ma_cons (me_op om_add (me_var 1) (me_tup (ma_cons (me_ix (me_var 0) me_int) ma_nil))) ma_nil))) ma_nil)))))
  mss_nil)
  (mss_cons (ms_if (mt_cmp om_eq (me_var 2) me_str (nomark _))
  (mss_one (ms_ret (me_lst (ma_cons (me_tup (ma_cons (me_ix (me_var 0) me_int) (ma_cons (me_op om_add (me_var 1) (me_tup (ma_cons (me_ix (me_var 0) me_int) ma_nil))) ma_nil))) (ma_cons (me_tup (ma_cons (me_ix (me_var 0) me_int) (ma_cons (me_var 1) ma_nil))) ma_nil)))))
  mss_nil)
  (mss_cons (ms_if (mt_cmp om_eq (me_var 2) me_str (nomark _))
  (mss_one (ms_ret (me_lst (ma_cons (me_tup (ma_cons (me_ix (me_var 0) me_int) (ma_cons (me_var 1) ma_nil))) ma_nil))))
  mss_nil)
  (mss_cons (ms_if (MW.mt (mw_or (mt_cmp om_eq (me_var 2) me_str (nomark _)) (mw_or1 (mt_cmp om_eq (me_var 2) me_str (nomark _)))))
  (mss_one (ms_ret (me_lc 3 rfl sc_parts_with_names.nd (mi_any (me_sl (me_var 0) (mo_some me_int) mo_none)) (blkOk_by (N := ["piece", "told", "word", "part"]) (sc := defScope s_parts_with_names) (by decide +kernel)) (fun _ _ _ _ _ => pg_name (i := 3) sc_parts_with_names.nd rfl (Or.inl rfl)) (fun _ _ _ _ _ => (me_tup (ma_cons (me_var 3) (ma_cons (me_var 1) ma_nil)))))))
  mss_nil)
  (mss_one (ms_ret (me_lst ma_nil)))))))))
/-! checked_at -/
abbrev s_checked_at : Stmt := top 12
theorem sc_checked_at : FnScope ["piece", "level", "told", "many", "part", "names"] ["piece", "level", "told"] (defScope s_checked_at) := ⟨rfl, rfl, rfl, by decide +kernel, rfl, by decide +kernel, by decide +kernel⟩
def lb_checked_at_0 (rec : List D → R D) : Sl → O :=
  (augM 3 (callM 3 rec (consA (varM 4) (consA (op2 D.add (varM 1) (cM (.int 1))) (consA (varM 5) nilA)))))
def b_checked_at (rec : List D → R D) : Sl → O :=
  (seqM (ifS (asB (op2 D.gt (varM 1) (cM c_DEEPEST_LEVEL)))
  (raiseM "TooTall" (consA (jsM (consJ (cM (.str "a piece stands at level ")) (consJ (fmtM (varM 1)) nilJ))) nilA))
  nextM)
  (seqM (dropM (callM 1 m_check_form (consA (varM 0) nilA)))
  (seqM (ifS (andB (asB (op2 D.eq (op2 D.ix (varM 0) (cM (.int 0))) (cM (.str "name")))) (asB (op2 (D.inn true) (op2 D.ix (varM 0) (cM (.int 1))) (varM 2))))
  (raiseM "BadName" (consA (jsM (consJ (cM (.str "no let or hand tells the name ")) (consJ (fmtM (op2 D.ix (varM 0) (cM (.int 1)))) nilJ))) nilA))
  nextM)
  (seqM (asgM 3 (cM (.int 1)))
  (seqM (forM (itM (callM 2 m_parts_with_names (consA (varM 0) (consA (varM 2) nilA)))) (tg2 (tgN 4) (tgN 5))
  (lb_checked_at_0 rec))
  (retM (varM 3)))))))
def m_checked_at : Nat → List D → R D
  | 0 => fun _ => .bad
  | k + 1 => fnM 3 3 (b_checked_at (m_checked_at k))
theorem body_checked_at {P : Program} {w : World} {K : PySem.W.Frag} {mg : Str → Option Value} {base : Heap} (T : Tx K mg w) {k : Nat} {mr : List D → R D} (G_check_form : FnI P w K mg base "check_form" 3 1 m_check_form) (G_parts_with_names : FnI P w K mg base "parts_with_names" 1 2 m_parts_with_names) (G_checked_at : FnI P w K mg base "checked_at" (k + 4) 3 mr) (cdv : Value) (f : Addr) (A : Around) (outer : List Env) (s : Shared) (H : Hp) (E : XK) (hr : Room (k + 4) (A.deeper (PyProof.Rows.envOfC "checked_at" (defScope s_checked_at) s.heap.objs.size f cdv))) :
    MSs (cxOf (L2.CX P w) P w K mg base ["piece", "level", "told", "many", "part", "names"] "checked_at" (defScope s_checked_at) f cdv A outer s H E) (fun cls d _ H' => E cls d H') (defBody s_checked_at) (b_checked_at mr) :=
  (mss_cons (ms_if (mt_cmp om_gt (me_var 1) (T.e_DEEPEST_LEVEL rfl) (nomark _))
  (mss_one (ms_raise PySem.F.excBase_ValueError T.x_TooTall T.g_TooTall T.k_TooTall (raises_own T.b_TooTall T.t_TooTall) rfl (takes_of rfl rfl rfl rfl) rfl (ma_cons (me_js (mj_cons me_str (mj_cons (me_fmt (me_var 1)) mj_nil))) ma_nil)))
  mss_nil)
  (mss_cons (ms_expr (me_call (G_check_form.mono (by omega)) hr (passW_of (takes_of rfl rfl rfl rfl)) rfl (ma_cons (me_var 0) ma_nil)))
  (mss_cons (ms_if (MW.mt (mw_and (mt_cmp om_eq (me_ix (me_var 0) me_int) me_str (nomark _)) (mw_and1 (mt_cmp om_notin (me_ix (me_var 0) me_int) (me_var 2) (by rfl)))))
  (mss_one (ms_raise PySem.F.excBase_ValueError T.x_BadName T.g_BadName T.k_BadName (raises_own T.b_BadName T.t_BadName) rfl (takes_of rfl rfl rfl rfl) rfl (ma_cons (me_js (mj_cons me_str (mj_cons (me_fmt (me_ix (me_var 0) me_int)) mj_nil))) ma_nil)))
  mss_nil)
  (mss_cons (ms_set 3 me_int sc_checked_at.nd)
  (mss_cons (ms_for (passes_of rfl) rfl (mi_any (me_call (G_parts_with_names.mono (by omega)) hr (passW_of (takes_of rfl rfl rfl rfl)) rfl (ma_cons (me_var 0) (ma_cons (me_var 2) ma_nil)))) (mg_two rfl (mg_name 4 sc_checked_at.nd) (mg_name 5 sc_checked_at.nd))
  (mss_one (ms_aug 3 (me_call G_checked_at hr (passW_of (takes_of rfl rfl rfl rfl)) rfl (ma_cons (me_var 4) (ma_cons (me_op om_add (me_var 1) me_int) (ma_cons (me_var 5) ma_nil)))) sc_checked_at.nd)))
  (mss_one (ms_ret (me_var 3))))))))
theorem ok_checked_at {P : Program} {w : World} {K : PySem.W.Frag} {mg : Str → Option Value} {base : Heap} (T : Tx K mg w) {f : Addr} {fd : FuncData} (F : Fun K "checked_at" "checked_at" s_checked_at f fd) (hm : mg "checked_at" = some (.ref f)) (G_check_form : FnI P w K mg base "check_form" 3 1 m_check_form) (G_parts_with_names : FnI P w K mg base "parts_with_names" 1 2 m_parts_with_names) : ∀ k : Nat, FnI P w K mg base "checked_at" (k + 4) 3 (m_checked_at k)
  | 0 => fn_none (ps := ["piece", "level", "told"]) F rfl hm (fun _ _ _ _ _ _ us hl => match us, hl with | [_, _, _], _ => rfl)
  | k + 1 => by
    have e : k + 1 + 4 = (k + 4) + 1 := by omega
    rw [e]
    exact fn_ok F sc_checked_at rfl rfl hm (fun _ _ _ _ _ _ us hl => match us, hl with | [_, _, _], _ => rfl) (fun cdv A outer s H E hr => body_checked_at T G_check_form G_parts_with_names (ok_checked_at T F hm G_check_form G_parts_with_names k) cdv f A outer s H E hr)
/-! checked -/
abbrev s_checked : Stmt := top 11
theorem sc_checked : FnScope ["piece"] ["piece"] (defScope s_checked) := ⟨rfl, rfl, rfl, by decide +kernel, rfl, by decide +kernel, by decide +kernel⟩
def b_checked : Sl → O :=
  (retM (callM 3 (m_checked_at 40) (consA (varM 0) (consA (cM (.int 1)) (consA (tupM nilA) nilA)))))
def m_checked : List D → R D := fnM 1 0 b_checked
theorem ok_checked {P : Program} {w : World} {K : PySem.W.Frag} {mg : Str → Option Value} {base : Heap} (T : Tx K mg w) {f : Addr} {fd : FuncData} (F : Fun K "checked" "checked" s_checked f fd) (hm : mg "checked" = some (.ref f)) (G_checked_at : FnI P w K mg base "checked_at" 44 3 (m_checked_at 40)) : FnI P w K mg base "checked" 45 1 m_checked :=
  fn_ok F sc_checked rfl rfl hm (fun _ _ _ _ _ _ us hl => match us, hl with | [_], _ => rfl) (fun cdv A outer s H E hr =>
  (mss_one (ms_ret (me_call (G_checked_at.mono (by decide)) hr (passW_of (takes_of rfl rfl rfl rfl)) rfl (ma_cons (me_var 0) (ma_cons me_int (ma_cons (me_tup ma_nil) ma_nil)))))))
/-! l_level -/
abbrev s_l_level : Stmt := top 25
theorem sc_l_level : FnScope ["_law_way", "_law_name", "_law_kind", "_law_inner", "_law_other"] ["_law_way", "_law_name", "_law_kind", "_law_inner", "_law_other"] (defScope s_l_level) := ⟨rfl, rfl, rfl, by decide +kernel, rfl, by decide +kernel, by decide +kernel⟩
def b_l_level : Sl → O :=
  (seqM (ifS (asB (op2 D.lt (varM 0) (cM (.int 2))))
  (retM (op2 D.ix (lstM (consA (tupM (consA (cM (.str "sum")) (consA (varM 3) (consA (varM 4) nilA)))) (consA (tupM (consA (cM (.str "sum")) (consA (varM 4) (consA (varM 3) nilA)))) nilA))) (varM 0)))
  nextM)
  (seqM (ifS (asB (op2 D.lt (varM 0) (cM (.int 4))))
  (retM (op2 D.ix (lstM (consA (tupM (consA (cM (.str "let")) (consA (varM 1) (consA (varM 3) (consA (varM 4) nilA))))) (consA (tupM (consA (cM (.str "let")) (consA (varM 1) (consA (varM 4) (consA (varM 3) nilA))))) nilA))) (op2 D.sub (varM 0) (cM (.int 2)))))
  nextM)
  (seqM (ifS (asB (op2 D.eq (varM 0) (cM (.int 4))))
  (retM (tupM (consA (cM (.str "choose")) (consA (varM 3) (consA (varM 4) (consA (varM 4) nilA))))))
  nextM)
  (seqM (ifS (asB (op2 D.lt (varM 0) (cM (.int 7))))
  (retM (op2 D.ix (lstM (consA (tupM (consA (cM (.str "choose")) (consA (varM 4) (consA (varM 3) (consA (varM 4) nilA))))) (consA (tupM (consA (cM (.str "choose")) (consA (varM 4) (consA (varM 4) (consA (varM 3) nilA))))) nilA))) (op2 D.sub (varM 0) (cM (.int 5)))))
  nextM)
  (seqM (ifS (asB (op2 D.eq (varM 0) (cM (.int 7))))
  (retM (tupM (consA (cM (.str "ask")) (consA (varM 2) (consA (varM 3) nilA)))))
  nextM)
  (retM (op2 D.ix (lstM (consA (tupM (consA (cM (.str "hand")) (consA (varM 2) (consA (varM 1) (consA (varM 3) (consA (varM 4) nilA)))))) (consA (tupM (consA (cM (.str "hand")) (consA (varM 2) (consA (varM 1) (consA (varM 4) (consA (varM 3) nilA)))))) nilA))) (op2 D.sub (varM 0) (cM (.int 8))))))))))
def m_l_level : List D → R D := fnM 5 0 b_l_level
theorem ok_l_level {P : Program} {w : World} {K : PySem.W.Frag} {mg : Str → Option Value} {base : Heap} (T : Tx K mg w) {f : Addr} {fd : FuncData} (F : Fun K "_law_level" "_law_level" s_l_level f fd) (hm : mg "_law_level" = some (.ref f))  : FnI P w K mg base "_law_level" 1 5 m_l_level :=
  fn_ok F sc_l_level rfl rfl hm (fun _ _ _ _ _ _ us hl => match us, hl with | [_, _, _, _, _], _ => rfl) (fun cdv A outer s H E hr =>
  (mss_cons (ms_if (mt_cmp om_lt (me_var 0) me_int (nomark _))
  (mss_one (ms_ret (me_ix (me_lst (ma_cons (me_tup (ma_cons me_str (ma_cons (me_var 3) (ma_cons (me_var 4) ma_nil)))) (ma_cons (me_tup (ma_cons me_str (ma_cons (me_var 4) (ma_cons (me_var 3) ma_nil)))) ma_nil))) (me_var 0))))
  mss_nil)
  (mss_cons (ms_if (mt_cmp om_lt (me_var 0) me_int (nomark _))
  (mss_one (ms_ret (me_ix (me_lst (ma_cons (me_tup (ma_cons me_str (ma_cons (me_var 1) (ma_cons (me_var 3) (ma_cons (me_var 4) ma_nil))))) (ma_cons (me_tup (ma_cons me_str (ma_cons (me_var 1) (ma_cons (me_var 4) (ma_cons (me_var 3) ma_nil))))) ma_nil))) (me_op om_sub (me_var 0) me_int))))
  mss_nil)
  (mss_cons (ms_if (mt_cmp om_eq (me_var 0) me_int (nomark _))
  (mss_one (ms_ret (me_tup (ma_cons me_str (ma_cons (me_var 3) (ma_cons (me_var 4) (ma_cons (me_var 4) ma_nil)))))))
  mss_nil)
  (mss_cons (ms_if (mt_cmp om_lt (me_var 0) me_int (nomark _))
  (mss_one (ms_ret (me_ix (me_lst (ma_cons (me_tup (ma_cons me_str (ma_cons (me_var 4) (ma_cons (me_var 3) (ma_cons (me_var 4) ma_nil))))) (ma_cons (me_tup (ma_cons me_str (ma_cons (me_var 4) (ma_cons (me_var 4) (ma_cons (me_var 3) ma_nil))))) ma_nil))) (me_op om_sub (me_var 0) me_int))))
  mss_nil)
  (mss_cons (ms_if (mt_cmp om_eq (me_var 0) me_int (nomark _))
  (mss_one (ms_ret (me_tup (ma_cons me_str (ma_cons (me_var 2) (ma_cons (me_var 3) ma_nil))))))
  mss_nil)
  (mss_one (ms_ret (me_ix (me_lst (ma_cons (me_tup (ma_cons me_str (ma_cons (me_var 2) (ma_cons (me_var 1) (ma_cons (me_var 3) (ma_cons (me_var 4) ma_nil)))))) (ma_cons (me_tup (ma_cons me_str (ma_cons (me_var 2) (ma_cons (me_var 1) (ma_cons (me_var 4) (ma_cons (me_var 3) ma_nil)))))) ma_nil))) (me_op om_sub (me_var 0) me_int))))))))))
/-! l_whole -/
abbrev s_l_whole : Stmt := top 23
theorem sc_l_whole : FnScope ["_law_found"] ["_law_found"] (defScope s_l_whole) := ⟨rfl, rfl, rfl, by decide +kernel, rfl, by decide +kernel, by decide +kernel⟩
def b_l_whole : Sl → O :=
  (retM (andV (cbM bIsi (consA (varM 0) (consA (cM (.ty "int")) nilA))) (notV (cbM bIsi (consA (varM 0) (consA (cM (.ty "bool")) nilA))))))
def m_l_whole : List D → R D := fnM 1 0 b_l_whole
theorem ok_l_whole {P : Program} {w : World} {K : PySem.W.Frag} {mg : Str → Option Value} {base : Heap} (T : Tx K mg w) {f : Addr} {fd : FuncData} (F : Fun K "_law_whole" "_law_whole" s_l_whole f fd) (hm : mg "_law_whole" = some (.ref f))  : FnI P w K mg base "_law_whole" 1 1 m_l_whole :=
  fn_ok F sc_l_whole rfl rfl hm (fun _ _ _ _ _ _ us hl => match us, hl with | [_], _ => rfl) (fun cdv A outer s H E hr =>
  (mss_one (ms_ret (me_and (me_cb cb_isi rfl T.n_isinstance (by decide +kernel) (ma_cons (me_var 0) (ma_cons (me_bltn (v := .ty "int") rfl T.n_int (by decide +kernel) rfl (fun _ _ => .ty _)) ma_nil))) (me_one (me_not (me_cb cb_isi rfl T.n_isinstance (by decide +kernel) (ma_cons (me_var 0) (ma_cons (me_bltn (v := .ty "bool") rfl T.n_bool (by decide +kernel) rfl (fun _ _ => .ty _)) ma_nil)))))))))
/-! USES: !AskError !BadPiece !BadName !TooTall int isinstance ValueError -/
abbrev s_l_refusal : Stmt := top 24
theorem sc_l_refusal : FnScope ["_law_piece", "e", "_law_found"] ["_law_piece"] (defScope s_l_refusal) := ⟨rfl, rfl, rfl, by decide +kernel, rfl, by decide +kernel, by decide +kernel⟩
/-- what the law says of a refusal -/
def ansE (c : Str) : R D := if c = "BadPiece" then .ok (.str "piece") else if c = "BadName" then .ok (.str "name") else if c = "TooTall" then .ok (.str "tall") else .bad
def refOf : R D → R D
  | .ok _ => .ok (.str "")
  | .err c => ansE c
  | .bad => .bad
def m_l_refusal : List D → R D
  | [p] => refOf (m_checked [p])
  | _ => .bad
section
variable {P : Program} {w : World} {K : PySem.W.Frag} {mg : Str → Option Value} {base : Heap}
def suiteM (T : Tx K mg w) (Dc a : Addr) : Sl → O :=
  (seqM (asgM 2 (op2 D.add (op2 D.mul (cM (.str "piece")) (cbM bInt (consA (cbM (bIsE K Dc a) (consA (varM 1) (consA (cM (.own T.a_BadPiece)) nilA))) nilA))) (op2 D.mul (cM (.str "name")) (cbM bInt (consA (cbM (bIsE K Dc a) (consA (varM 1) (consA (cM (.own T.a_BadName)) nilA))) nilA)))))
    (retM (op2 D.add (op2 D.add (varM 2) (op2 D.mul (cM (.str "tall")) (cbM bInt (consA (cbM (bIsE K Dc a) (consA (varM 1) (consA (cM (.own T.a_TooTall)) nilA))) nilA)))) (op2 D.mul (cM (.str "none")) (cbM bInt (consA (notV (cbM (bIsE K Dc a) (consA (varM 1) (consA (cM (.ty "ValueError")) nilA)))) nilA))))))
def refBody : List Stmt := match defBody s_l_refusal with
  | .Try _ [.ExceptHandler _ _ b _] _ _ _ :: _ => b
  | _ => []
abbrev refX (P : Program) (w : World) (K : PySem.W.Frag) (mg : Str → Option Value) (base : Heap) (f : Addr) (cdv : Value) (A : Around) (outer : List Env) (s : Shared) (H : Hp) (E : XK) : Cx := cxOf (L2.CX P w) P w K mg base ["_law_piece", "e", "_law_found"] "_law_refusal" (defScope s_l_refusal) f cdv A outer s H E
theorem suite_ok (T : Tx K mg w) {f : Addr} {cdv : Value} {A : Around} {outer : List Env} {s : Shared} {H : Hp} {E : XK} {Dc a : Addr} {oe : Obj} {pn : List (Addr × Obj)} (C : ExcC K Dc) (hz : Zc (.ref Dc) none oe) (hf : ∃ vs, oe.data = .fields vs) :
    MSs ((refX P w K mg base f cdv A outer s H E).suite a ((a, oe) :: pn)) W0 refBody (suiteM T Dc a) :=
  (mss_cons (ms_set 2 (me_op om_add (me_op om_mul me_str (me_cty cb_int rfl T.n_int (by decide +kernel) (ma_cons (me_cb (cb_isE C hz hf) rfl T.n_isinstance (by decide +kernel) (ma_cons (me_var 1) (ma_cons (me_glob (v := .ref _) rfl T.g_BadPiece rfl (fun _ _ => .own _)) ma_nil))) ma_nil)))
      (me_op om_mul me_str (me_cty cb_int rfl T.n_int (by decide +kernel) (ma_cons (me_cb (cb_isE C hz hf) rfl T.n_isinstance (by decide +kernel) (ma_cons (me_var 1) (ma_cons (me_glob (v := .ref _) rfl T.g_BadName rfl (fun _ _ => .own _)) ma_nil))) ma_nil)))) sc_l_refusal.nd)
    (mss_one (ms_ret (me_op om_add (me_op om_add (me_var 2) (me_op om_mul me_str (me_cty cb_int rfl T.n_int (by decide +kernel) (ma_cons (me_cb (cb_isE C hz hf) rfl T.n_isinstance (by decide +kernel) (ma_cons (me_var 1) (ma_cons (me_glob (v := .ref _) rfl T.g_TooTall rfl (fun _ _ => .own _)) ma_nil))) ma_nil))))
      (me_op om_mul me_str (me_cty cb_int rfl T.n_int (by decide +kernel) (ma_cons (me_not (me_cb (cb_isE C hz hf) rfl T.n_isinstance (by decide +kernel) (ma_cons (me_var 1) (ma_cons (me_bltn (v := .ty "ValueError") rfl T.n_ValueError (by decide +kernel) rfl (fun _ _ => .ty _)) ma_nil)))) ma_nil)))))))
/-- what the suite comes to -/
theorem suite_val (T : Tx K mg w) (d : D) (a : Addr) {c : Str} {r : D} (h : ansE c = .ok r) : ∃ Dc, clsV mg c = .ref Dc ∧ ExcC K Dc ∧ PySem.W.exmOne K (.ref Dc) (.ref T.a_AskError) = some true ∧ suiteM T Dc a [some d, some (.own a), none] = .rt r := by
  have hE : ∀ {C : Addr}, PySem.W.subIn K (.ref C) (.ref T.a_AskError) = some true → PySem.W.exmOne K (.ref C) (.ref T.a_AskError) = some true := fun h => PySem.W.exm_ref T.b_AskError T.i_AskError.hd T.t_AskError h
  unfold ansE at h
  split at h
  · next e =>
    subst e
    cases h
    refine ⟨T.a_BadPiece, by unfold clsV; rw [T.g_BadPiece]; rfl, T.i_BadPiece, hE T.e_BadPiece_AskError, ?_⟩
    simp (decide := true) [suiteM, seqM, asgM, retM, op2, cM, cbM, consA, nilA, varM, notV, bIsE, bInt, D.mul, D.add, R.bind, R.of, toO, T.s_BadPiece_BadPiece, T.s_BadPiece_BadName, T.s_BadPiece_TooTall, T.s_BadPiece_ValueError]
  · split at h
    · next e =>
      subst e
      cases h
      refine ⟨T.a_BadName, by unfold clsV; rw [T.g_BadName]; rfl, T.i_BadName, hE T.e_BadName_AskError, ?_⟩
      simp (decide := true) [suiteM, seqM, asgM, retM, op2, cM, cbM, consA, nilA, varM, notV, bIsE, bInt, D.mul, D.add, R.bind, R.of, toO, T.s_BadName_BadPiece, T.s_BadName_BadName, T.s_BadName_TooTall, T.s_BadName_ValueError]
    · split at h
      · next e =>
        subst e
        cases h
        refine ⟨T.a_TooTall, by unfold clsV; rw [T.g_TooTall]; rfl, T.i_TooTall, hE T.e_TooTall_AskError, ?_⟩
        simp (decide := true) [suiteM, seqM, asgM, retM, op2, cM, cbM, consA, nilA, varM, notV, bIsE, bInt, D.mul, D.add, R.bind, R.of, toO, T.s_TooTall_BadPiece, T.s_TooTall_BadName, T.s_TooTall_TooTall, T.s_TooTall_ValueError]
      · cases h
theorem ok_l_refusal (T : Tx K mg w) {f : Addr} {fd : FuncData} (F : Fun K "_law_refusal" "_law_refusal" s_l_refusal f fd) (hm : mg "_law_refusal" = some (.ref f)) (G_checked : FnI P w K mg base "checked" 45 1 m_checked) : FnI P w K mg base "_law_refusal" 46 1 m_l_refusal := by
  refine ⟨f, fd, ["_law_piece"], rfl, hm, F.kp, F.binds (fun _ _ _ _ _ _ us hl => match us, hl with | [_], _ => rfl), F.okX sc_l_refusal (fun vs H Q E h => ?_) fun cdv A outer s H vs Q E hr h => ?_⟩
  · obtain ⟨B, ds, _, hl, r, _⟩ := h
    rw [r.length, hl]
    rfl
  · obtain ⟨B, ds, hB, hl, r, q⟩ := h
    refine ⟨_, pss_cons (ps_try_as (i := 1) (tb := fun W => tDrop (teOf K mg W (callM 1 m_checked (consA (varM 0) nilA))))
        (ts := fun a cls dd E' σ H' => ∃ Dc, cls = .ref Dc ∧ dd = none ∧ ExcC K Dc ∧ tsOf K mg W0 (suiteM T Dc a) E' σ H') rfl rfl sc_l_refusal.nd rfl rfl ⟨rfl, by decide, .inl T.g_AskError⟩ (takes_of rfl rfl rfl rfl)
        (fun W pn xe tk _ => pss_one (ps_expr (ME.pe (X := (refX P w K mg base f cdv A outer s H E).tr pn xe) (me_call G_checked hr (passW_of tk) rfl (ma_cons (me_var 0) ma_nil)))))
        (fun a oe cls dd pn hz hf => ⟨fun pins s1 σ H' E' I ⟨Dc, e1, e2, C, z⟩ => by
          subst e1 e2
          exact (suite_ok T C hz hf).pss.run pins s1 σ H' E' I z⟩))
      (pss_one (ps_ret pe_str)), ?_⟩
    have rs := rs_start (N := ["_law_piece", "e", "_law_found"]) hB r
    match ds, hl with
    | [d], _ =>
      refine ⟨_, B, rs, ?_⟩
      have e0 : callM 1 m_checked (consA (varM 0) nilA) [some d, none, none] = m_checked [d] := rfl
      show Po (Rp K) mg _ _ B H _ (callM 1 m_checked (consA (varM 0) nilA) [some d, none, none])
      rw [e0]
      have q' : Po (Rp K) mg (fun cls d _ H' => E cls d H') [] B H Q (refOf (m_checked [d])) := q
      cases hc : m_checked [d] with
      | bad => rw [hc] at q'; exact q'.elim
      | ok v =>
        rw [hc] at q'
        exact fun u H1 e1 _ => q' _ H1 e1 (.str _)
      | err c =>
        rw [hc] at q'
        have q2 : Po (Rp K) mg (fun cls d _ H' => E cls d H') [] B H Q (ansE c) := q'
        cases ha : ansE c with
        | bad => rw [ha] at q2; exact q2.elim
        | err c' => unfold ansE at ha; split at ha <;> first | (cases ha; done) | (split at ha <;> first | (cases ha; done) | (split at ha <;> cases ha))
        | ok rr =>
          rw [ha] at q2
          obtain ⟨Dc, h1, h2, h3, _⟩ := suite_val T d 0 ha
          intro H1 e1
          rw [h1]
          refine ⟨true, h3, fun _ a hna => ⟨Dc, rfl, rfl, h2, [some d, some (.own a), none], B, ?_, ?_⟩, fun z => by cases z⟩
          · exact ((rs.mono e1).set (i := 1) (.own a))
          · obtain ⟨Dc', g1, _, _, g4⟩ := suite_val T d a ha
            rw [h1] at g1
            cases g1
            show PoS K mg W0 _ B H1 (suiteM T Dc a [some d, some (.own a), none])
            rw [g4]
            exact fun v H2 e2 r2 => q2 v H2 (e1.trans e2) r2
end
/-! l_holds -/
abbrev s_l_holds : Stmt := top 27
theorem sc_l_holds : FnScope ["_law_more", "_law_first", "_law_second", "_law_piece", "_law_due", "_law_many", "_law_levels", "_law_k", "_law_found", "_law_number", "_law_way", "_law_other", "_law_name"] ["_law_more", "_law_first", "_law_second"] (defScope s_l_holds) := ⟨rfl, rfl, rfl, by decide +kernel, rfl, by decide +kernel, by decide +kernel⟩
def lb_l_holds_0 : Sl → O :=
  (seqM (asgM 9 (callM 2 m_l_mixed (consA (varM 2) (consA (varM 7) nilA))))
  (seqM (asgM 10 (op2 D.mod (varM 9) (cM (.int 10))))
  (seqM (asgM 11 (tupM (consA (cM (.str "num")) (consA (varM 7) nilA))))
  (seqM (ifS (asB (op2 D.eq (op2 D.mod (op2 D.fdiv (varM 9) (cM (.int 10))) (op2 D.add (cM (.int 8)) (op2 D.mul (cM (.int 80)) (cbM bInt (consA (op2 D.gt (varM 6) (cM (.int 12))) nilA))))) (cM (.int 3))))
  (seqM (asgM 11 (tupM (consA (cM (.str "name")) (consA (cM (.str "abd")) nilA))))
  (ifS (andB (asB (op2 D.lt (op2 D.sub (varM 6) (varM 7)) (cM (.int 30)))) (orB (asB (op2 (D.inn false) (varM 10) (lstM (consA (cM (.int 1)) (consA (cM (.int 3)) (consA (cM (.int 5)) (consA (cM (.int 6)) (consA (cM (.int 9)) nilA)))))))) (andB (asB (op2 D.eq (varM 4) (cM (.str "")))) (asB (op2 D.ne (varM 10) (cM (.int 7)))))))
  (asgM 4 (cM (.str "name")))
  nextM))
  nextM)
  (seqM (asgM 12 (op2 D.ix (lstM (consA (cM (.str "a")) (consA (cM (.str "ab")) (consA (cM (.str "abc")) (consA (cM (.str "abdd")) (consA (cM (.str "bd")) (consA (cM (.str "abe")) (consA (cM (.str "d")) nilA)))))))) (op2 D.mod (op2 D.fdiv (varM 9) (cM (.int 80))) (cM (.int 7)))))
  (seqM (asgM 3 (callM 5 m_l_level (consA (varM 10) (consA (varM 12) (consA (op2 D.ix (lstM (consA (cM (.str "coin")) (consA (cM (.str "fail")) (consA (cM (.str "line")) nilA)))) (op2 D.mod (varM 7) (cM (.int 3)))) (consA (varM 3) (consA (varM 11) nilA)))))))
  (asgM 5 (op2 D.add (varM 5) (op2 D.ix (lstM (consA (cM (.int 2)) (consA (cM (.int 2)) (consA (cM (.int 2)) (consA (cM (.int 2)) (consA (cM (.int 3)) (consA (cM (.int 3)) (consA (cM (.int 3)) (consA (cM (.int 1)) (consA (cM (.int 2)) (consA (cM (.int 2)) nilA))))))))))) (varM 10))))))))))
def b_l_holds : Sl → O :=
  (seqM (asgM 3 (callM 1 m_l_bad (consA (varM 1) nilA)))
  (seqM (asgM 4 (cM (.str "piece")))
  (seqM (ifS (asB (op2 D.eq (op2 D.mod (varM 0) (cM (.int 8))) (cM (.int 5))))
  (seqM (asgM 3 (tupM (consA (cM (.str "num")) (consA (op2 D.mod (op2 D.fdiv (varM 0) (cM (.int 8))) (cM (.int 1000))) nilA))))
  (asgM 4 (cM (.str ""))))
  nextM)
  (seqM (asgM 5 (cM (.int 1)))
  (seqM (asgM 6 (op2 D.mod (op2 D.fdiv (varM 0) (cM (.int 24))) (cM (.int 13))))
  (seqM (ifS (asB (op2 D.eq (op2 D.mod (op2 D.fdiv (varM 0) (cM (.int 8))) (cM (.int 3))) (cM (.int 2))))
  (asgM 6 (op2 D.ix (lstM (consA (cM (.int 28)) (consA (cM (.int 30)) (consA (cM (.int 30)) (consA (cM (.int 31)) nilA))))) (op2 D.mod (op2 D.fdiv (varM 0) (cM (.int 24))) (cM (.int 4)))))
  nextM)
  (seqM (ifS (asB (op2 D.gt (varM 6) (cM (.int 29))))
  (asgM 4 (cM (.str "tall")))
  nextM)
  (seqM (forM (rngM (consA (varM 6) nilA)) (tgN 7)
  lb_l_holds_0)
  (seqM (ifS (asB (op2 D.ne (varM 4) (cM (.str ""))))
  (retM (op2 D.eq (callM 1 m_l_refusal (consA (varM 3) nilA)) (varM 4)))
  nextM)
  (seqM (asgM 8 (callM 1 m_checked (consA (varM 3) nilA)))
  (retM (andV (callM 1 m_l_whole (consA (varM 8) nilA)) (op2 D.eq (varM 8) (varM 5))))))))))))))
def m_l_holds : List D → R D := fnM 3 10 b_l_holds
theorem ok_l_holds {P : Program} {w : World} {K : PySem.W.Frag} {mg : Str → Option Value} {base : Heap} (T : Tx K mg w) {f : Addr} {fd : FuncData} (F : Fun K "_law_holds" "_law_holds" s_l_holds f fd) (hm : mg "_law_holds" = some (.ref f)) (G_l_bad : FnI P w K mg base "_law_bad" 1 1 m_l_bad) (G_checked : FnI P w K mg base "checked" 45 1 m_checked) (G_l_mixed : FnI P w K mg base "_law_mixed" 1 2 m_l_mixed) (G_l_level : FnI P w K mg base "_law_level" 1 5 m_l_level) (G_l_whole : FnI P w K mg base "_law_whole" 1 1 m_l_whole) (G_l_refusal : FnI P w K mg base "_law_refusal" 46 1 m_l_refusal) : FnI P w K mg base "_law_holds" 47 3 m_l_holds :=
  fn_ok F sc_l_holds rfl rfl hm (fun _ _ _ _ _ _ us hl => match us, hl with | [_, _, _], _ => rfl) (fun cdv A outer s H E hr =>
  (mss_cons (ms_set 3 (me_call (G_l_bad.mono (by decide)) hr (passW_of (takes_of rfl rfl rfl rfl)) rfl (ma_cons (me_var 1) ma_nil)) sc_l_holds.nd)
  (mss_cons (ms_set 4 me_str sc_l_holds.nd)
  (mss_cons (ms_if (mt_cmp om_eq (me_op om_mod (me_var 0) me_int) me_int (nomark _))
  (mss_cons (ms_set 3 (me_tup (ma_cons me_str (ma_cons (me_op om_mod (me_op om_fdiv (me_var 0) me_int) me_int) ma_nil))) sc_l_holds.nd)
  (mss_one (ms_set 4 me_str sc_l_holds.nd)))
  mss_nil)
  (mss_cons (ms_set 5 me_int sc_l_holds.nd)
  (mss_cons (ms_set 6 (me_op om_mod (me_op om_fdiv (me_var 0) me_int) me_int) sc_l_holds.nd)
  (mss_cons (ms_if (mt_cmp om_eq (me_op om_mod (me_op om_fdiv (me_var 0) me_int) me_int) me_int (nomark _))
  (mss_one (ms_set 6 (me_ix (me_lst (ma_cons me_int (ma_cons me_int (ma_cons me_int (ma_cons me_int ma_nil))))) (me_op om_mod (me_op om_fdiv (me_var 0) me_int) me_int)) sc_l_holds.nd))
  mss_nil)
  (mss_cons (ms_if (mt_cmp om_gt (me_var 6) me_int (nomark _))
  (mss_one (ms_set 4 me_str sc_l_holds.nd))
  mss_nil)
  (mss_cons (ms_for (passes_of rfl) rfl (mi_range rfl T.n_range (ma_cons (me_var 6) ma_nil)) (mg_name 7 sc_l_holds.nd)
  (mss_cons (ms_set 9 (me_call (G_l_mixed.mono (by decide)) hr (passW_of (takes_of rfl rfl rfl rfl)) rfl (ma_cons (me_var 2) (ma_cons (me_var 7) ma_nil))) sc_l_holds.nd)
  (mss_cons (ms_set 10 (me_op om_mod (me_var 9) me_int) sc_l_holds.nd)
  (mss_cons (ms_set 11 (me_tup (ma_cons me_str (ma_cons (me_var 7) ma_nil))) sc_l_holds.nd)
  (mss_cons (ms_if (mt_cmp om_eq (me_op om_mod (me_op om_fdiv (me_var 9) me_int) (me_op om_add me_int (me_op om_mul me_int (me_cty cb_int rfl T.n_int (by decide +kernel) (ma_cons (me_cmp om_gt (me_var 6) me_int (nomark _)) ma_nil))))) me_int (nomark _))
  (mss_cons (ms_set 11 (me_tup (ma_cons me_str (ma_cons me_str ma_nil))) sc_l_holds.nd)
  (mss_one (ms_if (MW.mt (mw_and (mt_cmp om_lt (me_op om_sub (me_var 6) (me_var 7)) me_int (nomark _)) (mw_and1 (MW.mt (mw_or (mt_cmp om_in (me_var 10) (me_lst (ma_cons me_int (ma_cons me_int (ma_cons me_int (ma_cons me_int (ma_cons me_int ma_nil)))))) (by rfl)) (mw_or1 (MW.mt (mw_and (mt_cmp om_eq (me_var 4) me_str (nomark _)) (mw_and1 (mt_cmp om_ne (me_var 10) me_int (nomark _)))))))))))
  (mss_one (ms_set 4 me_str sc_l_holds.nd))
  mss_nil)))
  mss_nil)
  (mss_cons (ms_set 12 (me_ix (me_lst (ma_cons me_str (ma_cons me_str (ma_cons me_str (ma_cons me_str (ma_cons me_str (ma_cons me_str (ma_cons me_str ma_nil)))))))) (me_op om_mod (me_op om_fdiv (me_var 9) me_int) me_int)) sc_l_holds.nd)
  (mss_cons (ms_set 3 (me_call (G_l_level.mono (by decide)) hr (passW_of (takes_of rfl rfl rfl rfl)) rfl (ma_cons (me_var 10) (ma_cons (me_var 12) (ma_cons (me_ix (me_lst (ma_cons me_str (ma_cons me_str (ma_cons me_str ma_nil)))) (me_op om_mod (me_var 7) me_int)) (ma_cons (me_var 3) (ma_cons (me_var 11) ma_nil)))))) sc_l_holds.nd)
  (mss_one (ms_set 5 (me_op om_add (me_var 5) (me_ix (me_lst (ma_cons me_int (ma_cons me_int (ma_cons me_int (ma_cons me_int (ma_cons me_int (ma_cons me_int (ma_cons me_int (ma_cons me_int (ma_cons me_int (ma_cons me_int ma_nil))))))))))) (me_var 10))) sc_l_holds.nd)))))))))
  (mss_cons (ms_if (mt_cmp om_ne (me_var 4) me_str (nomark _))
  (mss_one (ms_ret (me_cmp om_eq (me_call (G_l_refusal.mono (by decide)) hr (passW_of (takes_of rfl rfl rfl rfl)) rfl (ma_cons (me_var 3) ma_nil)) (me_var 4) (nomark _))))
  mss_nil)
  (mss_cons (ms_set 8 (me_call (G_checked.mono (by decide)) hr (passW_of (takes_of rfl rfl rfl rfl)) rfl (ma_cons (me_var 3) ma_nil)) sc_l_holds.nd)
  (mss_one (ms_ret (me_and (me_call (G_l_whole.mono (by decide)) hr (passW_of (takes_of rfl rfl rfl rfl)) rfl (ma_cons (me_var 8) ma_nil)) (me_one (me_cmp om_eq (me_var 8) (me_var 5) (nomark _)))))))))))))))))
/-! law -/
abbrev s_law : Stmt := top 28
theorem sc_law : FnScope ["_law_script", "_law_turn", "_law_more", "_law_first"] ["_law_script"] (defScope s_law) := ⟨rfl, rfl, rfl, by decide +kernel, rfl, by decide +kernel, by decide +kernel⟩
def lb_law_0 : Sl → O :=
  (seqM (asgM 2 (op2 D.fdiv (callM 2 m_l_mixed (consA (callM 2 m_l_cell_at (consA (varM 0) (consA (cM (.int 0)) nilA))) (consA (op2 D.mul (cM (.int 3)) (varM 1)) nilA))) (cM (.int 5))))
  (seqM (asgM 3 (callM 2 m_l_mixed (consA (callM 2 m_l_cell_at (consA (varM 0) (consA (cM (.int 1)) nilA))) (consA (op2 D.mul (cM (.int 5)) (varM 1)) nilA))))
  (ifS (notB (asB (callM 3 m_l_holds (consA (varM 2) (consA (varM 3) (consA (op2 D.add (callM 2 m_l_cell_at (consA (varM 0) (consA (cM (.int 2)) nilA))) (op2 D.mul (cM (.int 31)) (varM 1))) nilA))))))
  (retM (cM (.bl false)))
  nextM)))
def b_law : Sl → O :=
  (seqM (forM (rngM (consA (cM (.int 5)) nilA)) (tgN 1)
  lb_law_0)
  (retM (cM (.bl true))))
def m_law : List D → R D := fnM 1 3 b_law
theorem okR_law {P : Program} {w : World} {K : PySem.W.Frag} {mg : Str → Option Value} {base : Heap} (T : Tx K mg w) {f : Addr} {fd : FuncData} (F : Fun K "law" "law" s_law f fd) (hm : mg "law" = some (.ref f)) (G_l_mixed : FnI P w K mg base "_law_mixed" 1 2 m_l_mixed) (G_l_cell_at : FnI P w K mg base "_law_cell_at" 1 2 m_l_cell_at) (G_l_holds : FnI P w K mg base "_law_holds" 47 3 m_l_holds) : FnOk P w K mg base (L2.CX P w) 48 f fd ["_law_script"] (spM K mg 1 m_law) :=
  fn_okR F sc_law rfl rfl (fun cdv A outer s H E hr =>
  (mss_cons (ms_for (passes_of rfl) rfl (mi_range rfl T.n_range (ma_cons me_int ma_nil)) (mg_name 1 sc_law.nd)
  (mss_cons (ms_set 2 (me_op om_fdiv (me_call (G_l_mixed.mono (by decide)) hr (passW_of (takes_of rfl rfl rfl rfl)) rfl (ma_cons (me_call (G_l_cell_at.mono (by decide)) hr (passW_of (takes_of rfl rfl rfl rfl)) rfl (ma_cons (me_var 0) (ma_cons me_int ma_nil))) (ma_cons (me_op om_mul me_int (me_var 1)) ma_nil))) me_int) sc_law.nd)
  (mss_cons (ms_set 3 (me_call (G_l_mixed.mono (by decide)) hr (passW_of (takes_of rfl rfl rfl rfl)) rfl (ma_cons (me_call (G_l_cell_at.mono (by decide)) hr (passW_of (takes_of rfl rfl rfl rfl)) rfl (ma_cons (me_var 0) (ma_cons me_int ma_nil))) (ma_cons (me_op om_mul me_int (me_var 1)) ma_nil))) sc_law.nd)
  (mss_one (ms_if (mt_not (mt_val (me_call (G_l_holds.mono (by decide)) hr (passW_of (takes_of rfl rfl rfl rfl)) rfl (ma_cons (me_var 2) (ma_cons (me_var 3) (ma_cons (me_op om_add (me_call (G_l_cell_at.mono (by decide)) hr (passW_of (takes_of rfl rfl rfl rfl)) rfl (ma_cons (me_var 0) (ma_cons me_int ma_nil))) (me_op om_mul me_int (me_var 1))) ma_nil))))))
  (mss_one (ms_ret me_bl))
  mss_nil)))))
  (mss_one (ms_ret me_bl))))
theorem all_mk {P : Program} {w : World} {K : PySem.W.Frag} {h : Heap} {mg : Str → Option Value} {fa : Addr} (X : K.In h) (G : h.Ns mainGlobals mg) (hfa : mg "law" = some (.ref fa))
    {f0 : Addr} {od0 an0 : Option Addr} {sl0 : Array (Option Value)} {oc0 kV0 dc0 pm0 cd0 ct0 : Value}
    {f1 : Addr} {od1 an1 : Option Addr} {sl1 : Array (Option Value)} {oc1 kV1 dc1 pm1 cd1 ct1 : Value}
    {f2 : Addr} {od2 an2 : Option Addr} {sl2 : Array (Option Value)} {oc2 kV2 dc2 pm2 cd2 ct2 : Value}
    {f3 : Addr} {od3 an3 : Option Addr} {sl3 : Array (Option Value)} {oc3 kV3 dc3 pm3 cd3 ct3 : Value}
    {f4 : Addr} {od4 an4 : Option Addr} {sl4 : Array (Option Value)} {oc4 kV4 dc4 pm4 cd4 ct4 : Value}
    {f5 : Addr} {od5 an5 : Option Addr} {sl5 : Array (Option Value)} {oc5 kV5 dc5 pm5 cd5 ct5 : Value}
    {f6 : Addr} {od6 an6 : Option Addr} {sl6 : Array (Option Value)} {oc6 kV6 dc6 pm6 cd6 ct6 : Value}
    {f7 : Addr} {od7 an7 : Option Addr} {sl7 : Array (Option Value)} {oc7 kV7 dc7 pm7 cd7 ct7 : Value}
    {f8 : Addr} {od8 an8 : Option Addr} {sl8 : Array (Option Value)} {oc8 kV8 dc8 pm8 cd8 ct8 : Value}
    {f9 : Addr} {od9 an9 : Option Addr} {sl9 : Array (Option Value)} {oc9 kV9 dc9 pm9 cd9 ct9 : Value}
    {f10 : Addr} {od10 an10 : Option Addr} {sl10 : Array (Option Value)} {oc10 kV10 dc10 pm10 cd10 ct10 : Value}
    {f11 : Addr} {od11 an11 : Option Addr} {sl11 : Array (Option Value)} {oc11 kV11 dc11 pm11 cd11 ct11 : Value}
    {f12 : Addr} {od12 an12 : Option Addr} {sl12 : Array (Option Value)} {oc12 kV12 dc12 pm12 cd12 ct12 : Value}
    {f13 : Addr} {od13 an13 : Option Addr} {sl13 : Array (Option Value)} {oc13 kV13 dc13 pm13 cd13 ct13 : Value}
    {f14 : Addr} {od14 an14 : Option Addr} {sl14 : Array (Option Value)} {oc14 kV14 dc14 pm14 cd14 ct14 : Value}
    {f15 : Addr} {od15 an15 : Option Addr} {sl15 : Array (Option Value)} {oc15 kV15 dc15 pm15 cd15 ct15 : Value}
    {f16 : Addr} {od16 an16 : Option Addr} {sl16 : Array (Option Value)} {oc16 kV16 dc16 pm16 cd16 ct16 : Value}
    {tk_DEEPEST_LEVEL : Tok}
    {ad_FORMS : Addr} {es_FORMS : Array DictEntry} {n_FORMS : Nat}
    {ad_KINDS : Addr}
    {tk_LARGEST_NUMBER : Tok}
    {tk_LONGEST_NAME : Tok}
    {A_AskError : Addr}
    {A_BadName : Addr}
    {A_BadPiece : Addr}
    {A_TooTall : Addr}
    (fa0 : PySem.W.nsIn K mainGlobals "_law_mixed" = some (some (.ref f0)))
    (fl0 : K.lookup f0 = some ⟨oc0, od0, .func (PySem.W.fnOf "_law_mixed" "_law_mixed" (defArgs s_l_mixed) (defBody s_l_mixed) (defScope s_l_mixed) .none kV0 dc0 pm0 an0 cd0 ct0), sl0⟩)
    (fc0 : PySem.W.codeIn K cd0 "_law_mixed" = true)
    (fk0 : PySem.W.keepIn K (.ref f0) = true)
    (fa1 : PySem.W.nsIn K mainGlobals "_law_cell_at" = some (some (.ref f1)))
    (fl1 : K.lookup f1 = some ⟨oc1, od1, .func (PySem.W.fnOf "_law_cell_at" "_law_cell_at" (defArgs s_l_cell_at) (defBody s_l_cell_at) (defScope s_l_cell_at) .none kV1 dc1 pm1 an1 cd1 ct1), sl1⟩)
    (fc1 : PySem.W.codeIn K cd1 "_law_cell_at" = true)
    (fk1 : PySem.W.keepIn K (.ref f1) = true)
    (fa2 : PySem.W.nsIn K mainGlobals "_law_bad" = some (some (.ref f2)))
    (fl2 : K.lookup f2 = some ⟨oc2, od2, .func (PySem.W.fnOf "_law_bad" "_law_bad" (defArgs s_l_bad) (defBody s_l_bad) (defScope s_l_bad) .none kV2 dc2 pm2 an2 cd2 ct2), sl2⟩)
    (fc2 : PySem.W.codeIn K cd2 "_law_bad" = true)
    (fk2 : PySem.W.keepIn K (.ref f2) = true)
    (fa3 : PySem.W.nsIn K mainGlobals "form_of" = some (some (.ref f3)))
    (fl3 : K.lookup f3 = some ⟨oc3, od3, .func (PySem.W.fnOf "form_of" "form_of" (defArgs s_form_of) (defBody s_form_of) (defScope s_form_of) .none kV3 dc3 pm3 an3 cd3 ct3), sl3⟩)
    (fc3 : PySem.W.codeIn K cd3 "form_of" = true)
    (fk3 : PySem.W.keepIn K (.ref f3) = true)
    (fa4 : PySem.W.nsIn K mainGlobals "is_number" = some (some (.ref f4)))
    (fl4 : K.lookup f4 = some ⟨oc4, od4, .func (PySem.W.fnOf "is_number" "is_number" (defArgs s_is_number) (defBody s_is_number) (defScope s_is_number) .none kV4 dc4 pm4 an4 cd4 ct4), sl4⟩)
    (fc4 : PySem.W.codeIn K cd4 "is_number" = true)
    (fk4 : PySem.W.keepIn K (.ref f4) = true)
    (fa5 : PySem.W.nsIn K mainGlobals "is_name" = some (some (.ref f5)))
    (fl5 : K.lookup f5 = some ⟨oc5, od5, .func (PySem.W.fnOf "is_name" "is_name" (defArgs s_is_name) (defBody s_is_name) (defScope s_is_name) .none kV5 dc5 pm5 an5 cd5 ct5), sl5⟩)
    (fc5 : PySem.W.codeIn K cd5 "is_name" = true)
    (fk5 : PySem.W.keepIn K (.ref f5) = true)
    (fa6 : PySem.W.nsIn K mainGlobals "is_kind" = some (some (.ref f6)))
    (fl6 : K.lookup f6 = some ⟨oc6, od6, .func (PySem.W.fnOf "is_kind" "is_kind" (defArgs s_is_kind) (defBody s_is_kind) (defScope s_is_kind) .none kV6 dc6 pm6 an6 cd6 ct6), sl6⟩)
    (fc6 : PySem.W.codeIn K cd6 "is_kind" = true)
    (fk6 : PySem.W.keepIn K (.ref f6) = true)
    (fa7 : PySem.W.nsIn K mainGlobals "fits" = some (some (.ref f7)))
    (fl7 : K.lookup f7 = some ⟨oc7, od7, .func (PySem.W.fnOf "fits" "fits" (defArgs s_fits) (defBody s_fits) (defScope s_fits) .none kV7 dc7 pm7 an7 cd7 ct7), sl7⟩)
    (fc7 : PySem.W.codeIn K cd7 "fits" = true)
    (fk7 : PySem.W.keepIn K (.ref f7) = true)
    (fa8 : PySem.W.nsIn K mainGlobals "check_form" = some (some (.ref f8)))
    (fl8 : K.lookup f8 = some ⟨oc8, od8, .func (PySem.W.fnOf "check_form" "check_form" (defArgs s_check_form) (defBody s_check_form) (defScope s_check_form) .none kV8 dc8 pm8 an8 cd8 ct8), sl8⟩)
    (fc8 : PySem.W.codeIn K cd8 "check_form" = true)
    (fk8 : PySem.W.keepIn K (.ref f8) = true)
    (fa9 : PySem.W.nsIn K mainGlobals "parts_with_names" = some (some (.ref f9)))
    (fl9 : K.lookup f9 = some ⟨oc9, od9, .func (PySem.W.fnOf "parts_with_names" "parts_with_names" (defArgs s_parts_with_names) (defBody s_parts_with_names) (defScope s_parts_with_names) .none kV9 dc9 pm9 an9 cd9 ct9), sl9⟩)
    (fc9 : PySem.W.codeIn K cd9 "parts_with_names" = true)
    (fk9 : PySem.W.keepIn K (.ref f9) = true)
    (fa10 : PySem.W.nsIn K mainGlobals "checked_at" = some (some (.ref f10)))
    (fl10 : K.lookup f10 = some ⟨oc10, od10, .func (PySem.W.fnOf "checked_at" "checked_at" (defArgs s_checked_at) (defBody s_checked_at) (defScope s_checked_at) .none kV10 dc10 pm10 an10 cd10 ct10), sl10⟩)
    (fc10 : PySem.W.codeIn K cd10 "checked_at" = true)
    (fk10 : PySem.W.keepIn K (.ref f10) = true)
    (fa11 : PySem.W.nsIn K mainGlobals "checked" = some (some (.ref f11)))
    (fl11 : K.lookup f11 = some ⟨oc11, od11, .func (PySem.W.fnOf "checked" "checked" (defArgs s_checked) (defBody s_checked) (defScope s_checked) .none kV11 dc11 pm11 an11 cd11 ct11), sl11⟩)
    (fc11 : PySem.W.codeIn K cd11 "checked" = true)
    (fk11 : PySem.W.keepIn K (.ref f11) = true)
    (fa12 : PySem.W.nsIn K mainGlobals "_law_level" = some (some (.ref f12)))
    (fl12 : K.lookup f12 = some ⟨oc12, od12, .func (PySem.W.fnOf "_law_level" "_law_level" (defArgs s_l_level) (defBody s_l_level) (defScope s_l_level) .none kV12 dc12 pm12 an12 cd12 ct12), sl12⟩)
    (fc12 : PySem.W.codeIn K cd12 "_law_level" = true)
    (fk12 : PySem.W.keepIn K (.ref f12) = true)
    (fa13 : PySem.W.nsIn K mainGlobals "_law_whole" = some (some (.ref f13)))
    (fl13 : K.lookup f13 = some ⟨oc13, od13, .func (PySem.W.fnOf "_law_whole" "_law_whole" (defArgs s_l_whole) (defBody s_l_whole) (defScope s_l_whole) .none kV13 dc13 pm13 an13 cd13 ct13), sl13⟩)
    (fc13 : PySem.W.codeIn K cd13 "_law_whole" = true)
    (fk13 : PySem.W.keepIn K (.ref f13) = true)
    (fa14 : PySem.W.nsIn K mainGlobals "_law_refusal" = some (some (.ref f14)))
    (fl14 : K.lookup f14 = some ⟨oc14, od14, .func (PySem.W.fnOf "_law_refusal" "_law_refusal" (defArgs s_l_refusal) (defBody s_l_refusal) (defScope s_l_refusal) .none kV14 dc14 pm14 an14 cd14 ct14), sl14⟩)
    (fc14 : PySem.W.codeIn K cd14 "_law_refusal" = true)
    (fk14 : PySem.W.keepIn K (.ref f14) = true)
    (fa15 : PySem.W.nsIn K mainGlobals "_law_holds" = some (some (.ref f15)))
    (fl15 : K.lookup f15 = some ⟨oc15, od15, .func (PySem.W.fnOf "_law_holds" "_law_holds" (defArgs s_l_holds) (defBody s_l_holds) (defScope s_l_holds) .none kV15 dc15 pm15 an15 cd15 ct15), sl15⟩)
    (fc15 : PySem.W.codeIn K cd15 "_law_holds" = true)
    (fk15 : PySem.W.keepIn K (.ref f15) = true)
    (fa16 : PySem.W.nsIn K mainGlobals "law" = some (some (.ref f16)))
    (fl16 : K.lookup f16 = some ⟨oc16, od16, .func (PySem.W.fnOf "law" "law" (defArgs s_law) (defBody s_law) (defScope s_law) .none kV16 dc16 pm16 an16 cd16 ct16), sl16⟩)
    (fc16 : PySem.W.codeIn K cd16 "law" = true)
    (fk16 : PySem.W.keepIn K (.ref f16) = true)
    (n_ValueError : PySem.W.nsIn K mainGlobals "ValueError" = some none)
    (n_all : PySem.W.nsIn K mainGlobals "all" = some none)
    (n_bool : PySem.W.nsIn K mainGlobals "bool" = some none)
    (n_int : PySem.W.nsIn K mainGlobals "int" = some none)
    (n_isinstance : PySem.W.nsIn K mainGlobals "isinstance" = some none)
    (n_len : PySem.W.nsIn K mainGlobals "len" = some none)
    (n_range : PySem.W.nsIn K mainGlobals "range" = some none)
    (n_str : PySem.W.nsIn K mainGlobals "str" = some none)
    (n_tuple : PySem.W.nsIn K mainGlobals "tuple" = some none)
    (n_type : PySem.W.nsIn K mainGlobals "type" = some none)
    (n_zip : PySem.W.nsIn K mainGlobals "zip" = some none)
    (a_DEEPEST_LEVEL : PySem.W.nsIn K mainGlobals "DEEPEST_LEVEL" = some (some (.int 30 tk_DEEPEST_LEVEL)))
    (a_FORMS : PySem.W.nsIn K mainGlobals "FORMS" = some (some (.ref ad_FORMS)))
    (l_FORMS : K.lookup ad_FORMS = some ⟨.type "dict", none, .dict es_FORMS n_FORMS, #[]⟩)
    (q_FORMS : PySem.W.KeysLit w.params es_FORMS.toList)
    (z_FORMS : (ad_FORMS == sysModules) = false)
    (e_FORMS : EsT K es_FORMS.toList t_FORMS)
    (a_KINDS : PySem.W.nsIn K mainGlobals "KINDS" = some (some (.ref ad_KINDS)))
    (k_KINDS : KTup K ad_KINDS [.str "coin", .str "fail", .str "line"])
    (a_LARGEST_NUMBER : PySem.W.nsIn K mainGlobals "LARGEST_NUMBER" = some (some (.int 999 tk_LARGEST_NUMBER)))
    (a_LONGEST_NAME : PySem.W.nsIn K mainGlobals "LONGEST_NAME" = some (some (.int 8 tk_LONGEST_NAME)))
    (xa_AskError : PySem.W.nsIn K mainGlobals "AskError" = some (some (.ref A_AskError)))
    (xx_AskError : PySem.W.excIn K A_AskError [.type "ValueError", .type "Exception", .type "BaseException", .type "object"] "ValueError.__new__" = true)
    (xk_AskError : PySem.W.keepIn K (.ref A_AskError) = true)
    (xb_AskError : PySem.W.subIn K (.ref A_AskError) (.type "BaseException") = some true)
    (xt_AskError : PySem.W.typeIn K (.ref A_AskError) = some (.type "type"))
    (xg_AskError : PySem.W.findIn K (.ref A_AskError) "__getattribute__" = some (some (.builtin "BaseException.__getattribute__")))
    (xh_AskError : PySem.W.findIn K (.ref A_AskError) "__getattr__" = some none)
    (xd_AskError : PySem.W.hasDictIn K A_AskError = true)
    (xc_AskError : PySem.W.findIn K (.ref A_AskError) "__class__" = some (some (.builtin "object.__class__")))
    (xn_AskError : PySem.W.specialIn K (.builtin "object.__class__") "__get__" = some (some (.builtin "getset_descriptor.__get__")))
    (xu_AskError : PySem.W.takesIn K (.builtin "object.__class__") = some true)
    (xm_AskError : PySem.W.mroIn K A_AskError (.type "object") = some true)
    (xa_BadName : PySem.W.nsIn K mainGlobals "BadName" = some (some (.ref A_BadName)))
    (xx_BadName : PySem.W.excIn K A_BadName [.type "ValueError", .type "Exception", .type "BaseException", .type "object"] "ValueError.__new__" = true)
    (xk_BadName : PySem.W.keepIn K (.ref A_BadName) = true)
    (xb_BadName : PySem.W.subIn K (.ref A_BadName) (.type "BaseException") = some true)
    (xt_BadName : PySem.W.typeIn K (.ref A_BadName) = some (.type "type"))
    (xg_BadName : PySem.W.findIn K (.ref A_BadName) "__getattribute__" = some (some (.builtin "BaseException.__getattribute__")))
    (xh_BadName : PySem.W.findIn K (.ref A_BadName) "__getattr__" = some none)
    (xd_BadName : PySem.W.hasDictIn K A_BadName = true)
    (xc_BadName : PySem.W.findIn K (.ref A_BadName) "__class__" = some (some (.builtin "object.__class__")))
    (xn_BadName : PySem.W.specialIn K (.builtin "object.__class__") "__get__" = some (some (.builtin "getset_descriptor.__get__")))
    (xu_BadName : PySem.W.takesIn K (.builtin "object.__class__") = some true)
    (xm_BadName : PySem.W.mroIn K A_BadName (.type "object") = some true)
    (xa_BadPiece : PySem.W.nsIn K mainGlobals "BadPiece" = some (some (.ref A_BadPiece)))
    (xx_BadPiece : PySem.W.excIn K A_BadPiece [.type "ValueError", .type "Exception", .type "BaseException", .type "object"] "ValueError.__new__" = true)
    (xk_BadPiece : PySem.W.keepIn K (.ref A_BadPiece) = true)
    (xb_BadPiece : PySem.W.subIn K (.ref A_BadPiece) (.type "BaseException") = some true)
    (xt_BadPiece : PySem.W.typeIn K (.ref A_BadPiece) = some (.type "type"))
    (xg_BadPiece : PySem.W.findIn K (.ref A_BadPiece) "__getattribute__" = some (some (.builtin "BaseException.__getattribute__")))
    (xh_BadPiece : PySem.W.findIn K (.ref A_BadPiece) "__getattr__" = some none)
    (xd_BadPiece : PySem.W.hasDictIn K A_BadPiece = true)
    (xc_BadPiece : PySem.W.findIn K (.ref A_BadPiece) "__class__" = some (some (.builtin "object.__class__")))
    (xn_BadPiece : PySem.W.specialIn K (.builtin "object.__class__") "__get__" = some (some (.builtin "getset_descriptor.__get__")))
    (xu_BadPiece : PySem.W.takesIn K (.builtin "object.__class__") = some true)
    (xm_BadPiece : PySem.W.mroIn K A_BadPiece (.type "object") = some true)
    (xa_TooTall : PySem.W.nsIn K mainGlobals "TooTall" = some (some (.ref A_TooTall)))
    (xx_TooTall : PySem.W.excIn K A_TooTall [.type "ValueError", .type "Exception", .type "BaseException", .type "object"] "ValueError.__new__" = true)
    (xk_TooTall : PySem.W.keepIn K (.ref A_TooTall) = true)
    (xb_TooTall : PySem.W.subIn K (.ref A_TooTall) (.type "BaseException") = some true)
    (xt_TooTall : PySem.W.typeIn K (.ref A_TooTall) = some (.type "type"))
    (xg_TooTall : PySem.W.findIn K (.ref A_TooTall) "__getattribute__" = some (some (.builtin "BaseException.__getattribute__")))
    (xh_TooTall : PySem.W.findIn K (.ref A_TooTall) "__getattr__" = some none)
    (xd_TooTall : PySem.W.hasDictIn K A_TooTall = true)
    (xc_TooTall : PySem.W.findIn K (.ref A_TooTall) "__class__" = some (some (.builtin "object.__class__")))
    (xn_TooTall : PySem.W.specialIn K (.builtin "object.__class__") "__get__" = some (some (.builtin "getset_descriptor.__get__")))
    (xu_TooTall : PySem.W.takesIn K (.builtin "object.__class__") = some true)
    (xm_TooTall : PySem.W.mroIn K A_TooTall (.type "object") = some true)
    (ks_BadPiece_BadName : PySem.W.subIn K (.ref A_BadPiece) (.ref A_BadName) = some false)
    (kn_BadPiece_BadName : A_BadPiece ≠ A_BadName)
    (ki_BadPiece_BadName : PySem.W.isClsIn K A_BadName = true)
    (ks_BadPiece_TooTall : PySem.W.subIn K (.ref A_BadPiece) (.ref A_TooTall) = some false)
    (kn_BadPiece_TooTall : A_BadPiece ≠ A_TooTall)
    (ki_BadPiece_TooTall : PySem.W.isClsIn K A_TooTall = true)
    (ks_BadPiece_ValueError : PySem.W.subIn K (.ref A_BadPiece) (.type "ValueError") = some true)
    (ks_BadName_BadPiece : PySem.W.subIn K (.ref A_BadName) (.ref A_BadPiece) = some false)
    (kn_BadName_BadPiece : A_BadName ≠ A_BadPiece)
    (ki_BadName_BadPiece : PySem.W.isClsIn K A_BadPiece = true)
    (ks_BadName_TooTall : PySem.W.subIn K (.ref A_BadName) (.ref A_TooTall) = some false)
    (kn_BadName_TooTall : A_BadName ≠ A_TooTall)
    (ki_BadName_TooTall : PySem.W.isClsIn K A_TooTall = true)
    (ks_BadName_ValueError : PySem.W.subIn K (.ref A_BadName) (.type "ValueError") = some true)
    (ks_TooTall_BadPiece : PySem.W.subIn K (.ref A_TooTall) (.ref A_BadPiece) = some false)
    (kn_TooTall_BadPiece : A_TooTall ≠ A_BadPiece)
    (ki_TooTall_BadPiece : PySem.W.isClsIn K A_BadPiece = true)
    (ks_TooTall_BadName : PySem.W.subIn K (.ref A_TooTall) (.ref A_BadName) = some false)
    (kn_TooTall_BadName : A_TooTall ≠ A_BadName)
    (ki_TooTall_BadName : PySem.W.isClsIn K A_BadName = true)
    (ks_TooTall_ValueError : PySem.W.subIn K (.ref A_TooTall) (.type "ValueError") = some true)
    (ke_BadPiece_AskError : PySem.W.subIn K (.ref A_BadPiece) (.ref A_AskError) = some true)
    (ke_BadName_AskError : PySem.W.subIn K (.ref A_BadName) (.ref A_AskError) = some true)
    (ke_TooTall_AskError : PySem.W.subIn K (.ref A_TooTall) (.ref A_AskError) = some true) :
    ∃ fd : FuncData, (∀ (s : Shared) (u : Value), BindsTo s fd ⟨[u], []⟩ [("_law_script", u)]) ∧ ∀ base : Heap, K.In base → base.Ns mainGlobals mg → FnOk P w K mg base (L2.CX P w) 48 fa fd ["_law_script"] (spM K mg 1 m_law) := by
  have e := hfa.symm.trans (PySem.W.mg_of X G fa16)
  cases e
  have T : Tx K mg w := { n_ValueError := PySem.W.mg_none_of X G n_ValueError, n_all := PySem.W.mg_none_of X G n_all, n_bool := PySem.W.mg_none_of X G n_bool, n_int := PySem.W.mg_none_of X G n_int, n_isinstance := PySem.W.mg_none_of X G n_isinstance, n_len := PySem.W.mg_none_of X G n_len, n_range := PySem.W.mg_none_of X G n_range, n_str := PySem.W.mg_none_of X G n_str, n_tuple := PySem.W.mg_none_of X G n_tuple, n_type := PySem.W.mg_none_of X G n_type, n_zip := PySem.W.mg_none_of X G n_zip, h_DEEPEST_LEVEL := ⟨tk_DEEPEST_LEVEL, PySem.W.mg_of X G a_DEEPEST_LEVEL⟩, h_FORMS := ⟨ad_FORMS, es_FORMS, n_FORMS, PySem.W.mg_of X G a_FORMS, ⟨l_FORMS, q_FORMS, z_FORMS⟩, e_FORMS⟩, h_KINDS := ⟨ad_KINDS, PySem.W.mg_of X G a_KINDS, k_KINDS⟩, h_LARGEST_NUMBER := ⟨tk_LARGEST_NUMBER, PySem.W.mg_of X G a_LARGEST_NUMBER⟩, h_LONGEST_NAME := ⟨tk_LONGEST_NAME, PySem.W.mg_of X G a_LONGEST_NAME⟩, a_AskError := A_AskError, g_AskError := PySem.W.mg_of X G xa_AskError, x_AskError := xx_AskError, k_AskError := xk_AskError, b_AskError := xb_AskError, t_AskError := xt_AskError, i_AskError := ⟨xg_AskError, xh_AskError, xb_AskError, xd_AskError, xc_AskError, xn_AskError, xu_AskError, xm_AskError⟩, a_BadName := A_BadName, g_BadName := PySem.W.mg_of X G xa_BadName, x_BadName := xx_BadName, k_BadName := xk_BadName, b_BadName := xb_BadName, t_BadName := xt_BadName, i_BadName := ⟨xg_BadName, xh_BadName, xb_BadName, xd_BadName, xc_BadName, xn_BadName, xu_BadName, xm_BadName⟩, a_BadPiece := A_BadPiece, g_BadPiece := PySem.W.mg_of X G xa_BadPiece, x_BadPiece := xx_BadPiece, k_BadPiece := xk_BadPiece, b_BadPiece := xb_BadPiece, t_BadPiece := xt_BadPiece, i_BadPiece := ⟨xg_BadPiece, xh_BadPiece, xb_BadPiece, xd_BadPiece, xc_BadPiece, xn_BadPiece, xu_BadPiece, xm_BadPiece⟩, a_TooTall := A_TooTall, g_TooTall := PySem.W.mg_of X G xa_TooTall, x_TooTall := xx_TooTall, k_TooTall := xk_TooTall, b_TooTall := xb_TooTall, t_TooTall := xt_TooTall, i_TooTall := ⟨xg_TooTall, xh_TooTall, xb_TooTall, xd_TooTall, xc_TooTall, xn_TooTall, xu_TooTall, xm_TooTall⟩, s_BadPiece_BadPiece := kit_self, s_BadPiece_BadName := kit_sub kn_BadPiece_BadName ki_BadPiece_BadName xt_BadName ks_BadPiece_BadName, s_BadPiece_TooTall := kit_sub kn_BadPiece_TooTall ki_BadPiece_TooTall xt_TooTall ks_BadPiece_TooTall, s_BadPiece_ValueError := kit_typ (by decide +kernel) ks_BadPiece_ValueError, s_BadName_BadPiece := kit_sub kn_BadName_BadPiece ki_BadName_BadPiece xt_BadPiece ks_BadName_BadPiece, s_BadName_BadName := kit_self, s_BadName_TooTall := kit_sub kn_BadName_TooTall ki_BadName_TooTall xt_TooTall ks_BadName_TooTall, s_BadName_ValueError := kit_typ (by decide +kernel) ks_BadName_ValueError, s_TooTall_BadPiece := kit_sub kn_TooTall_BadPiece ki_TooTall_BadPiece xt_BadPiece ks_TooTall_BadPiece, s_TooTall_BadName := kit_sub kn_TooTall_BadName ki_TooTall_BadName xt_BadName ks_TooTall_BadName, s_TooTall_TooTall := kit_self, s_TooTall_ValueError := kit_typ (by decide +kernel) ks_TooTall_ValueError, e_BadPiece_AskError := ke_BadPiece_AskError, e_BadName_AskError := ke_BadName_AskError, e_TooTall_AskError := ke_TooTall_AskError }
  have F0 := fun_mk (st := s_l_mixed) fl0 fc0 fk0
  have F1 := fun_mk (st := s_l_cell_at) fl1 fc1 fk1
  have F2 := fun_mk (st := s_l_bad) fl2 fc2 fk2
  have F3 := fun_mk (st := s_form_of) fl3 fc3 fk3
  have F4 := fun_mk (st := s_is_number) fl4 fc4 fk4
  have F5 := fun_mk (st := s_is_name) fl5 fc5 fk5
  have F6 := fun_mk (st := s_is_kind) fl6 fc6 fk6
  have F7 := fun_mk (st := s_fits) fl7 fc7 fk7
  have F8 := fun_mk (st := s_check_form) fl8 fc8 fk8
  have F9 := fun_mk (st := s_parts_with_names) fl9 fc9 fk9
  have F10 := fun_mk (st := s_checked_at) fl10 fc10 fk10
  have F11 := fun_mk (st := s_checked) fl11 fc11 fk11
  have F12 := fun_mk (st := s_l_level) fl12 fc12 fk12
  have F13 := fun_mk (st := s_l_whole) fl13 fc13 fk13
  have F14 := fun_mk (st := s_l_refusal) fl14 fc14 fk14
  have F15 := fun_mk (st := s_l_holds) fl15 fc15 fk15
  have F16 := fun_mk (st := s_law) fl16 fc16 fk16
  refine ⟨PySem.W.fnOf "law" "law" (defArgs s_law) (defBody s_law) (defScope s_law) .none kV16 dc16 pm16 an16 cd16 ct16, fun s u => .of_eq rfl, fun base _ _ => ?_⟩
  have G_l_mixed : FnI P w K mg base "_law_mixed" 1 2 m_l_mixed := ok_l_mixed T F0 (PySem.W.mg_of X G fa0) 
  have G_l_cell_at : FnI P w K mg base "_law_cell_at" 1 2 m_l_cell_at := ok_l_cell_at T F1 (PySem.W.mg_of X G fa1) 
  have G_l_bad : FnI P w K mg base "_law_bad" 1 1 m_l_bad := ok_l_bad T F2 (PySem.W.mg_of X G fa2) 
  have G_form_of : FnI P w K mg base "form_of" 1 1 m_form_of := ok_form_of T F3 (PySem.W.mg_of X G fa3) 
  have G_is_number : FnI P w K mg base "is_number" 1 1 m_is_number := ok_is_number T F4 (PySem.W.mg_of X G fa4) 
  have G_is_name : FnI P w K mg base "is_name" 1 1 m_is_name := ok_is_name T F5 (PySem.W.mg_of X G fa5) 
  have G_is_kind : FnI P w K mg base "is_kind" 1 1 m_is_kind := ok_is_kind T F6 (PySem.W.mg_of X G fa6) 
  have G_fits : FnI P w K mg base "fits" 2 2 m_fits := ok_fits T F7 (PySem.W.mg_of X G fa7) G_is_number G_is_name G_is_kind
  have G_check_form : FnI P w K mg base "check_form" 3 1 m_check_form := ok_check_form T F8 (PySem.W.mg_of X G fa8) G_form_of G_fits
  have G_parts_with_names : FnI P w K mg base "parts_with_names" 1 2 m_parts_with_names := ok_parts_with_names T F9 (PySem.W.mg_of X G fa9) 
  have G_checked_at : FnI P w K mg base "checked_at" 44 3 (m_checked_at 40) := ok_checked_at T F10 (PySem.W.mg_of X G fa10) G_check_form G_parts_with_names 40
  have G_checked : FnI P w K mg base "checked" 45 1 m_checked := ok_checked T F11 (PySem.W.mg_of X G fa11) G_checked_at
  have G_l_level : FnI P w K mg base "_law_level" 1 5 m_l_level := ok_l_level T F12 (PySem.W.mg_of X G fa12) 
  have G_l_whole : FnI P w K mg base "_law_whole" 1 1 m_l_whole := ok_l_whole T F13 (PySem.W.mg_of X G fa13) 
  have G_l_refusal : FnI P w K mg base "_law_refusal" 46 1 m_l_refusal := ok_l_refusal T F14 (PySem.W.mg_of X G fa14) G_checked
  have G_l_holds : FnI P w K mg base "_law_holds" 47 3 m_l_holds := ok_l_holds T F15 (PySem.W.mg_of X G fa15) G_l_bad G_checked G_l_mixed G_l_level G_l_whole G_l_refusal
  exact okR_law T F16 (PySem.W.mg_of X G fa16) G_l_mixed G_l_cell_at G_l_holds
end My
namespace My
open PySem L2 Evl Ask
theorem atI_int {α : Type} (xs : List α) (k : Nat) : atI xs (k : Int) = xs[k]? := by
  unfold atI ixN
  by_cases h : k < xs.length
  · rw [if_pos (by omega), if_pos (by omega)]
    simp
  · rw [if_pos (by omega), if_neg (by omega)]
    simp
    omega
theorem atI_2 {α : Type} (xs : List α) : atI xs 2 = xs[2]? := atI_int xs 2
theorem atI_3 {α : Type} (xs : List α) : atI xs 3 = xs[3]? := atI_int xs 3
theorem atI_4 {α : Type} (xs : List α) : atI xs 4 = xs[4]? := atI_int xs 4
theorem atI_0 {α : Type} (xs : List α) : atI xs 0 = xs[0]? := atI_int xs 0
theorem atI_1 {α : Type} (xs : List α) : atI xs 1 = xs[1]? := atI_int xs 1
/-- a piece -/
inductive Pc where
  | num (n : Int) | name (x : Str) | sum (a b : Pc) | let_ (x : Str) (a b : Pc) | choose (a b c : Pc) | ask (k : Str) (a : Pc) | hand (k x : Str) (a b : Pc) | bad (d : D)
def Pc.toD : Pc → D
  | .num n => .tup [.str "num", .int n]
  | .name x => .tup [.str "name", .str x]
  | .sum a b => .tup [.str "sum", a.toD, b.toD]
  | .let_ x a b => .tup [.str "let", .str x, a.toD, b.toD]
  | .choose a b c => .tup [.str "choose", a.toD, b.toD, c.toD]
  | .ask k a => .tup [.str "ask", .str k, a.toD]
  | .hand k x a b => .tup [.str "hand", .str k, .str x, a.toD, b.toD]
  | .bad d => d
def GoodN (x : Str) : Prop := 1 ≤ x.length ∧ x.length ≤ 8 ∧ ∀ c ∈ x.cps.toList, 97 ≤ c ∧ c ≤ 122
def GoodK (k : Str) : Prop := k = "coin" ∨ k = "fail" ∨ k = "line"
def Pc.Good : Pc → Prop
  | .num n => 0 ≤ n ∧ n ≤ 999
  | .name x => GoodN x
  | .sum a b => a.Good ∧ b.Good
  | .let_ x a b => GoodN x ∧ a.Good ∧ b.Good
  | .choose a b c => a.Good ∧ b.Good ∧ c.Good
  | .ask k a => GoodK k ∧ a.Good
  | .hand k x a b => GoodK k ∧ GoodN x ∧ a.Good ∧ b.Good
  | .bad d => m_check_form [d] = .err "BadPiece"
/-- the count, or the refusal -/
def chk : Pc → Int → List Str → R Int
  | p, l, told => if 30 < l then .err "TooTall" else match p with
    | .num _ => .ok 1
    | .name x => if told.contains x = true then .ok 1 else .err "BadName"
    | .sum a b => (chk a (l + 1) told).bind fun n => (chk b (l + 1) told).bind fun m => .ok (1 + n + m)
    | .let_ x a b => (chk a (l + 1) told).bind fun n => (chk b (l + 1) (told ++ [x])).bind fun m => .ok (1 + n + m)
    | .choose a b c => (chk a (l + 1) told).bind fun n => (chk b (l + 1) told).bind fun m => (chk c (l + 1) told).bind fun k => .ok (1 + n + m + k)
    | .ask _ a => (chk a (l + 1) told).bind fun n => .ok (1 + n)
    | .hand _ x a b => (chk a (l + 1) (told ++ [x])).bind fun n => (chk b (l + 1) told).bind fun m => .ok (1 + n + m)
    | .bad _ => .err "BadPiece"
theorem ty_eq {a b : String} : (D.ty a).is (D.ty b) = some (.bl (decide (a = b))) := rfl
theorem is_number_ok {n : Int} (h : 0 ≤ n ∧ n ≤ 999) : m_is_number [.int n] = .ok (.bl true) := by
  simp (decide := true) [fnM, seqM, asgM, retM, dropM, op2, cM, cbM, consA, nilA, varM, notV, andV, orV, notB, andB, orB, asB, ifS, ifM, tupM, lstM, callM, slM, someM, noM, itM, rngM, Ask.forM, chM, joinM, negM, augM, nextM, raiseM, R.bind, R.of, toO, bInt, bLen, bType, bAll, bMax, bIsi, D.add, D.sub, D.mul, D.fdiv, D.mod, D.lt, D.le, D.gt, D.ge, D.eq, D.ne, D.is, D.isnt, D.inn, D.ix, D.sl, D.items, D.flat, D.isNon, D.tyN, scal, tgN, tg2, isT, kgetM, zipM, jsM, nilJ, consJ, fmtM, retMo, asgMo, dropMo, ifSo, augMo, forMo, newMo, appMo, retOwn, wipeE, m_is_number, b_is_number, c_LARGEST_NUMBER, h.1, h.2]
theorem is_kind_ok {k : Str} (h : GoodK k) : m_is_kind [.str k] = .ok (.bl true) := by
  rcases h with rfl | rfl | rfl <;> simp (decide := true) [fnM, seqM, asgM, retM, dropM, op2, cM, cbM, consA, nilA, varM, notV, andV, orV, notB, andB, orB, asB, ifS, ifM, tupM, lstM, callM, slM, someM, noM, itM, rngM, Ask.forM, chM, joinM, negM, augM, nextM, raiseM, R.bind, R.of, toO, bInt, bLen, bType, bAll, bMax, bIsi, D.add, D.sub, D.mul, D.fdiv, D.mod, D.lt, D.le, D.gt, D.ge, D.eq, D.ne, D.is, D.isnt, D.inn, D.ix, D.sl, D.items, D.flat, D.isNon, D.tyN, scal, tgN, tg2, isT, kgetM, zipM, jsM, nilJ, consJ, fmtM, retMo, asgMo, dropMo, ifSo, augMo, forMo, newMo, appMo, retOwn, wipeE, m_is_kind, b_is_kind, c_KINDS, flats, inV, eqV]
theorem go_letters : ∀ (l : List Nat) (env : Sl), 2 ≤ env.length → (∀ c ∈ l, 97 ≤ c ∧ c ≤ 122) → lcGo (tgN 1) yesM (chM D.le D.le (cM (.str "a")) (varM 1) (cM (.str "z"))) env (l.map fun c => .str ⟨#[c]⟩) = .ok (l.map fun _ => .bl true)
  | [], env, _, _ => rfl
  | c :: l, env, he, h => by
    have ih := go_letters l env he (fun c hc => h c (List.mem_cons_of_mem _ hc))
    have hc := h c List.mem_cons_self
    have e1 : (env.set 1 (some (D.str ⟨#[c]⟩)))[1]? = some (some (D.str ⟨#[c]⟩)) := List.getElem?_set_self (by omega)
    have l1 : (Str.ofString "a").cps.toList = [97] := by decide
    have l2 : (Str.ofString "z").cps.toList = [122] := by decide
    simp only [List.map_cons, lcGo, tgN, yesM, R.bind, if_true, chM, cM, varM, e1, D.le, R.of, l1, l2]
    have g1 : decide ([c] < [97]) = false := decide_eq_false (by simp [List.cons_lt_cons_iff]; omega)
    have g2 : decide ([122] < [c]) = false := decide_eq_false (by simp [List.cons_lt_cons_iff]; omega)
    simp only [g1, g2, Bool.not_false, if_true, ih]
theorem bls_all (l : List Nat) : blsOf (l.map fun _ => D.bl true) = some (l.map fun _ => true) := by
  induction l with
  | nil => rfl
  | cons a r ih => simp only [List.map_cons, blsOf, ih]
theorem is_name_ok {x : Str} (h : GoodN x) : m_is_name [.str x] = .ok (.bl true) := by
  obtain ⟨h1, h2, h3⟩ := h
  have hl : x.length = x.cps.toList.length := by simp [Str.length]
  have g := go_letters x.cps.toList [some (.str x), none] (by simp) h3
  have hs : signs x = x.cps.toList.map fun c => .str ⟨#[c]⟩ := rfl
  have i1 : (1 : Int) ≤ (x.length : Int) := by omega
  have i2 : (x.length : Int) ≤ 8 := by omega
  have i3 : x.length ≤ 100000 := by omega
  have i4 : (signs x).length ≤ 50000 := by rw [hs, List.length_map]; omega
  simp (decide := true) [fnM, seqM, asgM, retM, dropM, op2, cM, cbM, consA, nilA, varM, notV, andV, orV, notB, andB, orB, asB, ifS, ifM, tupM, lstM, callM, slM, someM, noM, itM, rngM, Ask.forM, chM, joinM, negM, augM, nextM, raiseM, R.bind, R.of, toO, bInt, bLen, bType, bAll, bMax, bIsi, D.add, D.sub, D.mul, D.fdiv, D.mod, D.lt, D.le, D.gt, D.ge, D.eq, D.ne, D.is, D.isnt, D.inn, D.ix, D.sl, D.items, D.flat, D.isNon, D.tyN, scal, tgN, tg2, isT, kgetM, zipM, jsM, nilJ, consJ, fmtM, retMo, asgMo, dropMo, ifSo, augMo, forMo, newMo, appMo, retOwn, wipeE, m_is_name, b_is_name, le_is_name_0, c_LONGEST_NAME, i1, i2, i3, lcM, i4]
  rw [hs, g]
  simp [bls_all]
end My
namespace My
open PySem L2 Evl Ask
theorem form_of_num : m_form_of [.str "num"] = .ok (.ktup [.str "number"]) := by with_unfolding_all rfl
theorem form_of_name : m_form_of [.str "name"] = .ok (.ktup [.str "name"]) := by with_unfolding_all rfl
theorem form_of_sum : m_form_of [.str "sum"] = .ok (.ktup [.str "piece", .str "piece"]) := by with_unfolding_all rfl
theorem form_of_let : m_form_of [.str "let"] = .ok (.ktup [.str "name", .str "piece", .str "piece"]) := by with_unfolding_all rfl
theorem form_of_choose : m_form_of [.str "choose"] = .ok (.ktup [.str "piece", .str "piece", .str "piece"]) := by with_unfolding_all rfl
theorem form_of_ask : m_form_of [.str "ask"] = .ok (.ktup [.str "kind", .str "piece"]) := by with_unfolding_all rfl
theorem form_of_hand : m_form_of [.str "hand"] = .ok (.ktup [.str "kind", .str "name", .str "piece", .str "piece"]) := by with_unfolding_all rfl
theorem fits_number {n : Int} (h : 0 ≤ n ∧ n ≤ 999) : m_fits [.str "number", .int n] = .ok (.bl true) := by simp (decide := true) [fnM, seqM, asgM, retM, dropM, op2, cM, cbM, consA, nilA, varM, notV, andV, orV, notB, andB, orB, asB, ifS, ifM, tupM, lstM, callM, slM, someM, noM, itM, rngM, Ask.forM, chM, joinM, negM, augM, nextM, raiseM, R.bind, R.of, toO, bInt, bLen, bType, bAll, bMax, bIsi, D.add, D.sub, D.mul, D.fdiv, D.mod, D.lt, D.le, D.gt, D.ge, D.eq, D.ne, D.is, D.isnt, D.inn, D.ix, D.sl, D.items, D.flat, D.isNon, D.tyN, scal, tgN, tg2, isT, kgetM, zipM, jsM, nilJ, consJ, fmtM, retMo, asgMo, dropMo, ifSo, augMo, forMo, newMo, appMo, retOwn, wipeE, m_fits, b_fits, is_number_ok h]
theorem fits_name {x : Str} (h : GoodN x) : m_fits [.str "name", .str x] = .ok (.bl true) := by simp (decide := true) [fnM, seqM, asgM, retM, dropM, op2, cM, cbM, consA, nilA, varM, notV, andV, orV, notB, andB, orB, asB, ifS, ifM, tupM, lstM, callM, slM, someM, noM, itM, rngM, Ask.forM, chM, joinM, negM, augM, nextM, raiseM, R.bind, R.of, toO, bInt, bLen, bType, bAll, bMax, bIsi, D.add, D.sub, D.mul, D.fdiv, D.mod, D.lt, D.le, D.gt, D.ge, D.eq, D.ne, D.is, D.isnt, D.inn, D.ix, D.sl, D.items, D.flat, D.isNon, D.tyN, scal, tgN, tg2, isT, kgetM, zipM, jsM, nilJ, consJ, fmtM, retMo, asgMo, dropMo, ifSo, augMo, forMo, newMo, appMo, retOwn, wipeE, m_fits, b_fits, is_name_ok h]
theorem fits_kind {x : Str} (h : GoodK x) : m_fits [.str "kind", .str x] = .ok (.bl true) := by simp (decide := true) [fnM, seqM, asgM, retM, dropM, op2, cM, cbM, consA, nilA, varM, notV, andV, orV, notB, andB, orB, asB, ifS, ifM, tupM, lstM, callM, slM, someM, noM, itM, rngM, Ask.forM, chM, joinM, negM, augM, nextM, raiseM, R.bind, R.of, toO, bInt, bLen, bType, bAll, bMax, bIsi, D.add, D.sub, D.mul, D.fdiv, D.mod, D.lt, D.le, D.gt, D.ge, D.eq, D.ne, D.is, D.isnt, D.inn, D.ix, D.sl, D.items, D.flat, D.isNon, D.tyN, scal, tgN, tg2, isT, kgetM, zipM, jsM, nilJ, consJ, fmtM, retMo, asgMo, dropMo, ifSo, augMo, forMo, newMo, appMo, retOwn, wipeE, m_fits, b_fits, is_kind_ok h]
theorem fits_piece (d : D) : m_fits [.str "piece", d] = .ok (.bl true) := by simp (decide := true) [fnM, seqM, asgM, retM, dropM, op2, cM, cbM, consA, nilA, varM, notV, andV, orV, notB, andB, orB, asB, ifS, ifM, tupM, lstM, callM, slM, someM, noM, itM, rngM, Ask.forM, chM, joinM, negM, augM, nextM, raiseM, R.bind, R.of, toO, bInt, bLen, bType, bAll, bMax, bIsi, D.add, D.sub, D.mul, D.fdiv, D.mod, D.lt, D.le, D.gt, D.ge, D.eq, D.ne, D.is, D.isnt, D.inn, D.ix, D.sl, D.items, D.flat, D.isNon, D.tyN, scal, tgN, tg2, isT, kgetM, zipM, jsM, nilJ, consJ, fmtM, retMo, asgMo, dropMo, ifSo, augMo, forMo, newMo, appMo, retOwn, wipeE, m_fits, b_fits]
/-- what the form's check says -/
def fm : Pc → R D
  | .bad _ => .err "BadPiece"
  | _ => .ok .non
theorem check_form_ok : ∀ (p : Pc), p.Good → m_check_form [p.toD] = fm p
  | .bad d, h => h
  | .num n, h => by simp (decide := true) [fnM, seqM, asgM, retM, dropM, op2, cM, cbM, consA, nilA, varM, notV, andV, orV, notB, andB, orB, asB, ifS, ifM, tupM, lstM, callM, slM, someM, noM, itM, rngM, Ask.forM, chM, joinM, negM, augM, nextM, raiseM, R.bind, R.of, toO, bInt, bLen, bType, bAll, bMax, bIsi, D.add, D.sub, D.mul, D.fdiv, D.mod, D.lt, D.le, D.gt, D.ge, D.eq, D.ne, D.is, D.isnt, D.inn, D.ix, D.sl, D.items, D.flat, D.isNon, D.tyN, scal, tgN, tg2, isT, kgetM, zipM, jsM, nilJ, consJ, fmtM, retMo, asgMo, dropMo, ifSo, augMo, forMo, newMo, appMo, retOwn, wipeE, fm, m_check_form, b_check_form, lb_check_form_0, Pc.toD, atI_0, form_of_num, zipD, forGo, cutD, HT.sIx, fits_number h]
  | .name x, h => by simp (decide := true) [fnM, seqM, asgM, retM, dropM, op2, cM, cbM, consA, nilA, varM, notV, andV, orV, notB, andB, orB, asB, ifS, ifM, tupM, lstM, callM, slM, someM, noM, itM, rngM, Ask.forM, chM, joinM, negM, augM, nextM, raiseM, R.bind, R.of, toO, bInt, bLen, bType, bAll, bMax, bIsi, D.add, D.sub, D.mul, D.fdiv, D.mod, D.lt, D.le, D.gt, D.ge, D.eq, D.ne, D.is, D.isnt, D.inn, D.ix, D.sl, D.items, D.flat, D.isNon, D.tyN, scal, tgN, tg2, isT, kgetM, zipM, jsM, nilJ, consJ, fmtM, retMo, asgMo, dropMo, ifSo, augMo, forMo, newMo, appMo, retOwn, wipeE, fm, m_check_form, b_check_form, lb_check_form_0, Pc.toD, atI_0, form_of_name, zipD, forGo, cutD, HT.sIx, fits_name h]
  | .sum a b, h => by simp (decide := true) [fnM, seqM, asgM, retM, dropM, op2, cM, cbM, consA, nilA, varM, notV, andV, orV, notB, andB, orB, asB, ifS, ifM, tupM, lstM, callM, slM, someM, noM, itM, rngM, Ask.forM, chM, joinM, negM, augM, nextM, raiseM, R.bind, R.of, toO, bInt, bLen, bType, bAll, bMax, bIsi, D.add, D.sub, D.mul, D.fdiv, D.mod, D.lt, D.le, D.gt, D.ge, D.eq, D.ne, D.is, D.isnt, D.inn, D.ix, D.sl, D.items, D.flat, D.isNon, D.tyN, scal, tgN, tg2, isT, kgetM, zipM, jsM, nilJ, consJ, fmtM, retMo, asgMo, dropMo, ifSo, augMo, forMo, newMo, appMo, retOwn, wipeE, fm, m_check_form, b_check_form, lb_check_form_0, Pc.toD, atI_0, form_of_sum, zipD, forGo, cutD, HT.sIx, fits_piece]
  | .let_ x a b, h => by simp (decide := true) [fnM, seqM, asgM, retM, dropM, op2, cM, cbM, consA, nilA, varM, notV, andV, orV, notB, andB, orB, asB, ifS, ifM, tupM, lstM, callM, slM, someM, noM, itM, rngM, Ask.forM, chM, joinM, negM, augM, nextM, raiseM, R.bind, R.of, toO, bInt, bLen, bType, bAll, bMax, bIsi, D.add, D.sub, D.mul, D.fdiv, D.mod, D.lt, D.le, D.gt, D.ge, D.eq, D.ne, D.is, D.isnt, D.inn, D.ix, D.sl, D.items, D.flat, D.isNon, D.tyN, scal, tgN, tg2, isT, kgetM, zipM, jsM, nilJ, consJ, fmtM, retMo, asgMo, dropMo, ifSo, augMo, forMo, newMo, appMo, retOwn, wipeE, fm, m_check_form, b_check_form, lb_check_form_0, Pc.toD, atI_0, form_of_let, zipD, forGo, cutD, HT.sIx, fits_piece, fits_name h.1]
  | .choose a b c, h => by simp (decide := true) [fnM, seqM, asgM, retM, dropM, op2, cM, cbM, consA, nilA, varM, notV, andV, orV, notB, andB, orB, asB, ifS, ifM, tupM, lstM, callM, slM, someM, noM, itM, rngM, Ask.forM, chM, joinM, negM, augM, nextM, raiseM, R.bind, R.of, toO, bInt, bLen, bType, bAll, bMax, bIsi, D.add, D.sub, D.mul, D.fdiv, D.mod, D.lt, D.le, D.gt, D.ge, D.eq, D.ne, D.is, D.isnt, D.inn, D.ix, D.sl, D.items, D.flat, D.isNon, D.tyN, scal, tgN, tg2, isT, kgetM, zipM, jsM, nilJ, consJ, fmtM, retMo, asgMo, dropMo, ifSo, augMo, forMo, newMo, appMo, retOwn, wipeE, fm, m_check_form, b_check_form, lb_check_form_0, Pc.toD, atI_0, form_of_choose, zipD, forGo, cutD, HT.sIx, fits_piece]
  | .ask k a, h => by simp (decide := true) [fnM, seqM, asgM, retM, dropM, op2, cM, cbM, consA, nilA, varM, notV, andV, orV, notB, andB, orB, asB, ifS, ifM, tupM, lstM, callM, slM, someM, noM, itM, rngM, Ask.forM, chM, joinM, negM, augM, nextM, raiseM, R.bind, R.of, toO, bInt, bLen, bType, bAll, bMax, bIsi, D.add, D.sub, D.mul, D.fdiv, D.mod, D.lt, D.le, D.gt, D.ge, D.eq, D.ne, D.is, D.isnt, D.inn, D.ix, D.sl, D.items, D.flat, D.isNon, D.tyN, scal, tgN, tg2, isT, kgetM, zipM, jsM, nilJ, consJ, fmtM, retMo, asgMo, dropMo, ifSo, augMo, forMo, newMo, appMo, retOwn, wipeE, fm, m_check_form, b_check_form, lb_check_form_0, Pc.toD, atI_0, form_of_ask, zipD, forGo, cutD, HT.sIx, fits_piece, fits_kind h.1]
  | .hand k x a b, h => by simp (decide := true) [fnM, seqM, asgM, retM, dropM, op2, cM, cbM, consA, nilA, varM, notV, andV, orV, notB, andB, orB, asB, ifS, ifM, tupM, lstM, callM, slM, someM, noM, itM, rngM, Ask.forM, chM, joinM, negM, augM, nextM, raiseM, R.bind, R.of, toO, bInt, bLen, bType, bAll, bMax, bIsi, D.add, D.sub, D.mul, D.fdiv, D.mod, D.lt, D.le, D.gt, D.ge, D.eq, D.ne, D.is, D.isnt, D.inn, D.ix, D.sl, D.items, D.flat, D.isNon, D.tyN, scal, tgN, tg2, isT, kgetM, zipM, jsM, nilJ, consJ, fmtM, retMo, asgMo, dropMo, ifSo, augMo, forMo, newMo, appMo, retOwn, wipeE, fm, m_check_form, b_check_form, lb_check_form_0, Pc.toD, atI_0, form_of_hand, zipD, forGo, cutD, HT.sIx, fits_piece, fits_kind h.1, fits_name h.2.1]
end My
namespace My
open PySem L2 Evl Ask
theorem flats_str : ∀ (l : List Str), flats (l.map D.str) = some (l.map V.str)
  | [] => rfl
  | a :: r => by simp only [List.map_cons, flats, D.flat, flats_str r]
theorem inV_str (x : Str) : ∀ (l : List Str), inV (.str x) (l.map V.str) = l.contains x
  | [] => rfl
  | a :: r => by
    have ih := inV_str x r
    unfold inV at ih ⊢
    rw [List.map_cons, List.any_cons, ih, List.contains_cons]
    congr 1
    show (a == x) = (x == a)
    exact BEq.comm
theorem parts_num (n : Int) (t : List D) : m_parts_with_names [(Pc.num n).toD, .tup t] = .ok (.lst []) := by simp (decide := true) [fnM, seqM, asgM, retM, dropM, op2, cM, cbM, consA, nilA, varM, notV, andV, orV, notB, andB, orB, asB, ifS, ifM, tupM, lstM, callM, slM, someM, noM, itM, rngM, Ask.forM, chM, joinM, negM, augM, nextM, raiseM, R.bind, R.of, toO, bInt, bLen, bType, bAll, bMax, bIsi, D.add, D.sub, D.mul, D.fdiv, D.mod, D.lt, D.le, D.gt, D.ge, D.eq, D.ne, D.is, D.isnt, D.inn, D.ix, D.sl, D.items, D.flat, D.isNon, D.tyN, scal, tgN, tg2, isT, kgetM, zipM, jsM, nilJ, consJ, fmtM, retMo, asgMo, dropMo, ifSo, augMo, forMo, newMo, appMo, retOwn, wipeE, m_parts_with_names, b_parts_with_names, le_parts_with_names_0, Pc.toD, atI_0]
theorem parts_name (n : Str) (t : List D) : m_parts_with_names [(Pc.name n).toD, .tup t] = .ok (.lst []) := by simp (decide := true) [fnM, seqM, asgM, retM, dropM, op2, cM, cbM, consA, nilA, varM, notV, andV, orV, notB, andB, orB, asB, ifS, ifM, tupM, lstM, callM, slM, someM, noM, itM, rngM, Ask.forM, chM, joinM, negM, augM, nextM, raiseM, R.bind, R.of, toO, bInt, bLen, bType, bAll, bMax, bIsi, D.add, D.sub, D.mul, D.fdiv, D.mod, D.lt, D.le, D.gt, D.ge, D.eq, D.ne, D.is, D.isnt, D.inn, D.ix, D.sl, D.items, D.flat, D.isNon, D.tyN, scal, tgN, tg2, isT, kgetM, zipM, jsM, nilJ, consJ, fmtM, retMo, asgMo, dropMo, ifSo, augMo, forMo, newMo, appMo, retOwn, wipeE, m_parts_with_names, b_parts_with_names, le_parts_with_names_0, Pc.toD, atI_0]
theorem parts_sum (a b : Pc) (t : List D) : m_parts_with_names [(Pc.sum a b).toD, .tup t] = .ok (.lst [.tup [a.toD, .tup t], .tup [b.toD, .tup t]]) := by simp (decide := true) [fnM, seqM, asgM, retM, dropM, op2, cM, cbM, consA, nilA, varM, notV, andV, orV, notB, andB, orB, asB, ifS, ifM, tupM, lstM, callM, slM, someM, noM, itM, rngM, Ask.forM, chM, joinM, negM, augM, nextM, raiseM, R.bind, R.of, toO, bInt, bLen, bType, bAll, bMax, bIsi, D.add, D.sub, D.mul, D.fdiv, D.mod, D.lt, D.le, D.gt, D.ge, D.eq, D.ne, D.is, D.isnt, D.inn, D.ix, D.sl, D.items, D.flat, D.isNon, D.tyN, scal, tgN, tg2, isT, kgetM, zipM, jsM, nilJ, consJ, fmtM, retMo, asgMo, dropMo, ifSo, augMo, forMo, newMo, appMo, retOwn, wipeE, m_parts_with_names, b_parts_with_names, le_parts_with_names_0, Pc.toD, atI_0, lcM, lcGo, yesM, cutD, HT.sIx]
theorem parts_choose (a b c : Pc) (t : List D) : m_parts_with_names [(Pc.choose a b c).toD, .tup t] = .ok (.lst [.tup [a.toD, .tup t], .tup [b.toD, .tup t], .tup [c.toD, .tup t]]) := by simp (decide := true) [fnM, seqM, asgM, retM, dropM, op2, cM, cbM, consA, nilA, varM, notV, andV, orV, notB, andB, orB, asB, ifS, ifM, tupM, lstM, callM, slM, someM, noM, itM, rngM, Ask.forM, chM, joinM, negM, augM, nextM, raiseM, R.bind, R.of, toO, bInt, bLen, bType, bAll, bMax, bIsi, D.add, D.sub, D.mul, D.fdiv, D.mod, D.lt, D.le, D.gt, D.ge, D.eq, D.ne, D.is, D.isnt, D.inn, D.ix, D.sl, D.items, D.flat, D.isNon, D.tyN, scal, tgN, tg2, isT, kgetM, zipM, jsM, nilJ, consJ, fmtM, retMo, asgMo, dropMo, ifSo, augMo, forMo, newMo, appMo, retOwn, wipeE, m_parts_with_names, b_parts_with_names, le_parts_with_names_0, Pc.toD, atI_0, lcM, lcGo, yesM, cutD, HT.sIx]
theorem parts_ask (k : Str) (a : Pc) (t : List D) : m_parts_with_names [(Pc.ask k a).toD, .tup t] = .ok (.lst [.tup [a.toD, .tup t]]) := by simp (decide := true) [fnM, seqM, asgM, retM, dropM, op2, cM, cbM, consA, nilA, varM, notV, andV, orV, notB, andB, orB, asB, ifS, ifM, tupM, lstM, callM, slM, someM, noM, itM, rngM, Ask.forM, chM, joinM, negM, augM, nextM, raiseM, R.bind, R.of, toO, bInt, bLen, bType, bAll, bMax, bIsi, D.add, D.sub, D.mul, D.fdiv, D.mod, D.lt, D.le, D.gt, D.ge, D.eq, D.ne, D.is, D.isnt, D.inn, D.ix, D.sl, D.items, D.flat, D.isNon, D.tyN, scal, tgN, tg2, isT, kgetM, zipM, jsM, nilJ, consJ, fmtM, retMo, asgMo, dropMo, ifSo, augMo, forMo, newMo, appMo, retOwn, wipeE, m_parts_with_names, b_parts_with_names, le_parts_with_names_0, Pc.toD, atI_0, atI_2]
theorem parts_let (x : Str) (a b : Pc) (t : List D) (h : t.length ≤ 1000) : m_parts_with_names [(Pc.let_ x a b).toD, .tup t] = .ok (.lst [.tup [a.toD, .tup t], .tup [b.toD, .tup (t ++ [.str x])]]) := by
  have h2 : t.length + 1 ≤ 100000 := by omega
  simp (decide := true) [fnM, seqM, asgM, retM, dropM, op2, cM, cbM, consA, nilA, varM, notV, andV, orV, notB, andB, orB, asB, ifS, ifM, tupM, lstM, callM, slM, someM, noM, itM, rngM, Ask.forM, chM, joinM, negM, augM, nextM, raiseM, R.bind, R.of, toO, bInt, bLen, bType, bAll, bMax, bIsi, D.add, D.sub, D.mul, D.fdiv, D.mod, D.lt, D.le, D.gt, D.ge, D.eq, D.ne, D.is, D.isnt, D.inn, D.ix, D.sl, D.items, D.flat, D.isNon, D.tyN, scal, tgN, tg2, isT, kgetM, zipM, jsM, nilJ, consJ, fmtM, retMo, asgMo, dropMo, ifSo, augMo, forMo, newMo, appMo, retOwn, wipeE, m_parts_with_names, b_parts_with_names, le_parts_with_names_0, Pc.toD, atI_0, atI_1, atI_2, atI_3, h2]
theorem parts_hand (k x : Str) (a b : Pc) (t : List D) (h : t.length ≤ 1000) : m_parts_with_names [(Pc.hand k x a b).toD, .tup t] = .ok (.lst [.tup [a.toD, .tup (t ++ [.str x])], .tup [b.toD, .tup t]]) := by
  have h2 : t.length + 1 ≤ 100000 := by omega
  simp (decide := true) [fnM, seqM, asgM, retM, dropM, op2, cM, cbM, consA, nilA, varM, notV, andV, orV, notB, andB, orB, asB, ifS, ifM, tupM, lstM, callM, slM, someM, noM, itM, rngM, Ask.forM, chM, joinM, negM, augM, nextM, raiseM, R.bind, R.of, toO, bInt, bLen, bType, bAll, bMax, bIsi, D.add, D.sub, D.mul, D.fdiv, D.mod, D.lt, D.le, D.gt, D.ge, D.eq, D.ne, D.is, D.isnt, D.inn, D.ix, D.sl, D.items, D.flat, D.isNon, D.tyN, scal, tgN, tg2, isT, kgetM, zipM, jsM, nilJ, consJ, fmtM, retMo, asgMo, dropMo, ifSo, augMo, forMo, newMo, appMo, retOwn, wipeE, m_parts_with_names, b_parts_with_names, le_parts_with_names_0, Pc.toD, atI_0, atI_2, atI_3, atI_4, h2]
def toI (x : R Int) : R D := x.bind fun n => .ok (.int n)
theorem str_len_app (a b : Str) : (a ++ b).length = a.length + b.length := by
  show (a.cps ++ b.cps).size = _
  rw [Array.size_append]
  rfl
theorem chk_tall (p : Pc) (told : List Str) : chk p 31 told = .err "TooTall" := by
  cases p <;> (unfold chk; rfl)
theorem chk_num {l : Int} {told : List Str} {k : Int} (h : ¬ 30 < l) : chk (.num k) l told = .ok 1 := by unfold chk; rw [if_neg h]
theorem chk_name {l : Int} {told : List Str} {x : Str} (h : ¬ 30 < l) : chk (.name x) l told = if told.contains x = true then .ok 1 else .err "BadName" := by unfold chk; rw [if_neg h]
theorem chk_sum {l : Int} {told : List Str} {a b : Pc} (h : ¬ 30 < l) : chk (.sum a b) l told = (chk a (l + 1) told).bind fun n => (chk b (l + 1) told).bind fun m => .ok (1 + n + m) := by rw [chk, if_neg h]
theorem chk_let {l : Int} {told : List Str} {x : Str} {a b : Pc} (h : ¬ 30 < l) : chk (.let_ x a b) l told = (chk a (l + 1) told).bind fun n => (chk b (l + 1) (told ++ [x])).bind fun m => .ok (1 + n + m) := by rw [chk, if_neg h]
theorem chk_choose {l : Int} {told : List Str} {a b c : Pc} (h : ¬ 30 < l) : chk (.choose a b c) l told = (chk a (l + 1) told).bind fun n => (chk b (l + 1) told).bind fun m => (chk c (l + 1) told).bind fun k => .ok (1 + n + m + k) := by rw [chk, if_neg h]
theorem chk_ask {l : Int} {told : List Str} {k : Str} {a : Pc} (h : ¬ 30 < l) : chk (.ask k a) l told = (chk a (l + 1) told).bind fun n => .ok (1 + n) := by rw [chk, if_neg h]
theorem chk_hand {l : Int} {told : List Str} {k x : Str} {a b : Pc} (h : ¬ 30 < l) : chk (.hand k x a b) l told = (chk a (l + 1) (told ++ [x])).bind fun n => (chk b (l + 1) told).bind fun m => .ok (1 + n + m) := by rw [chk, if_neg h]
theorem chk_bad {l : Int} {told : List Str} {d : D} (h : ¬ 30 < l) : chk (.bad d) l told = .err "BadPiece" := by unfold chk; rw [if_neg h]
theorem checked_at_ok : ∀ (n : Nat) (p : Pc) (l : Int) (told : List Str), p.Good → 0 ≤ l → l ≤ 31 → 32 ≤ (n : Int) + l → (told.length : Int) ≤ l → m_checked_at n [p.toD, .int l, .tup (told.map D.str)] = toI (chk p l told)
  | 0, p, l, told, _, _, h1, h2, _ => by omega
  | n + 1, p, l, told, hg, h0, h1, h2, h3 => by
    have ih := checked_at_ok n
    have hc := check_form_ok p hg
    by_cases hl : l = 31
    · subst hl
      rw [chk_tall]
      simp (decide := true) [fnM, seqM, asgM, retM, dropM, op2, cM, cbM, consA, nilA, varM, notV, andV, orV, notB, andB, orB, asB, ifS, ifM, tupM, lstM, callM, slM, someM, noM, itM, rngM, Ask.forM, chM, joinM, negM, augM, nextM, raiseM, R.bind, R.of, toO, bInt, bLen, bType, bAll, bMax, bIsi, D.add, D.sub, D.mul, D.fdiv, D.mod, D.lt, D.le, D.gt, D.ge, D.eq, D.ne, D.is, D.isnt, D.inn, D.ix, D.sl, D.items, D.flat, D.isNon, D.tyN, scal, tgN, tg2, isT, kgetM, zipM, jsM, nilJ, consJ, fmtM, retMo, asgMo, dropMo, ifSo, augMo, forMo, newMo, appMo, retOwn, wipeE, fm, m_checked_at, b_checked_at, lb_checked_at_0, c_DEEPEST_LEVEL, toI]
    · have hd : decide (30 < l) = false := decide_eq_false (by omega)
      have hd' : ¬ 30 < l := by omega
      have ht : (told.map D.str).length ≤ 1000 := by rw [List.length_map]; omega
      have hx : ∀ d e : D, ∀ ds : List D, D.ix (.tup (d :: ds)) (.int 0) = some d := fun d e ds => by simp [D.ix, D.items, atI_0]
      cases p with
      | bad d =>
        rw [chk_bad hd']
        have hc' : m_check_form [d] = .err "BadPiece" := hc
        simp (decide := true) [fnM, seqM, asgM, retM, dropM, op2, cM, cbM, consA, nilA, varM, notV, andV, orV, notB, andB, orB, asB, ifS, ifM, tupM, lstM, callM, slM, someM, noM, itM, rngM, Ask.forM, chM, joinM, negM, augM, nextM, raiseM, R.bind, R.of, toO, bInt, bLen, bType, bAll, bMax, bIsi, D.add, D.sub, D.mul, D.fdiv, D.mod, D.lt, D.le, D.gt, D.ge, D.eq, D.ne, D.is, D.isnt, D.inn, D.ix, D.sl, D.items, D.flat, D.isNon, D.tyN, scal, tgN, tg2, isT, kgetM, zipM, jsM, nilJ, consJ, fmtM, retMo, asgMo, dropMo, ifSo, augMo, forMo, newMo, appMo, retOwn, wipeE, m_checked_at, b_checked_at, lb_checked_at_0, c_DEEPEST_LEVEL, toI, hd, hc', Pc.toD]
      | num k =>
        rw [chk_num hd']
        have hp : m_parts_with_names [.tup [.str "num", .int k], .tup (told.map D.str)] = _ := parts_num k (told.map D.str)
        have hc' : m_check_form [.tup [.str "num", .int k]] = _ := hc
        simp (decide := true) [fnM, seqM, asgM, retM, dropM, op2, cM, cbM, consA, nilA, varM, notV, andV, orV, notB, andB, orB, asB, ifS, ifM, tupM, lstM, callM, slM, someM, noM, itM, rngM, Ask.forM, chM, joinM, negM, augM, nextM, raiseM, R.bind, R.of, toO, bInt, bLen, bType, bAll, bMax, bIsi, D.add, D.sub, D.mul, D.fdiv, D.mod, D.lt, D.le, D.gt, D.ge, D.eq, D.ne, D.is, D.isnt, D.inn, D.ix, D.sl, D.items, D.flat, D.isNon, D.tyN, scal, tgN, tg2, isT, kgetM, zipM, jsM, nilJ, consJ, fmtM, retMo, asgMo, dropMo, ifSo, augMo, forMo, newMo, appMo, retOwn, wipeE, fm, m_checked_at, b_checked_at, lb_checked_at_0, c_DEEPEST_LEVEL, toI, hd, hc', Pc.toD, hp, forGo, atI_0]
      | name x =>
        rw [chk_name hd']
        have hp : m_parts_with_names [.tup [.str "name", .str x], .tup (told.map D.str)] = _ := parts_name x (told.map D.str)
        have hc' : m_check_form [.tup [.str "name", .str x]] = _ := hc
        have hl8 : x.length ≤ 8 := hg.2.1
        have hl9 : x.length ≤ 100000 := by omega
        have hl10 : (Str.ofString "no let or hand tells the name ").length = 30 := by decide
        have hl12 : Str.empty.length = 0 := rfl
        have hl11 : 30 + x.length ≤ 100000 := by omega
        by_cases hm : told.contains x = true
        · have hm1 : x ∈ told := List.contains_iff_mem.mp hm
          rw [if_pos hm]
          simp (decide := true) [fnM, seqM, asgM, retM, dropM, op2, cM, cbM, consA, nilA, varM, notV, andV, orV, notB, andB, orB, asB, ifS, ifM, tupM, lstM, callM, slM, someM, noM, itM, rngM, Ask.forM, chM, joinM, negM, augM, nextM, raiseM, R.bind, R.of, toO, bInt, bLen, bType, bAll, bMax, bIsi, D.add, D.sub, D.mul, D.fdiv, D.mod, D.lt, D.le, D.gt, D.ge, D.eq, D.ne, D.is, D.isnt, D.inn, D.ix, D.sl, D.items, D.flat, D.isNon, D.tyN, scal, tgN, tg2, isT, kgetM, zipM, jsM, nilJ, consJ, fmtM, retMo, asgMo, dropMo, ifSo, augMo, forMo, newMo, appMo, retOwn, wipeE, fm, m_checked_at, b_checked_at, lb_checked_at_0, c_DEEPEST_LEVEL, toI, hd, hc', Pc.toD, hp, forGo, atI_0, atI_1, flats_str, inV_str, hm1]
        · have hm' : x ∉ told := fun q => hm (List.contains_iff_mem.mpr q)
          rw [if_neg hm]
          simp (decide := true) [fnM, seqM, asgM, retM, dropM, op2, cM, cbM, consA, nilA, varM, notV, andV, orV, notB, andB, orB, asB, ifS, ifM, tupM, lstM, callM, slM, someM, noM, itM, rngM, Ask.forM, chM, joinM, negM, augM, nextM, raiseM, R.bind, R.of, toO, bInt, bLen, bType, bAll, bMax, bIsi, D.add, D.sub, D.mul, D.fdiv, D.mod, D.lt, D.le, D.gt, D.ge, D.eq, D.ne, D.is, D.isnt, D.inn, D.ix, D.sl, D.items, D.flat, D.isNon, D.tyN, scal, tgN, tg2, isT, kgetM, zipM, jsM, nilJ, consJ, fmtM, retMo, asgMo, dropMo, ifSo, augMo, forMo, newMo, appMo, retOwn, wipeE, fm, m_checked_at, b_checked_at, lb_checked_at_0, c_DEEPEST_LEVEL, toI, hd, hc', Pc.toD, hp, forGo, atI_0, atI_1, flats_str, inV_str, hm', hl9, str_len_app, hl10, hl11, hl12]
      | sum a b =>
        rw [chk_sum hd']
        have hp : m_parts_with_names [.tup [.str "sum", a.toD, b.toD], .tup (told.map D.str)] = _ := parts_sum a b (told.map D.str)
        have hc' : m_check_form [.tup [.str "sum", a.toD, b.toD]] = _ := hc
        have i1 := ih a (l + 1) told hg.1 (by omega) (by omega) (by omega) (by omega)
        have i2 := ih b (l + 1) told hg.2 (by omega) (by omega) (by omega) (by omega)
        simp (decide := true) [fnM, seqM, asgM, retM, dropM, op2, cM, cbM, consA, nilA, varM, notV, andV, orV, notB, andB, orB, asB, ifS, ifM, tupM, lstM, callM, slM, someM, noM, itM, rngM, Ask.forM, chM, joinM, negM, augM, nextM, raiseM, R.bind, R.of, toO, bInt, bLen, bType, bAll, bMax, bIsi, D.add, D.sub, D.mul, D.fdiv, D.mod, D.lt, D.le, D.gt, D.ge, D.eq, D.ne, D.is, D.isnt, D.inn, D.ix, D.sl, D.items, D.flat, D.isNon, D.tyN, scal, tgN, tg2, isT, kgetM, zipM, jsM, nilJ, consJ, fmtM, retMo, asgMo, dropMo, ifSo, augMo, forMo, newMo, appMo, retOwn, wipeE, fm, m_checked_at, b_checked_at, lb_checked_at_0, c_DEEPEST_LEVEL, toI, hd, hc', Pc.toD, hp, forGo, atI_0, atI_1, i1]
        cases chk a (l + 1) told with
        | err c => rfl
        | bad => rfl
        | ok n1 =>
          simp (decide := true) [fnM, seqM, asgM, retM, dropM, op2, cM, cbM, consA, nilA, varM, notV, andV, orV, notB, andB, orB, asB, ifS, ifM, tupM, lstM, callM, slM, someM, noM, itM, rngM, Ask.forM, chM, joinM, negM, augM, nextM, raiseM, R.bind, R.of, toO, bInt, bLen, bType, bAll, bMax, bIsi, D.add, D.sub, D.mul, D.fdiv, D.mod, D.lt, D.le, D.gt, D.ge, D.eq, D.ne, D.is, D.isnt, D.inn, D.ix, D.sl, D.items, D.flat, D.isNon, D.tyN, scal, tgN, tg2, isT, kgetM, zipM, jsM, nilJ, consJ, fmtM, retMo, asgMo, dropMo, ifSo, augMo, forMo, newMo, appMo, retOwn, wipeE, i2, toI]
          cases chk b (l + 1) told with
          | err c => rfl
          | bad => rfl
          | ok n2 => rfl
      | let_ x a b =>
        rw [chk_let hd']
        have hp : m_parts_with_names [.tup [.str "let", .str x, a.toD, b.toD], .tup (told.map D.str)] = _ := parts_let x a b (told.map D.str) ht
        have hc' : m_check_form [.tup [.str "let", .str x, a.toD, b.toD]] = _ := hc
        have i1 := ih a (l + 1) told hg.2.1 (by omega) (by omega) (by omega) (by omega)
        have i2 := ih b (l + 1) (told ++ [x]) hg.2.2 (by omega) (by omega) (by omega) (by rw [List.length_append, List.length_singleton]; omega)
        rw [List.map_append, List.map_cons, List.map_nil] at i2
        simp (decide := true) [fnM, seqM, asgM, retM, dropM, op2, cM, cbM, consA, nilA, varM, notV, andV, orV, notB, andB, orB, asB, ifS, ifM, tupM, lstM, callM, slM, someM, noM, itM, rngM, Ask.forM, chM, joinM, negM, augM, nextM, raiseM, R.bind, R.of, toO, bInt, bLen, bType, bAll, bMax, bIsi, D.add, D.sub, D.mul, D.fdiv, D.mod, D.lt, D.le, D.gt, D.ge, D.eq, D.ne, D.is, D.isnt, D.inn, D.ix, D.sl, D.items, D.flat, D.isNon, D.tyN, scal, tgN, tg2, isT, kgetM, zipM, jsM, nilJ, consJ, fmtM, retMo, asgMo, dropMo, ifSo, augMo, forMo, newMo, appMo, retOwn, wipeE, fm, m_checked_at, b_checked_at, lb_checked_at_0, c_DEEPEST_LEVEL, toI, hd, hc', Pc.toD, hp, forGo, atI_0, atI_1, i1]
        cases chk a (l + 1) told with
        | err c => rfl
        | bad => rfl
        | ok n1 =>
          simp (decide := true) [fnM, seqM, asgM, retM, dropM, op2, cM, cbM, consA, nilA, varM, notV, andV, orV, notB, andB, orB, asB, ifS, ifM, tupM, lstM, callM, slM, someM, noM, itM, rngM, Ask.forM, chM, joinM, negM, augM, nextM, raiseM, R.bind, R.of, toO, bInt, bLen, bType, bAll, bMax, bIsi, D.add, D.sub, D.mul, D.fdiv, D.mod, D.lt, D.le, D.gt, D.ge, D.eq, D.ne, D.is, D.isnt, D.inn, D.ix, D.sl, D.items, D.flat, D.isNon, D.tyN, scal, tgN, tg2, isT, kgetM, zipM, jsM, nilJ, consJ, fmtM, retMo, asgMo, dropMo, ifSo, augMo, forMo, newMo, appMo, retOwn, wipeE, i2, toI]
          cases chk b (l + 1) (told ++ [x]) with
          | err c => rfl
          | bad => rfl
          | ok n2 => rfl
      | choose a b c =>
        rw [chk_choose hd']
        have hp : m_parts_with_names [.tup [.str "choose", a.toD, b.toD, c.toD], .tup (told.map D.str)] = _ := parts_choose a b c (told.map D.str)
        have hc' : m_check_form [.tup [.str "choose", a.toD, b.toD, c.toD]] = _ := hc
        have i1 := ih a (l + 1) told hg.1 (by omega) (by omega) (by omega) (by omega)
        have i2 := ih b (l + 1) told hg.2.1 (by omega) (by omega) (by omega) (by omega)
        have i3 := ih c (l + 1) told hg.2.2 (by omega) (by omega) (by omega) (by omega)
        simp (decide := true) [fnM, seqM, asgM, retM, dropM, op2, cM, cbM, consA, nilA, varM, notV, andV, orV, notB, andB, orB, asB, ifS, ifM, tupM, lstM, callM, slM, someM, noM, itM, rngM, Ask.forM, chM, joinM, negM, augM, nextM, raiseM, R.bind, R.of, toO, bInt, bLen, bType, bAll, bMax, bIsi, D.add, D.sub, D.mul, D.fdiv, D.mod, D.lt, D.le, D.gt, D.ge, D.eq, D.ne, D.is, D.isnt, D.inn, D.ix, D.sl, D.items, D.flat, D.isNon, D.tyN, scal, tgN, tg2, isT, kgetM, zipM, jsM, nilJ, consJ, fmtM, retMo, asgMo, dropMo, ifSo, augMo, forMo, newMo, appMo, retOwn, wipeE, fm, m_checked_at, b_checked_at, lb_checked_at_0, c_DEEPEST_LEVEL, toI, hd, hc', Pc.toD, hp, forGo, atI_0, atI_1, i1]
        cases chk a (l + 1) told with
        | err c => rfl
        | bad => rfl
        | ok n1 =>
          simp (decide := true) [fnM, seqM, asgM, retM, dropM, op2, cM, cbM, consA, nilA, varM, notV, andV, orV, notB, andB, orB, asB, ifS, ifM, tupM, lstM, callM, slM, someM, noM, itM, rngM, Ask.forM, chM, joinM, negM, augM, nextM, raiseM, R.bind, R.of, toO, bInt, bLen, bType, bAll, bMax, bIsi, D.add, D.sub, D.mul, D.fdiv, D.mod, D.lt, D.le, D.gt, D.ge, D.eq, D.ne, D.is, D.isnt, D.inn, D.ix, D.sl, D.items, D.flat, D.isNon, D.tyN, scal, tgN, tg2, isT, kgetM, zipM, jsM, nilJ, consJ, fmtM, retMo, asgMo, dropMo, ifSo, augMo, forMo, newMo, appMo, retOwn, wipeE, i2, toI]
          cases chk b (l + 1) told with
          | err c => rfl
          | bad => rfl
          | ok n2 =>
            simp (decide := true) [fnM, seqM, asgM, retM, dropM, op2, cM, cbM, consA, nilA, varM, notV, andV, orV, notB, andB, orB, asB, ifS, ifM, tupM, lstM, callM, slM, someM, noM, itM, rngM, Ask.forM, chM, joinM, negM, augM, nextM, raiseM, R.bind, R.of, toO, bInt, bLen, bType, bAll, bMax, bIsi, D.add, D.sub, D.mul, D.fdiv, D.mod, D.lt, D.le, D.gt, D.ge, D.eq, D.ne, D.is, D.isnt, D.inn, D.ix, D.sl, D.items, D.flat, D.isNon, D.tyN, scal, tgN, tg2, isT, kgetM, zipM, jsM, nilJ, consJ, fmtM, retMo, asgMo, dropMo, ifSo, augMo, forMo, newMo, appMo, retOwn, wipeE, i3, toI]
            cases chk c (l + 1) told with
            | err c => rfl
            | bad => rfl
            | ok n3 => rfl
      | ask k a =>
        rw [chk_ask hd']
        have hp : m_parts_with_names [.tup [.str "ask", .str k, a.toD], .tup (told.map D.str)] = _ := parts_ask k a (told.map D.str)
        have hc' : m_check_form [.tup [.str "ask", .str k, a.toD]] = _ := hc
        have i1 := ih a (l + 1) told hg.2 (by omega) (by omega) (by omega) (by omega)
        simp (decide := true) [fnM, seqM, asgM, retM, dropM, op2, cM, cbM, consA, nilA, varM, notV, andV, orV, notB, andB, orB, asB, ifS, ifM, tupM, lstM, callM, slM, someM, noM, itM, rngM, Ask.forM, chM, joinM, negM, augM, nextM, raiseM, R.bind, R.of, toO, bInt, bLen, bType, bAll, bMax, bIsi, D.add, D.sub, D.mul, D.fdiv, D.mod, D.lt, D.le, D.gt, D.ge, D.eq, D.ne, D.is, D.isnt, D.inn, D.ix, D.sl, D.items, D.flat, D.isNon, D.tyN, scal, tgN, tg2, isT, kgetM, zipM, jsM, nilJ, consJ, fmtM, retMo, asgMo, dropMo, ifSo, augMo, forMo, newMo, appMo, retOwn, wipeE, fm, m_checked_at, b_checked_at, lb_checked_at_0, c_DEEPEST_LEVEL, toI, hd, hc', Pc.toD, hp, forGo, atI_0, atI_1, i1]
        cases chk a (l + 1) told with
        | err c => rfl
        | bad => rfl
        | ok n1 => rfl
      | hand k x a b =>
        rw [chk_hand hd']
        have hp : m_parts_with_names [.tup [.str "hand", .str k, .str x, a.toD, b.toD], .tup (told.map D.str)] = _ := parts_hand k x a b (told.map D.str) ht
        have hc' : m_check_form [.tup [.str "hand", .str k, .str x, a.toD, b.toD]] = _ := hc
        have i1 := ih a (l + 1) (told ++ [x]) hg.2.2.1 (by omega) (by omega) (by omega) (by rw [List.length_append, List.length_singleton]; omega)
        have i2 := ih b (l + 1) told hg.2.2.2 (by omega) (by omega) (by omega) (by omega)
        rw [List.map_append, List.map_cons, List.map_nil] at i1
        simp (decide := true) [fnM, seqM, asgM, retM, dropM, op2, cM, cbM, consA, nilA, varM, notV, andV, orV, notB, andB, orB, asB, ifS, ifM, tupM, lstM, callM, slM, someM, noM, itM, rngM, Ask.forM, chM, joinM, negM, augM, nextM, raiseM, R.bind, R.of, toO, bInt, bLen, bType, bAll, bMax, bIsi, D.add, D.sub, D.mul, D.fdiv, D.mod, D.lt, D.le, D.gt, D.ge, D.eq, D.ne, D.is, D.isnt, D.inn, D.ix, D.sl, D.items, D.flat, D.isNon, D.tyN, scal, tgN, tg2, isT, kgetM, zipM, jsM, nilJ, consJ, fmtM, retMo, asgMo, dropMo, ifSo, augMo, forMo, newMo, appMo, retOwn, wipeE, fm, m_checked_at, b_checked_at, lb_checked_at_0, c_DEEPEST_LEVEL, toI, hd, hc', Pc.toD, hp, forGo, atI_0, atI_1, i1]
        cases chk a (l + 1) (told ++ [x]) with
        | err c => rfl
        | bad => rfl
        | ok n1 =>
          simp (decide := true) [fnM, seqM, asgM, retM, dropM, op2, cM, cbM, consA, nilA, varM, notV, andV, orV, notB, andB, orB, asB, ifS, ifM, tupM, lstM, callM, slM, someM, noM, itM, rngM, Ask.forM, chM, joinM, negM, augM, nextM, raiseM, R.bind, R.of, toO, bInt, bLen, bType, bAll, bMax, bIsi, D.add, D.sub, D.mul, D.fdiv, D.mod, D.lt, D.le, D.gt, D.ge, D.eq, D.ne, D.is, D.isnt, D.inn, D.ix, D.sl, D.items, D.flat, D.isNon, D.tyN, scal, tgN, tg2, isT, kgetM, zipM, jsM, nilJ, consJ, fmtM, retMo, asgMo, dropMo, ifSo, augMo, forMo, newMo, appMo, retOwn, wipeE, i2, toI]
          cases chk b (l + 1) told with
          | err c => rfl
          | bad => rfl
          | ok n2 => rfl
theorem checked_ok (p : Pc) (h : p.Good) : m_checked [p.toD] = toI (chk p 1 []) := by
  have i := checked_at_ok 40 p 1 [] h (by omega) (by omega) (by omega) (by simp)
  rw [List.map_nil] at i
  simp (decide := true) [fnM, seqM, asgM, retM, dropM, op2, cM, cbM, consA, nilA, varM, notV, andV, orV, notB, andB, orB, asB, ifS, ifM, tupM, lstM, callM, slM, someM, noM, itM, rngM, Ask.forM, chM, joinM, negM, augM, nextM, raiseM, R.bind, R.of, toO, bInt, bLen, bType, bAll, bMax, bIsi, D.add, D.sub, D.mul, D.fdiv, D.mod, D.lt, D.le, D.gt, D.ge, D.eq, D.ne, D.is, D.isnt, D.inn, D.ix, D.sl, D.items, D.flat, D.isNon, D.tyN, scal, tgN, tg2, isT, kgetM, zipM, jsM, nilJ, consJ, fmtM, retMo, asgMo, dropMo, ifSo, augMo, forMo, newMo, appMo, retOwn, wipeE, m_checked, b_checked, i]
  cases chk p 1 [] <;> rfl
end My
namespace My
open PySem L2 Evl Ask
theorem forGo_inv {b : D → Sl → Option Sl} {body : Sl → O} (P : Nat → Sl → Prop) : ∀ (ds : List D) (k : Nat) (env : Sl), P k env → (∀ i d env, k ≤ i → ds[i - k]? = some d → P i env → ∃ e1 e2, b d env = some e1 ∧ body e1 = .nx e2 ∧ P (i + 1) e2) → ∃ e', forGo b body ds env = .nx e' ∧ P (k + ds.length) e'
  | [], k, env, h, _ => ⟨env, rfl, h⟩
  | d :: ds, k, env, h, st => by
    obtain ⟨e1, e2, h1, h2, h3⟩ := st k d env (Nat.le_refl _) (by rw [Nat.sub_self]; rfl) h
    obtain ⟨e', g1, g2⟩ := forGo_inv (b := b) (body := body) P ds (k + 1) e2 h3 (fun i d' env' hi hd hp => st i d' env' (by omega) (by
      have : i - k = (i - (k + 1)) + 1 := by omega
      rw [this]; exact hd) hp)
    refine ⟨e', ?_, by rw [List.length_cons]; rw [show k + (ds.length + 1) = k + 1 + ds.length by omega]; exact g2⟩
    simp only [forGo, h1, h2, g1]
theorem lcGo_all {b : D → Sl → Option Sl} {el : Sl → R D} {env : Sl} (P : D → Prop) : ∀ ds : List D, (∀ d ∈ ds, ∃ e1 y, b d env = some e1 ∧ el e1 = .ok y ∧ P y) → ∃ ys, lcGo b yesM el env ds = .ok ys ∧ ys.length = ds.length ∧ ∀ y ∈ ys, P y
  | [], _ => ⟨[], rfl, rfl, fun _ h => by cases h⟩
  | d :: ds, h => by
    obtain ⟨e1, y, h1, h2, h3⟩ := h d List.mem_cons_self
    obtain ⟨ys, g1, g2, g3⟩ := lcGo_all (b := b) (el := el) (env := env) P ds (fun d hd => h d (List.mem_cons_of_mem _ hd))
    refine ⟨y :: ys, ?_, by simp [g2], fun z hz => ?_⟩
    · simp only [lcGo, h1, yesM, R.bind, if_true, h2, g1]
    · rcases List.mem_cons.mp hz with rfl | hz
      · exact h3
      · exact g3 z hz
theorem rangeD_get {lo : Int} {n i : Nat} {d : D} (h : (rangeD lo n)[i]? = some d) : i < n ∧ d = .int (lo + i) := by
  unfold rangeD at h
  rw [List.getElem?_map] at h
  cases hr : (List.range n)[i]? with
  | none => rw [hr] at h; cases h
  | some j =>
    rw [hr] at h
    cases h
    obtain ⟨h1, h2⟩ := List.getElem?_eq_some_iff.mp hr
    rw [List.getElem_range] at h2
    rw [List.length_range] at h1
    exact ⟨h1, by rw [h2]⟩
theorem rangeD_mem {n : Nat} {d : D} (h : d ∈ rangeD 0 n) : ∃ i : Nat, i < n ∧ d = .int (i : Int) := by
  obtain ⟨i, hi⟩ := List.getElem?_of_mem h
  obtain ⟨h1, h2⟩ := rangeD_get hi
  exact ⟨i, h1, by rw [h2, Int.zero_add]⟩
theorem rangeD_len {lo : Int} {n : Nat} : (rangeD lo n).length = n := by unfold rangeD; rw [List.length_map, List.length_range]
theorem atI_mem {α : Type} {xs : List α} {i : Int} (h0 : 0 ≤ i) (h1 : i < xs.length) : ∃ d ∈ xs, atI xs i = some d := by
  obtain ⟨k, rfl⟩ : ∃ k : Nat, i = k := ⟨i.toNat, by omega⟩
  rw [atI_int]
  have hk : k < xs.length := by omega
  exact ⟨xs[k], List.getElem_mem hk, List.getElem?_eq_getElem hk⟩
theorem cell_at (ns : List Int) (k : Nat) : m_l_cell_at [.klst (ns.map D.int), .int k] = .ok (.int (ns.getD k 0)) := by
  simp (decide := true) [fnM, seqM, asgM, retM, dropM, op2, cM, cbM, consA, nilA, varM, notV, andV, orV, notB, andB, orB, asB, ifS, ifM, tupM, lstM, callM, slM, someM, noM, itM, rngM, Ask.forM, chM, joinM, negM, augM, nextM, raiseM, R.bind, R.of, toO, bInt, bLen, bType, bAll, bMax, bIsi, D.add, D.sub, D.mul, D.fdiv, D.mod, D.lt, D.le, D.gt, D.ge, D.eq, D.ne, D.is, D.isnt, D.inn, D.ix, D.sl, D.items, D.flat, D.isNon, D.tyN, scal, tgN, tg2, isT, kgetM, zipM, jsM, nilJ, consJ, fmtM, retMo, asgMo, dropMo, ifSo, augMo, forMo, newMo, appMo, retOwn, wipeE, m_l_cell_at, b_l_cell_at, atI_int]
  by_cases h : k < ns.length
  · simp [h]
  · simp [h]
theorem mixed_ok (c k : Int) : ∃ r, m_l_mixed [.int c, .int k] = .ok (.int r) ∧ 0 ≤ r ∧ r < 2147483647 := by
  have h1 := Int.emod_nonneg ((c + 7 * k + 3) * 48271) (by decide : (2147483647 : Int) ≠ 0)
  have h2 := Int.emod_lt_of_pos ((c + 7 * k + 3) * 48271) (by decide : (0 : Int) < 2147483647)
  generalize hr : ((c + 7 * k + 3) * 48271) % 2147483647 = r at h1 h2
  have h3 := Int.emod_nonneg (r * r) (by decide : (2147483647 : Int) ≠ 0)
  have h4 := Int.emod_lt_of_pos (r * r) (by decide : (0 : Int) < 2147483647)
  refine ⟨r * r % 2147483647, ?_, h3, h4⟩
  have hc : -18446744073709551616 < r ∧ r < 18446744073709551616 := by omega
  simp (decide := true) [fnM, seqM, asgM, retM, dropM, op2, cM, cbM, consA, nilA, varM, notV, andV, orV, notB, andB, orB, asB, ifS, ifM, tupM, lstM, callM, slM, someM, noM, itM, rngM, Ask.forM, chM, joinM, negM, augM, nextM, raiseM, R.bind, R.of, toO, bInt, bLen, bType, bAll, bMax, bIsi, D.add, D.sub, D.mul, D.fdiv, D.mod, D.lt, D.le, D.gt, D.ge, D.eq, D.ne, D.is, D.isnt, D.inn, D.ix, D.sl, D.items, D.flat, D.isNon, D.tyN, scal, tgN, tg2, isT, kgetM, zipM, jsM, nilJ, consJ, fmtM, retMo, asgMo, dropMo, ifSo, augMo, forMo, newMo, appMo, retOwn, wipeE, m_l_mixed, b_l_mixed, hr, hc]
theorem kit_str_str : kitB "str" "str" = some true := by decide +kernel
theorem kit_int_str : kitB "int" "str" = some false := by decide +kernel
theorem kit_int_int : kitB "int" "int" = some true := by decide +kernel
theorem kit_int_bool : kitB "int" "bool" = some false := by decide +kernel
theorem kit_str_int : kitB "str" "int" = some false := by decide +kernel
theorem kit_bool_int : kitB "bool" "int" = some true := by decide +kernel
theorem kit_bool_bool : kitB "bool" "bool" = some true := by decide +kernel
theorem ans1 : ansE "TooTall" = .ok (.str "tall") := rfl
theorem ans2 : ansE "BadName" = .ok (.str "name") := rfl
theorem ans3 : ansE "BadPiece" = .ok (.str "piece") := rfl
theorem whole_ok (n : Int) : m_l_whole [.int n] = .ok (.bl true) := by
  simp (decide := true) [fnM, seqM, asgM, retM, dropM, op2, cM, cbM, consA, nilA, varM, notV, andV, orV, notB, andB, orB, asB, ifS, ifM, tupM, lstM, callM, slM, someM, noM, itM, rngM, Ask.forM, chM, joinM, negM, augM, nextM, raiseM, R.bind, R.of, toO, bInt, bLen, bType, bAll, bMax, bIsi, D.add, D.sub, D.mul, D.fdiv, D.mod, D.lt, D.le, D.gt, D.ge, D.eq, D.ne, D.is, D.isnt, D.inn, D.ix, D.sl, D.items, D.flat, D.isNon, D.tyN, scal, tgN, tg2, isT, kgetM, zipM, jsM, nilJ, consJ, fmtM, retMo, asgMo, dropMo, ifSo, augMo, forMo, newMo, appMo, retOwn, wipeE, m_l_whole, b_l_whole, kit_int_int, kit_int_bool]
end My
namespace My
open PySem L2 Evl Ask
def badsA : List D := [
  .non,
  .int 7,
  .str "num",
  .lst [],
  .tup [],
  .tup [.str "num"],
  .tup [.str "num", .int (-1)],
  .tup [.str "num", .int 1000],
  .tup [.str "num", .bl true],
  .tup [.str "num", .str "1"],
  .tup [.str "num", .non],
  .tup [.str "num", .int 1, .int 2],
  .lst [.str "num", .int 1],
  .tup [.str "name", .str ""],
  .tup [.str "name", .str "abcdefghi"],
  .tup [.str "name", .str "a1"],
  .tup [.str "name", .str "Ab"],
  .tup [.str "name", .int 5],
  .tup [.str "name", .str "0"],
  .tup [.str "name"],
  .tup [.str "sum", .tup [.str "num", .int 1]],
  .tup [.str "Sum", .tup [.str "num", .int 1], .tup [.str "num", .int 1]],
  .tup [.str "let", .str "a", .tup [.str "num", .int 1]],
  .tup [.str "let", .str "", .tup [.str "num", .int 1], .tup [.str "num", .int 1]],
  .tup [.str "let", .int 1, .tup [.str "num", .int 1], .tup [.str "num", .int 1]],
  .tup [.str "let", .str "a b", .tup [.str "num", .int 1], .tup [.str "num", .int 1]],
  .tup [.str "choose", .tup [.str "num", .int 1], .tup [.str "num", .int 2]],
  .tup [.str "ask", .str "line"],
  .tup [.str "ask", .str "lines", .tup [.str "num", .int 1]],
  .tup [.str "ask", .non, .tup [.str "num", .int 1]],
  .tup [.str "ask", .str "Coin", .tup [.str "num", .int 1]],
  .tup [.int 1, .int 2],
  .tup [.str "ask", .str "", .tup [.str "num", .int 1]],
  .tup [.str "ask", .str "coin", .tup [.str "num", .int 1], .tup [.str "num", .int 1]],
  .tup [.str "hand", .str "coin", .str "a", .tup [.str "num", .int 1]],
  .tup [.str "hand", .str "line ", .str "a", .tup [.str "num", .int 1], .tup [.str "num", .int 1]],
  .tup [.str "hand", .str "fail", .str "", .tup [.str "num", .int 1], .tup [.str "num", .int 1]],
  .tup [.str "hand", .str "fail", .int 3, .tup [.str "num", .int 1], .tup [.str "num", .int 1]],
  .tup [.str "hand", .int 0, .str "a", .tup [.str "num", .int 1], .tup [.str "num", .int 1]],
  .tup [.non, .int 1]]
def badsB : List D := [
  .tup [.str "sum", .tup [.str "num", .int 1], .int 5],
  .tup [.str "sum", .int 5, .tup [.str "num", .int 1]],
  .tup [.str "ask", .str "coin", .str "num"],
  .tup [.str "let", .str "a", .int 1, .tup [.str "num", .int 1]],
  .tup [.str "choose", .tup [.str "num", .int 0], .tup [.str "num", .int 1], .non],
  .tup [.str "hand", .str "coin", .str "a", .tup [.str "num", .int 1], .lst [.tup [.str "num", .int 1]]]]
def badsC : List D := [
  .tup [.str "sum"],
  .tup [.str "", .int 1],
  .tup [.str "ask", .tup [.str "line"], .tup [.str "num", .int 1]],
  .tup [.str "name", .non],
  .tup [.tup [.str "num", .int 1]],
  .tup [.str "hand", .str "coin", .str "A", .tup [.str "num", .int 1], .tup [.str "num", .int 1]],
  .tup [.str "hand", .str "line", .non, .tup [.str "num", .int 1], .tup [.str "num", .int 1]],
  .tup [.str "hand", .str "coin", .str "a1", .tup [.str "num", .int 1], .tup [.str "num", .int 1]],
  .tup [.lst [.str "num"], .int 1],
  .tup [.dct [], .int 1],
  .tup [.str "name", .lst [.str "a"]],
  .tup [.str "ask", .lst [.str "line"], .tup [.str "num", .int 1]],
  .tup [.str "hand", .dct [], .str "a", .tup [.str "num", .int 1], .tup [.str "num", .int 1]],
  .tup [.str "let", .lst [.str "a"], .tup [.str "num", .int 1], .tup [.str "num", .int 1]]]
theorem bads_len : (badsA ++ (badsB ++ badsC)).length = 60 := rfl
theorem bads_is (n : Int) : m_l_bad [.int n] = (match D.ix (.lst (badsA ++ (badsB ++ badsC))) (.int (n % 60)) with
  | some d => .ok d
  | none => .bad) := by
  cases h : atI (badsA ++ (badsB ++ badsC)) (n % 60) with
  | none =>
    have h' := h
    simp only [badsA, badsB, badsC, List.cons_append, List.nil_append] at h'
    simp (decide := true) [fnM, seqM, asgM, retM, dropM, op2, cM, cbM, consA, nilA, varM, notV, andV, orV, notB, andB, orB, asB, ifS, ifM, tupM, lstM, callM, slM, someM, noM, itM, rngM, Ask.forM, chM, joinM, negM, augM, nextM, raiseM, R.bind, R.of, toO, bInt, bLen, bType, bAll, bMax, bIsi, D.add, D.sub, D.mul, D.fdiv, D.mod, D.lt, D.le, D.gt, D.ge, D.eq, D.ne, D.is, D.isnt, D.inn, D.ix, D.sl, D.items, D.flat, D.isNon, D.tyN, scal, tgN, tg2, isT, kgetM, zipM, jsM, nilJ, consJ, fmtM, retMo, asgMo, dropMo, ifSo, augMo, forMo, newMo, appMo, retOwn, wipeE, m_l_bad, b_l_bad, h, h']
  | some d =>
    have h' := h
    simp only [badsA, badsB, badsC, List.cons_append, List.nil_append] at h'
    simp (decide := true) [fnM, seqM, asgM, retM, dropM, op2, cM, cbM, consA, nilA, varM, notV, andV, orV, notB, andB, orB, asB, ifS, ifM, tupM, lstM, callM, slM, someM, noM, itM, rngM, Ask.forM, chM, joinM, negM, augM, nextM, raiseM, R.bind, R.of, toO, bInt, bLen, bType, bAll, bMax, bIsi, D.add, D.sub, D.mul, D.fdiv, D.mod, D.lt, D.le, D.gt, D.ge, D.eq, D.ne, D.is, D.isnt, D.inn, D.ix, D.sl, D.items, D.flat, D.isNon, D.tyN, scal, tgN, tg2, isT, kgetM, zipM, jsM, nilJ, consJ, fmtM, retMo, asgMo, dropMo, ifSo, augMo, forMo, newMo, appMo, retOwn, wipeE, m_l_bad, b_l_bad, h, h']
theorem badsA_no : (badsA.map fun d => m_check_form [d]) = List.replicate 40 (.err "BadPiece") := by kernel_rfl
theorem badsC_no : (badsC.map fun d => m_check_form [d]) = List.replicate 14 (.err "BadPiece") := by kernel_rfl
theorem bad_int (n : Int) : m_check_form [.int n] = .err "BadPiece" := by simp (decide := true) [fnM, seqM, asgM, retM, dropM, op2, cM, cbM, consA, nilA, varM, notV, andV, orV, notB, andB, orB, asB, ifS, ifM, tupM, lstM, callM, slM, someM, noM, itM, rngM, Ask.forM, chM, joinM, negM, augM, nextM, raiseM, R.bind, R.of, toO, bInt, bLen, bType, bAll, bMax, bIsi, D.add, D.sub, D.mul, D.fdiv, D.mod, D.lt, D.le, D.gt, D.ge, D.eq, D.ne, D.is, D.isnt, D.inn, D.ix, D.sl, D.items, D.flat, D.isNon, D.tyN, scal, tgN, tg2, isT, kgetM, zipM, jsM, nilJ, consJ, fmtM, retMo, asgMo, dropMo, ifSo, augMo, forMo, newMo, appMo, retOwn, wipeE, m_check_form, b_check_form]
theorem bad_str (n : Str) : m_check_form [.str n] = .err "BadPiece" := by simp (decide := true) [fnM, seqM, asgM, retM, dropM, op2, cM, cbM, consA, nilA, varM, notV, andV, orV, notB, andB, orB, asB, ifS, ifM, tupM, lstM, callM, slM, someM, noM, itM, rngM, Ask.forM, chM, joinM, negM, augM, nextM, raiseM, R.bind, R.of, toO, bInt, bLen, bType, bAll, bMax, bIsi, D.add, D.sub, D.mul, D.fdiv, D.mod, D.lt, D.le, D.gt, D.ge, D.eq, D.ne, D.is, D.isnt, D.inn, D.ix, D.sl, D.items, D.flat, D.isNon, D.tyN, scal, tgN, tg2, isT, kgetM, zipM, jsM, nilJ, consJ, fmtM, retMo, asgMo, dropMo, ifSo, augMo, forMo, newMo, appMo, retOwn, wipeE, m_check_form, b_check_form]
theorem bad_non : m_check_form [.non] = .err "BadPiece" := by simp (decide := true) [fnM, seqM, asgM, retM, dropM, op2, cM, cbM, consA, nilA, varM, notV, andV, orV, notB, andB, orB, asB, ifS, ifM, tupM, lstM, callM, slM, someM, noM, itM, rngM, Ask.forM, chM, joinM, negM, augM, nextM, raiseM, R.bind, R.of, toO, bInt, bLen, bType, bAll, bMax, bIsi, D.add, D.sub, D.mul, D.fdiv, D.mod, D.lt, D.le, D.gt, D.ge, D.eq, D.ne, D.is, D.isnt, D.inn, D.ix, D.sl, D.items, D.flat, D.isNon, D.tyN, scal, tgN, tg2, isT, kgetM, zipM, jsM, nilJ, consJ, fmtM, retMo, asgMo, dropMo, ifSo, augMo, forMo, newMo, appMo, retOwn, wipeE, m_check_form, b_check_form]
theorem bad_lst (ds : List D) : m_check_form [.lst ds] = .err "BadPiece" := by simp (decide := true) [fnM, seqM, asgM, retM, dropM, op2, cM, cbM, consA, nilA, varM, notV, andV, orV, notB, andB, orB, asB, ifS, ifM, tupM, lstM, callM, slM, someM, noM, itM, rngM, Ask.forM, chM, joinM, negM, augM, nextM, raiseM, R.bind, R.of, toO, bInt, bLen, bType, bAll, bMax, bIsi, D.add, D.sub, D.mul, D.fdiv, D.mod, D.lt, D.le, D.gt, D.ge, D.eq, D.ne, D.is, D.isnt, D.inn, D.ix, D.sl, D.items, D.flat, D.isNon, D.tyN, scal, tgN, tg2, isT, kgetM, zipM, jsM, nilJ, consJ, fmtM, retMo, asgMo, dropMo, ifSo, augMo, forMo, newMo, appMo, retOwn, wipeE, m_check_form, b_check_form]
/-- at no level that stands is it a piece -/
def NoPc (p : Pc) : Prop := p.Good ∧ ∀ (l : Int) (told : List Str), l ≤ 29 → chk p l told = .err "BadPiece"
theorem no_bad {d : D} (h : m_check_form [d] = .err "BadPiece") : NoPc (.bad d) := ⟨h, fun l told hl => chk_bad (by omega)⟩
theorem bad_ok (n : Int) : ∃ p : Pc, m_l_bad [.int n] = .ok p.toD ∧ NoPc p := by
  have h1 := Int.emod_nonneg n (by decide : (60 : Int) ≠ 0)
  have h2 := Int.emod_lt_of_pos n (by decide : (0 : Int) < 60)
  obtain ⟨d, hd, e⟩ := atI_mem (xs := badsA ++ (badsB ++ badsC)) h1 (by rw [bads_len]; omega)
  have hx : m_l_bad [.int n] = .ok d := by
    rw [bads_is]
    have : D.ix (.lst (badsA ++ (badsB ++ badsC))) (.int (n % 60)) = some d := by simp only [D.ix, D.items, e]
    rw [this]
  have hn : ∀ {xs : List D} {k : Nat}, d ∈ xs → (xs.map fun d => m_check_form [d]) = List.replicate k (.err "BadPiece") → NoPc (.bad d) := fun {xs k} hm he => by
    have hm2 : m_check_form [d] ∈ (xs.map fun d => m_check_form [d]) := List.mem_map.mpr ⟨d, hm, rfl⟩
    rw [he] at hm2
    exact no_bad (List.eq_of_mem_replicate hm2)
  rcases List.mem_append.mp hd with h | h
  · exact ⟨.bad d, hx, hn h badsA_no⟩
  · rcases List.mem_append.mp h with h | h
    · simp only [badsB, List.mem_cons, List.not_mem_nil, or_false] at h
      have g1 : (0 : Int) ≤ 1 ∧ (1 : Int) ≤ 999 := by omega
      have g0 : (0 : Int) ≤ 0 ∧ (0 : Int) ≤ 999 := by omega
      have ga : GoodN "a" := ⟨by decide, by decide, by decide⟩
      rcases h with rfl | rfl | rfl | rfl | rfl | rfl
      · exact ⟨.sum (.num 1) (.bad (.int 5)), hx, ⟨g1, bad_int 5⟩, fun l told hl => by rw [chk_sum (by omega), chk_num (by omega), chk_bad (by omega)]; rfl⟩
      · exact ⟨.sum (.bad (.int 5)) (.num 1), hx, ⟨bad_int 5, g1⟩, fun l told hl => by rw [chk_sum (by omega), chk_bad (by omega)]; rfl⟩
      · exact ⟨.ask "coin" (.bad (.str "num")), hx, ⟨.inl rfl, bad_str "num"⟩, fun l told hl => by rw [chk_ask (by omega), chk_bad (by omega)]; rfl⟩
      · exact ⟨.let_ "a" (.bad (.int 1)) (.num 1), hx, ⟨ga, bad_int 1, g1⟩, fun l told hl => by rw [chk_let (by omega), chk_bad (by omega)]; rfl⟩
      · exact ⟨.choose (.num 0) (.num 1) (.bad .non), hx, ⟨g0, g1, bad_non⟩, fun l told hl => by rw [chk_choose (by omega), chk_num (by omega), chk_num (by omega), chk_bad (by omega)]; rfl⟩
      · exact ⟨.hand "coin" "a" (.num 1) (.bad (.lst [.tup [.str "num", .int 1]])), hx, ⟨.inl rfl, ga, g1, bad_lst _⟩, fun l told hl => by rw [chk_hand (by omega), chk_num (by omega), chk_bad (by omega)]; rfl⟩
    · exact ⟨.bad d, hx, hn h badsC_no⟩
end My
namespace My
open PySem L2 Evl Ask
def lvl (way : Int) (x k : Str) (a b : Pc) : Pc :=
  if way = 0 then .sum a b else if way = 1 then .sum b a else if way = 2 then .let_ x a b else if way = 3 then .let_ x b a else if way = 4 then .choose a b b
  else if way = 5 then .choose b a b else if way = 6 then .choose b b a else if way = 7 then .ask k a else if way = 8 then .hand k x a b else .hand k x b a
theorem ten {way : Int} (hw : 0 ≤ way ∧ way < 10) : way = 0 ∨ way = 1 ∨ way = 2 ∨ way = 3 ∨ way = 4 ∨ way = 5 ∨ way = 6 ∨ way = 7 ∨ way = 8 ∨ way = 9 := by omega
theorem level_eq (way : Int) (hw : 0 ≤ way ∧ way < 10) (x k : Str) (a b : Pc) : m_l_level [.int way, .str x, .str k, a.toD, b.toD] = .ok (lvl way x k a b).toD := by
  rcases ten hw with rfl | rfl | rfl | rfl | rfl | rfl | rfl | rfl | rfl | rfl <;> simp (decide := true) [fnM, seqM, asgM, retM, dropM, op2, cM, cbM, consA, nilA, varM, notV, andV, orV, notB, andB, orB, asB, ifS, ifM, tupM, lstM, callM, slM, someM, noM, itM, rngM, Ask.forM, chM, joinM, negM, augM, nextM, raiseM, R.bind, R.of, toO, bInt, bLen, bType, bAll, bMax, bIsi, D.add, D.sub, D.mul, D.fdiv, D.mod, D.lt, D.le, D.gt, D.ge, D.eq, D.ne, D.is, D.isnt, D.inn, D.ix, D.sl, D.items, D.flat, D.isNon, D.tyN, scal, tgN, tg2, isT, kgetM, zipM, jsM, nilJ, consJ, fmtM, retMo, asgMo, dropMo, ifSo, augMo, forMo, newMo, appMo, retOwn, wipeE, m_l_level, b_l_level, atI_0, atI_1, Pc.toD, lvl]
theorem lvl_good (way : Int) (hw : 0 ≤ way ∧ way < 10) (x k : Str) (a b : Pc) (hx : GoodN x) (hk : GoodK k) (ha : a.Good) (hb : b.Good) : (lvl way x k a b).Good := by
  rcases ten hw with rfl | rfl | rfl | rfl | rfl | rfl | rfl | rfl | rfl | rfl
  · exact ⟨ha, hb⟩
  · exact ⟨hb, ha⟩
  · exact ⟨hx, ha, hb⟩
  · exact ⟨hx, hb, ha⟩
  · exact ⟨ha, hb, hb⟩
  · exact ⟨hb, ha, hb⟩
  · exact ⟨hb, hb, ha⟩
  · exact ⟨hk, ha⟩
  · exact ⟨hk, hx, ha, hb⟩
  · exact ⟨hk, hx, hb, ha⟩
inductive Due where
  | none | piece | name | tall
def Due.s : Due → Str
  | .none => ""
  | .piece => "piece"
  | .name => "name"
  | .tall => "tall"
def res : Due → Int → R Int
  | .none, m => .ok m
  | .piece, _ => .err "BadPiece"
  | .name, _ => .err "BadName"
  | .tall, _ => .err "TooTall"
theorem chk_high (p : Pc) {l : Int} (told : List Str) (h : 30 < l) : chk p l told = .err "TooTall" := by
  cases p <;> (unfold chk; rw [if_pos h])
/-- how many more -/
def wy (way : Int) : Int := if way < 4 then 2 else if way < 7 then 3 else if way < 8 then 1 else 2
/-- what is first on the left -/
def fst5 (way : Int) : Bool := decide (way = 1 ∨ way = 3 ∨ way = 5 ∨ way = 6 ∨ way = 9)
def Due.isN : Due → Bool
  | .none => true
  | _ => false
/-- what is due with a name that nothing tells -/
def dueN (way : Int) (du : Due) : Due := if (fst5 way || (du.isN && decide (way ≠ 7))) = true then .name else du
/-- a level that is not the lowest, round a num -/
theorem step_num (way : Int) (hw : 0 ≤ way ∧ way < 10) (x k : Str) (p : Pc) (n l m : Int) (du : Due) (told : List Str) (hl : l < 30) (h1 : chk p (l + 1) told = res du m) (h2 : chk p (l + 1) (told ++ [x]) = res du m) :
    chk (lvl way x k p (.num n)) l told = res du (m + wy way) := by
  have hn : ∀ t, chk (.num n) (l + 1) t = .ok 1 := fun t => chk_num (by omega)
  have hd : ¬ 30 < l := by omega
  rcases ten hw with rfl | rfl | rfl | rfl | rfl | rfl | rfl | rfl | rfl | rfl
  · show chk (.sum _ _) l told = _; rw [chk_sum hd]; cases du <;> simp [h1, hn, res, R.bind, wy] <;> omega
  · show chk (.sum _ _) l told = _; rw [chk_sum hd]; cases du <;> simp [h1, hn, res, R.bind, wy] <;> omega
  · show chk (.let_ _ _ _) l told = _; rw [chk_let hd]; cases du <;> simp [h1, h2, hn, res, R.bind, wy] <;> omega
  · show chk (.let_ _ _ _) l told = _; rw [chk_let hd]; cases du <;> simp [h1, h2, hn, res, R.bind, wy] <;> omega
  · show chk (.choose _ _ _) l told = _; rw [chk_choose hd]; cases du <;> simp [h1, h2, hn, res, R.bind, wy] <;> omega
  · show chk (.choose _ _ _) l told = _; rw [chk_choose hd]; cases du <;> simp [h1, h2, hn, res, R.bind, wy] <;> omega
  · show chk (.choose _ _ _) l told = _; rw [chk_choose hd]; cases du <;> simp [h1, h2, hn, res, R.bind, wy] <;> omega
  · show chk (.ask _ _) l told = _; rw [chk_ask hd]; cases du <;> simp [h1, h2, hn, res, R.bind, wy] <;> omega
  · show chk (.hand _ _ _ _) l told = _; rw [chk_hand hd]; cases du <;> simp [h1, h2, hn, res, R.bind, wy] <;> omega
  · show chk (.hand _ _ _ _) l told = _; rw [chk_hand hd]; cases du <;> simp [h1, h2, hn, res, R.bind, wy] <;> omega
/-- .. round a name that nothing tells -/
theorem step_name (way : Int) (hw : 0 ≤ way ∧ way < 10) (x k y : Str) (p : Pc) (l m : Int) (du : Due) (told : List Str) (hl : l < 30) (h1 : chk p (l + 1) told = res du m) (h2 : chk p (l + 1) (told ++ [x]) = res du m) (hy : y ∉ told) (hx : y ≠ x) :
    chk (lvl way x k p (.name y)) l told = res (dueN way du) (m + wy way) := by
  have hn : chk (.name y) (l + 1) told = .err "BadName" := by rw [chk_name (by omega), if_neg fun q => hy (List.contains_iff_mem.mp q)]
  have hn2 : chk (.name y) (l + 1) (told ++ [x]) = .err "BadName" := by
    rw [chk_name (by omega), if_neg fun q => ?_]
    rcases List.mem_append.mp (List.contains_iff_mem.mp q) with z | z
    · exact hy z
    · exact hx (List.mem_singleton.mp z)
  have hd : ¬ 30 < l := by omega
  rcases ten hw with rfl | rfl | rfl | rfl | rfl | rfl | rfl | rfl | rfl | rfl
  · show chk (.sum _ _) l told = _; rw [chk_sum hd]; cases du <;> simp [h1, hn, res, R.bind, wy, fst5, dueN, Due.isN]
  · show chk (.sum _ _) l told = _; rw [chk_sum hd]; cases du <;> simp [h1, hn, res, R.bind, wy, fst5, dueN, Due.isN]
  · show chk (.let_ _ _ _) l told = _; rw [chk_let hd]; cases du <;> simp [h1, h2, hn, hn2, res, R.bind, wy, fst5, dueN, Due.isN]
  · show chk (.let_ _ _ _) l told = _; rw [chk_let hd]; cases du <;> simp [h1, h2, hn, hn2, res, R.bind, wy, fst5, dueN, Due.isN]
  · show chk (.choose _ _ _) l told = _; rw [chk_choose hd]; cases du <;> simp [h1, h2, hn, hn2, res, R.bind, wy, fst5, dueN, Due.isN]
  · show chk (.choose _ _ _) l told = _; rw [chk_choose hd]; cases du <;> simp [h1, h2, hn, hn2, res, R.bind, wy, fst5, dueN, Due.isN]
  · show chk (.choose _ _ _) l told = _; rw [chk_choose hd]; cases du <;> simp [h1, h2, hn, hn2, res, R.bind, wy, fst5, dueN, Due.isN]
  · show chk (.ask _ _) l told = _; rw [chk_ask hd]; cases du <;> simp [h1, h2, hn, hn2, res, R.bind, wy, fst5, dueN, Due.isN] <;> omega
  · show chk (.hand _ _ _ _) l told = _; rw [chk_hand hd]; cases du <;> simp [h1, h2, hn, hn2, res, R.bind, wy, fst5, dueN, Due.isN]
  · show chk (.hand _ _ _ _) l told = _; rw [chk_hand hd]; cases du <;> simp [h1, h2, hn, hn2, res, R.bind, wy, fst5, dueN, Due.isN]
/-- .. at the lowest levels -/
theorem step_low (way : Int) (hw : 0 ≤ way ∧ way < 10) (x k : Str) (p q : Pc) (l : Int) (told : List Str) (hl : 30 ≤ l) : chk (lvl way x k p q) l told = .err "TooTall" := by
  by_cases h : 30 < l
  · exact chk_high _ told h
  · have hn : ∀ p t, chk p (l + 1) t = .err "TooTall" := fun p t => chk_high p t (by omega)
    rcases ten hw with rfl | rfl | rfl | rfl | rfl | rfl | rfl | rfl | rfl | rfl
    · show chk (.sum _ _) l told = _; rw [chk_sum h, hn]; rfl
    · show chk (.sum _ _) l told = _; rw [chk_sum h, hn]; rfl
    · show chk (.let_ _ _ _) l told = _; rw [chk_let h, hn]; rfl
    · show chk (.let_ _ _ _) l told = _; rw [chk_let h, hn]; rfl
    · show chk (.choose _ _ _) l told = _; rw [chk_choose h, hn]; rfl
    · show chk (.choose _ _ _) l told = _; rw [chk_choose h, hn]; rfl
    · show chk (.choose _ _ _) l told = _; rw [chk_choose h, hn]; rfl
    · show chk (.ask _ _) l told = _; rw [chk_ask h, hn]; rfl
    · show chk (.hand _ _ _ _) l told = _; rw [chk_hand h, hn]; rfl
    · show chk (.hand _ _ _ _) l told = _; rw [chk_hand h, hn]; rfl
/-- what holds of the tower when the next level is to stand at l -/
structure Tw (p : Pc) (du : Due) (m l : Int) : Prop where
  good : p.Good
  tall : 30 ≤ l → du = .tall
  is : ∀ told : List Str, ("abd" : Str) ∉ told → chk p (l + 1) told = res du m
theorem Tw.num {p : Pc} {du : Due} {m l : Int} (t : Tw p du m l) (way : Int) (hw : 0 ≤ way ∧ way < 10) (x k : Str) (hx : GoodN x) (hxa : ("abd" : Str) ≠ x) (hk : GoodK k) (n : Int) (hn : 0 ≤ n ∧ n ≤ 999) : Tw (lvl way x k p (.num n)) du (m + wy way) (l - 1) := by
  refine ⟨lvl_good way hw x k p _ hx hk t.good hn, fun h => t.tall (by omega), fun told h => ?_⟩
  rw [show l - 1 + 1 = l by omega]
  by_cases hl : 30 ≤ l
  · rw [step_low way hw x k p _ l told hl, t.tall hl]; rfl
  · exact step_num way hw x k p n l m du told (by omega) (t.is told h) (t.is _ fun z => by rcases List.mem_append.mp z with z | z; exact h z; exact hxa (List.mem_singleton.mp z))
theorem Tw.name {p : Pc} {du : Due} {m l : Int} (t : Tw p du m l) (way : Int) (hw : 0 ≤ way ∧ way < 10) (x k : Str) (hx : GoodN x) (hxa : ("abd" : Str) ≠ x) (hk : GoodK k) : Tw (lvl way x k p (.name "abd")) (if l < 30 then dueN way du else du) (m + wy way) (l - 1) := by
  refine ⟨lvl_good way hw x k p _ hx hk t.good ⟨by decide, by decide, by decide⟩, fun h => ?_, fun told h => ?_⟩
  · rw [if_neg (by omega)]; exact t.tall (by omega)
  · rw [show l - 1 + 1 = l by omega]
    by_cases hl : 30 ≤ l
    · rw [step_low way hw x k p _ l told hl, if_neg (by omega), t.tall hl]; rfl
    · rw [step_name way hw x k "abd" p l m du told (by omega) (t.is told h) (t.is _ fun z => by rcases List.mem_append.mp z with z | z; exact h z; exact hxa (List.mem_singleton.mp z)) h hxa]
      have hl2 : l < 30 := by omega
      rw [if_pos hl2]
end My
namespace My
open PySem L2 Evl Ask
theorem kind3 (m : Int) : ∃ k, GoodK k ∧ atI [D.str "coin", .str "fail", .str "line"] (m % 3) = some (.str k) := by
  have h1 := Int.emod_nonneg m (by decide : (3 : Int) ≠ 0)
  have h2 := Int.emod_lt_of_pos m (by decide : (0 : Int) < 3)
  have hc : m % 3 = 0 ∨ m % 3 = 1 ∨ m % 3 = 2 := by omega
  rcases hc with h | h | h
  · exact ⟨"coin", .inl rfl, by rw [h, atI_0]; rfl⟩
  · exact ⟨"fail", .inr (.inl rfl), by rw [h, atI_1]; rfl⟩
  · exact ⟨"line", .inr (.inr rfl), by rw [h, atI_2]; rfl⟩
theorem name7 (m : Int) : ∃ x, (GoodN x ∧ ("abd" : Str) ≠ x) ∧ atI [D.str "a", .str "ab", .str "abc", .str "abdd", .str "bd", .str "abe", .str "d"] (m % 7) = some (.str x) := by
  have h1 := Int.emod_nonneg m (by decide : (7 : Int) ≠ 0)
  have h2 := Int.emod_lt_of_pos m (by decide : (0 : Int) < 7)
  obtain ⟨d, hd, e⟩ := atI_mem (xs := [D.str "a", .str "ab", .str "abc", .str "abdd", .str "bd", .str "abe", .str "d"]) h1 (by simpa using h2)
  simp only [List.mem_cons, List.not_mem_nil, or_false] at hd
  rcases hd with rfl | rfl | rfl | rfl | rfl | rfl | rfl <;> exact ⟨_, ⟨⟨by decide, by decide, by decide⟩, by decide⟩, e⟩
theorem wy_at (way : Int) (hw : 0 ≤ way ∧ way < 10) : atI [D.int 2, .int 2, .int 2, .int 2, .int 3, .int 3, .int 3, .int 1, .int 2, .int 2] way = some (.int (wy way)) := by
  rcases ten hw with rfl | rfl | rfl | rfl | rfl | rfl | rfl | rfl | rfl | rfl <;> rfl
theorem inn5 (way : Int) : inV (.int way) [.int 1, .int 3, .int 5, .int 6, .int 9] = fst5 way := by
  have h : ∀ a : Int, (a == way) = decide (way = a) := fun a => by
    by_cases hh : way = a
    · subst hh; simp
    · rw [decide_eq_false hh]; exact beq_eq_false_iff_ne.mpr (Ne.symm hh)
  simp [inV, eqV, fst5, h]
abbrev Env (a b c : D) (p : Pc) (du : Due) (m L : Int) (x7 x9 x10 x11 x12 : Option D) : Sl := [some a, some b, some c, some p.toD, some (.str du.s), some (.int m), some (.int L), x7, none, x9, x10, x11, x12]
theorem turn_ok (a b : D) (c : Int) (p : Pc) (du : Due) (m L k : Int) (hk : 0 ≤ k ∧ k < L ∧ L ≤ 31) (t : Tw p du m (L - k)) (x9 x10 x11 x12 : Option D) :
    ∃ (q : Pc) (du2 : Due) (m2 : Int) (y9 y10 y11 y12 : Option D), Tw q du2 m2 (L - (k + 1)) ∧ lb_l_holds_0 (Env a b (.int c) p du m L (some (.int k)) x9 x10 x11 x12) = .nx (Env a b (.int c) q du2 m2 L (some (.int k)) y9 y10 y11 y12) := by
  obtain ⟨r, r1, r2, r3⟩ := mixed_ok c k
  obtain ⟨x, ⟨hx, hxa⟩, e1⟩ := name7 (r / 80)
  obtain ⟨ka, hka, e2⟩ := kind3 k
  have w1 := Int.emod_nonneg r (by decide : (10 : Int) ≠ 0)
  have w2 := Int.emod_lt_of_pos r (by decide : (0 : Int) < 10)
  have e3 := wy_at (r % 10) ⟨w1, w2⟩
  have hl : L - (k + 1) = L - k - 1 := by omega
  have e4 : inV (.int (r % 10)) [.int 1, .int 3, .int 5, .int 6, .int 9] = fst5 (r % 10) := inn5 (r % 10)
  rw [hl]
  have tn := t.num (r % 10) ⟨w1, w2⟩ x ka hx hxa hka k ⟨by omega, by omega⟩
  have tm := t.name (r % 10) ⟨w1, w2⟩ x ka hx hxa hka
  have l1 := level_eq (r % 10) ⟨w1, w2⟩ x ka p (.num k)
  have l2 := level_eq (r % 10) ⟨w1, w2⟩ x ka p (.name "abd")
  rw [show (Pc.num k).toD = .tup [.str "num", .int k] from rfl] at l1
  rw [show (Pc.name "abd").toD = .tup [.str "name", .str "abd"] from rfl] at l2
  have fin : ∀ d4 : Due, (if L - k < 30 then dueN (r % 10) du else du) = d4 → Tw (lvl (r % 10) x ka p (.name "abd")) d4 (m + wy (r % 10)) (L - k - 1) := fun d4 h => h ▸ tm
  have core : ∀ (c8 : Int), ((12 < L ∧ c8 = 88) ∨ (¬ 12 < L ∧ c8 = 8)) → ∃ (q : Pc) (du2 : Due) (m2 : Int) (y9 y10 y11 y12 : Option D), Tw q du2 m2 (L - k - 1) ∧ lb_l_holds_0 (Env a b (.int c) p du m L (some (.int k)) x9 x10 x11 x12) = .nx (Env a b (.int c) q du2 m2 L (some (.int k)) y9 y10 y11 y12) := by
    intro c8 h8
    by_cases hN : r / 10 % c8 = 3
    · by_cases hL : L - k < 30
      · by_cases h5 : fst5 (r % 10) = true
        · refine ⟨_, .name, _, some (.int r), some (.int (r % 10)), some (.tup [.str "name", .str "abd"]), some (.str x), fin .name (by rw [if_pos hL]; unfold dueN; rw [h5]; rfl), ?_⟩
          rcases h8 with ⟨h8, rfl⟩ | ⟨h8, rfl⟩ <;> simp (decide := true) [fnM, seqM, asgM, retM, dropM, op2, cM, cbM, consA, nilA, varM, notV, andV, orV, notB, andB, orB, asB, ifS, ifM, tupM, lstM, callM, slM, someM, noM, itM, rngM, Ask.forM, chM, joinM, negM, augM, nextM, raiseM, R.bind, R.of, toO, bInt, bLen, bType, bAll, bMax, bIsi, D.add, D.sub, D.mul, D.fdiv, D.mod, D.lt, D.le, D.gt, D.ge, D.eq, D.ne, D.is, D.isnt, D.inn, D.ix, D.sl, D.items, D.flat, D.isNon, D.tyN, scal, tgN, tg2, isT, kgetM, zipM, jsM, nilJ, consJ, fmtM, retMo, asgMo, dropMo, ifSo, augMo, forMo, newMo, appMo, retOwn, wipeE, lb_l_holds_0, Env, r1, h8, hN, hL, flats, e4, h5, e1, e2, e3, l2, Due.s] <;> rfl
        · have h5' : fst5 (r % 10) = false := by simpa using h5
          cases hdu : du with
          | none =>
            subst hdu
            by_cases h7 : r % 10 = 7
            · refine ⟨_, .none, _, some (.int r), some (.int (r % 10)), some (.tup [.str "name", .str "abd"]), some (.str x), fin .none (by rw [if_pos hL]; unfold dueN; rw [h5', h7]; rfl), ?_⟩
              rcases h8 with ⟨h8, rfl⟩ | ⟨h8, rfl⟩ <;> simp (decide := true) [fnM, seqM, asgM, retM, dropM, op2, cM, cbM, consA, nilA, varM, notV, andV, orV, notB, andB, orB, asB, ifS, ifM, tupM, lstM, callM, slM, someM, noM, itM, rngM, Ask.forM, chM, joinM, negM, augM, nextM, raiseM, R.bind, R.of, toO, bInt, bLen, bType, bAll, bMax, bIsi, D.add, D.sub, D.mul, D.fdiv, D.mod, D.lt, D.le, D.gt, D.ge, D.eq, D.ne, D.is, D.isnt, D.inn, D.ix, D.sl, D.items, D.flat, D.isNon, D.tyN, scal, tgN, tg2, isT, kgetM, zipM, jsM, nilJ, consJ, fmtM, retMo, asgMo, dropMo, ifSo, augMo, forMo, newMo, appMo, retOwn, wipeE, lb_l_holds_0, Env, r1, h8, hN, hL, flats, e4, h5', h7, e1, e2, e3, l2, Due.s] <;> rfl
            · refine ⟨_, .name, _, some (.int r), some (.int (r % 10)), some (.tup [.str "name", .str "abd"]), some (.str x), fin .name (by rw [if_pos hL]; unfold dueN; rw [h5', decide_eq_true (show r % 10 ≠ 7 from h7)]; rfl), ?_⟩
              rcases h8 with ⟨h8, rfl⟩ | ⟨h8, rfl⟩ <;> simp (decide := true) [fnM, seqM, asgM, retM, dropM, op2, cM, cbM, consA, nilA, varM, notV, andV, orV, notB, andB, orB, asB, ifS, ifM, tupM, lstM, callM, slM, someM, noM, itM, rngM, Ask.forM, chM, joinM, negM, augM, nextM, raiseM, R.bind, R.of, toO, bInt, bLen, bType, bAll, bMax, bIsi, D.add, D.sub, D.mul, D.fdiv, D.mod, D.lt, D.le, D.gt, D.ge, D.eq, D.ne, D.is, D.isnt, D.inn, D.ix, D.sl, D.items, D.flat, D.isNon, D.tyN, scal, tgN, tg2, isT, kgetM, zipM, jsM, nilJ, consJ, fmtM, retMo, asgMo, dropMo, ifSo, augMo, forMo, newMo, appMo, retOwn, wipeE, lb_l_holds_0, Env, r1, h8, hN, hL, flats, e4, h5', h7, e1, e2, e3, l2, Due.s] <;> rfl
          | piece =>
            subst hdu
            refine ⟨_, .piece, _, some (.int r), some (.int (r % 10)), some (.tup [.str "name", .str "abd"]), some (.str x), fin .piece (by rw [if_pos hL]; unfold dueN; rw [h5']; rfl), ?_⟩
            rcases h8 with ⟨h8, rfl⟩ | ⟨h8, rfl⟩ <;> simp (decide := true) [fnM, seqM, asgM, retM, dropM, op2, cM, cbM, consA, nilA, varM, notV, andV, orV, notB, andB, orB, asB, ifS, ifM, tupM, lstM, callM, slM, someM, noM, itM, rngM, Ask.forM, chM, joinM, negM, augM, nextM, raiseM, R.bind, R.of, toO, bInt, bLen, bType, bAll, bMax, bIsi, D.add, D.sub, D.mul, D.fdiv, D.mod, D.lt, D.le, D.gt, D.ge, D.eq, D.ne, D.is, D.isnt, D.inn, D.ix, D.sl, D.items, D.flat, D.isNon, D.tyN, scal, tgN, tg2, isT, kgetM, zipM, jsM, nilJ, consJ, fmtM, retMo, asgMo, dropMo, ifSo, augMo, forMo, newMo, appMo, retOwn, wipeE, lb_l_holds_0, Env, r1, h8, hN, hL, flats, e4, h5', e1, e2, e3, l2, Due.s] <;> rfl
          | name =>
            subst hdu
            refine ⟨_, .name, _, some (.int r), some (.int (r % 10)), some (.tup [.str "name", .str "abd"]), some (.str x), fin .name (by rw [if_pos hL]; unfold dueN; rw [h5']; rfl), ?_⟩
            rcases h8 with ⟨h8, rfl⟩ | ⟨h8, rfl⟩ <;> simp (decide := true) [fnM, seqM, asgM, retM, dropM, op2, cM, cbM, consA, nilA, varM, notV, andV, orV, notB, andB, orB, asB, ifS, ifM, tupM, lstM, callM, slM, someM, noM, itM, rngM, Ask.forM, chM, joinM, negM, augM, nextM, raiseM, R.bind, R.of, toO, bInt, bLen, bType, bAll, bMax, bIsi, D.add, D.sub, D.mul, D.fdiv, D.mod, D.lt, D.le, D.gt, D.ge, D.eq, D.ne, D.is, D.isnt, D.inn, D.ix, D.sl, D.items, D.flat, D.isNon, D.tyN, scal, tgN, tg2, isT, kgetM, zipM, jsM, nilJ, consJ, fmtM, retMo, asgMo, dropMo, ifSo, augMo, forMo, newMo, appMo, retOwn, wipeE, lb_l_holds_0, Env, r1, h8, hN, hL, flats, e4, h5', e1, e2, e3, l2, Due.s] <;> rfl
          | tall =>
            subst hdu
            refine ⟨_, .tall, _, some (.int r), some (.int (r % 10)), some (.tup [.str "name", .str "abd"]), some (.str x), fin .tall (by rw [if_pos hL]; unfold dueN; rw [h5']; rfl), ?_⟩
            rcases h8 with ⟨h8, rfl⟩ | ⟨h8, rfl⟩ <;> simp (decide := true) [fnM, seqM, asgM, retM, dropM, op2, cM, cbM, consA, nilA, varM, notV, andV, orV, notB, andB, orB, asB, ifS, ifM, tupM, lstM, callM, slM, someM, noM, itM, rngM, Ask.forM, chM, joinM, negM, augM, nextM, raiseM, R.bind, R.of, toO, bInt, bLen, bType, bAll, bMax, bIsi, D.add, D.sub, D.mul, D.fdiv, D.mod, D.lt, D.le, D.gt, D.ge, D.eq, D.ne, D.is, D.isnt, D.inn, D.ix, D.sl, D.items, D.flat, D.isNon, D.tyN, scal, tgN, tg2, isT, kgetM, zipM, jsM, nilJ, consJ, fmtM, retMo, asgMo, dropMo, ifSo, augMo, forMo, newMo, appMo, retOwn, wipeE, lb_l_holds_0, Env, r1, h8, hN, hL, flats, e4, h5', e1, e2, e3, l2, Due.s] <;> rfl
      · refine ⟨_, du, _, some (.int r), some (.int (r % 10)), some (.tup [.str "name", .str "abd"]), some (.str x), fin du (by rw [if_neg hL]), ?_⟩
        rcases h8 with ⟨h8, rfl⟩ | ⟨h8, rfl⟩ <;> simp (decide := true) [fnM, seqM, asgM, retM, dropM, op2, cM, cbM, consA, nilA, varM, notV, andV, orV, notB, andB, orB, asB, ifS, ifM, tupM, lstM, callM, slM, someM, noM, itM, rngM, Ask.forM, chM, joinM, negM, augM, nextM, raiseM, R.bind, R.of, toO, bInt, bLen, bType, bAll, bMax, bIsi, D.add, D.sub, D.mul, D.fdiv, D.mod, D.lt, D.le, D.gt, D.ge, D.eq, D.ne, D.is, D.isnt, D.inn, D.ix, D.sl, D.items, D.flat, D.isNon, D.tyN, scal, tgN, tg2, isT, kgetM, zipM, jsM, nilJ, consJ, fmtM, retMo, asgMo, dropMo, ifSo, augMo, forMo, newMo, appMo, retOwn, wipeE, lb_l_holds_0, Env, r1, h8, hN, hL, e1, e2, e3, l2] <;> rfl
    · refine ⟨_, du, _, some (.int r), some (.int (r % 10)), some (.tup [.str "num", .int k]), some (.str x), tn, ?_⟩
      rcases h8 with ⟨h8, rfl⟩ | ⟨h8, rfl⟩ <;> simp (decide := true) [fnM, seqM, asgM, retM, dropM, op2, cM, cbM, consA, nilA, varM, notV, andV, orV, notB, andB, orB, asB, ifS, ifM, tupM, lstM, callM, slM, someM, noM, itM, rngM, Ask.forM, chM, joinM, negM, augM, nextM, raiseM, R.bind, R.of, toO, bInt, bLen, bType, bAll, bMax, bIsi, D.add, D.sub, D.mul, D.fdiv, D.mod, D.lt, D.le, D.gt, D.ge, D.eq, D.ne, D.is, D.isnt, D.inn, D.ix, D.sl, D.items, D.flat, D.isNon, D.tyN, scal, tgN, tg2, isT, kgetM, zipM, jsM, nilJ, consJ, fmtM, retMo, asgMo, dropMo, ifSo, augMo, forMo, newMo, appMo, retOwn, wipeE, lb_l_holds_0, Env, r1, h8, hN, e1, e2, e3, l1] <;> rfl
  by_cases h8 : 12 < L
  · exact core 88 (.inl ⟨h8, rfl⟩)
  · exact core 8 (.inr ⟨h8, rfl⟩)
end My
namespace My
open PySem L2 Evl Ask
theorem levels_ok (n : Int) : ∃ L, atI [D.int 28, .int 30, .int 30, .int 31] (n % 4) = some (.int L) ∧ (L = 28 ∨ L = 30 ∨ L = 31) := by
  have h1 := Int.emod_nonneg n (by decide : (4 : Int) ≠ 0)
  have h2 := Int.emod_lt_of_pos n (by decide : (0 : Int) < 4)
  obtain ⟨d, hd, e⟩ := atI_mem (xs := [D.int 28, .int 30, .int 30, .int 31]) h1 (by simpa using h2)
  simp only [List.mem_cons, List.not_mem_nil, or_false] at hd
  rcases hd with rfl | rfl | rfl | rfl <;> exact ⟨_, e, by omega⟩
theorem tower_ok (a b : D) (c : Int) (p : Pc) (du : Due) (L : Int) (hL : 0 ≤ L ∧ L ≤ 31) (t : Tw p du 1 L) :
    ∃ (q : Pc) (du2 : Due) (m2 : Int) (x7 x9 x10 x11 x12 : Option D), Tw q du2 m2 0 ∧ forGo (tgN 7) lb_l_holds_0 (rangeD 0 L.toNat) (Env a b (.int c) p du 1 L none none none none none) = .nx (Env a b (.int c) q du2 m2 L x7 x9 x10 x11 x12) := by
  obtain ⟨e', g1, q, du2, m2, x7, x9, x10, x11, x12, g2, g3⟩ := forGo_inv (b := tgN 7) (body := lb_l_holds_0) (fun i env => ∃ (q : Pc) (du2 : Due) (m2 : Int) (x7 x9 x10 x11 x12 : Option D), env = Env a b (.int c) q du2 m2 L x7 x9 x10 x11 x12 ∧ Tw q du2 m2 (L - (i : Int)))
    (rangeD 0 L.toNat) 0 (Env a b (.int c) p du 1 L none none none none none) ⟨_, _, _, _, _, _, _, _, rfl, by simpa using t⟩ (fun i d env _ hd ⟨q, du2, m2, x7, x9, x10, x11, x12, he, ht⟩ => by
      subst he
      obtain ⟨hi, rfl⟩ := rangeD_get hd
      obtain ⟨q2, du3, m3, y9, y10, y11, y12, u1, u2⟩ := turn_ok a b c q du2 m2 L (i : Int) (by omega) ht x9 x10 x11 x12
      refine ⟨_, _, rfl, ?_, q2, du3, m3, some (.int (i : Int)), y9, y10, y11, y12, rfl, by simpa using u1⟩
      simpa using u2)
  rw [rangeD_len] at g3
  rw [show L - ((0 + L.toNat : Nat) : Int) = 0 by omega] at g3
  subst g2
  exact ⟨q, du2, m2, x7, x9, x10, x11, x12, g3, g1⟩
/-- the end of a tower -/
theorem tower_end {q : Pc} {du : Due} {m : Int} (t : Tw q du m 0) : m_checked [q.toD] = toI (res du m) := by
  rw [checked_ok q t.good, show (1 : Int) = 0 + 1 from rfl, t.is [] (by simp)]
theorem refusal_is (p : D) : m_l_refusal [p] = refOf (m_checked [p]) := rfl
theorem holds_ok (more first second : Int) : m_l_holds [.int more, .int first, .int second] = .ok (.bl true) := by
  obtain ⟨p, p1, p2, p3⟩ := bad_ok first
  have n1 := Int.emod_nonneg (more / 8) (by decide : (1000 : Int) ≠ 0)
  have n2 := Int.emod_lt_of_pos (more / 8) (by decide : (0 : Int) < 1000)
  have m1 := Int.emod_nonneg (more / 24) (by decide : (13 : Int) ≠ 0)
  have m2 := Int.emod_lt_of_pos (more / 24) (by decide : (0 : Int) < 13)
  obtain ⟨LL, e1, e2⟩ := levels_ok (more / 24)
  have key : ∀ (L : Int) (p0 : Pc) (du0 : Due), (more / 8 % 3 = 2 → L = LL) → (¬ more / 8 % 3 = 2 → L = more / 24 % 13) → (more % 8 = 5 → p0 = .num (more / 8 % 1000)) → (¬ more % 8 = 5 → p0 = p) →
      du0 = (if 29 < L then .tall else if more % 8 = 5 then .none else .piece) → m_l_holds [.int more, .int first, .int second] = .ok (.bl true) := by
    intro L p0 du0 hL1 hL2 hp1 hp2 hdu
    have hL : (0 ≤ L ∧ L ≤ 28) ∨ L = 30 ∨ L = 31 := by
      by_cases h : more / 8 % 3 = 2
      · rw [hL1 h]; omega
      · rw [hL2 h]; omega
    have t : Tw p0 du0 1 L := by
      refine ⟨?_, fun h => by rw [hdu, if_pos (by omega)], fun told _ => ?_⟩
      · by_cases h : more % 8 = 5
        · rw [hp1 h]; exact ⟨n1, by omega⟩
        · rw [hp2 h]; exact p2
      · by_cases h29 : 29 < L
        · rw [hdu, if_pos h29]; exact chk_high _ _ (by omega)
        · rw [hdu, if_neg h29]
          by_cases h : more % 8 = 5
          · rw [if_pos h, hp1 h]; exact chk_num (by omega)
          · rw [if_neg h, hp2 h]; exact p3 _ _ (by omega)
    obtain ⟨q, du2, k2, x7, x9, x10, x11, x12, u1, u2⟩ := tower_ok (.int more) (.int first) second p0 du0 L (by omega) t
    have ue := tower_end u1
    have i1 : -1000000 ≤ L := by omega
    have i2 : L ≤ 1000000 := by omega
    unfold Env at u2
    by_cases h29 : 29 < L
    · rw [if_pos h29] at hdu
      subst hdu
      by_cases h : more % 8 = 5
      · have hp := hp1 h
        subst hp
        rw [show (Pc.num (more / 8 % 1000)).toD = .tup [.str "num", .int (more / 8 % 1000)] from rfl] at u2
        by_cases h3 : more / 8 % 3 = 2
        · have hq := hL1 h3; subst hq
          cases du2 <;> (simp only [Due.s, res] at u2 ue; simp (decide := true) [fnM, seqM, asgM, retM, dropM, op2, cM, cbM, consA, nilA, varM, notV, andV, orV, notB, andB, orB, asB, ifS, ifM, tupM, lstM, callM, slM, someM, noM, itM, rngM, Ask.forM, chM, joinM, negM, augM, nextM, raiseM, R.bind, R.of, toO, bInt, bLen, bType, bAll, bMax, bIsi, D.add, D.sub, D.mul, D.fdiv, D.mod, D.lt, D.le, D.gt, D.ge, D.eq, D.ne, D.is, D.isnt, D.inn, D.ix, D.sl, D.items, D.flat, D.isNon, D.tyN, scal, tgN, tg2, isT, kgetM, zipM, jsM, nilJ, consJ, fmtM, retMo, asgMo, dropMo, ifSo, augMo, forMo, newMo, appMo, retOwn, wipeE, m_l_holds, b_l_holds, p1, h, h3, e1, h29, i1, i2, u2, refusal_is, ue, toI, refOf, ans1, ans2, ans3, whole_ok])
        · have hq := hL2 h3; omega
      · have hp := hp2 h
        subst hp
        by_cases h3 : more / 8 % 3 = 2
        · have hq := hL1 h3; subst hq
          cases du2 <;> (simp only [Due.s, res] at u2 ue; simp (decide := true) [fnM, seqM, asgM, retM, dropM, op2, cM, cbM, consA, nilA, varM, notV, andV, orV, notB, andB, orB, asB, ifS, ifM, tupM, lstM, callM, slM, someM, noM, itM, rngM, Ask.forM, chM, joinM, negM, augM, nextM, raiseM, R.bind, R.of, toO, bInt, bLen, bType, bAll, bMax, bIsi, D.add, D.sub, D.mul, D.fdiv, D.mod, D.lt, D.le, D.gt, D.ge, D.eq, D.ne, D.is, D.isnt, D.inn, D.ix, D.sl, D.items, D.flat, D.isNon, D.tyN, scal, tgN, tg2, isT, kgetM, zipM, jsM, nilJ, consJ, fmtM, retMo, asgMo, dropMo, ifSo, augMo, forMo, newMo, appMo, retOwn, wipeE, m_l_holds, b_l_holds, p1, h, h3, e1, h29, i1, i2, u2, refusal_is, ue, toI, refOf, ans1, ans2, ans3, whole_ok])
        · have hq := hL2 h3; omega
    · rw [if_neg h29] at hdu
      by_cases h : more % 8 = 5
      · rw [if_pos h] at hdu
        subst hdu
        have hp := hp1 h
        subst hp
        rw [show (Pc.num (more / 8 % 1000)).toD = .tup [.str "num", .int (more / 8 % 1000)] from rfl] at u2
        by_cases h3 : more / 8 % 3 = 2
        · have hq := hL1 h3; subst hq
          cases du2 <;> (simp only [Due.s, res] at u2 ue; simp (decide := true) [fnM, seqM, asgM, retM, dropM, op2, cM, cbM, consA, nilA, varM, notV, andV, orV, notB, andB, orB, asB, ifS, ifM, tupM, lstM, callM, slM, someM, noM, itM, rngM, Ask.forM, chM, joinM, negM, augM, nextM, raiseM, R.bind, R.of, toO, bInt, bLen, bType, bAll, bMax, bIsi, D.add, D.sub, D.mul, D.fdiv, D.mod, D.lt, D.le, D.gt, D.ge, D.eq, D.ne, D.is, D.isnt, D.inn, D.ix, D.sl, D.items, D.flat, D.isNon, D.tyN, scal, tgN, tg2, isT, kgetM, zipM, jsM, nilJ, consJ, fmtM, retMo, asgMo, dropMo, ifSo, augMo, forMo, newMo, appMo, retOwn, wipeE, m_l_holds, b_l_holds, p1, h, h3, e1, h29, i1, i2, u2, refusal_is, ue, toI, refOf, ans1, ans2, ans3, whole_ok])
        · have hq := hL2 h3; subst hq
          cases du2 <;> (simp only [Due.s, res] at u2 ue; simp (decide := true) [fnM, seqM, asgM, retM, dropM, op2, cM, cbM, consA, nilA, varM, notV, andV, orV, notB, andB, orB, asB, ifS, ifM, tupM, lstM, callM, slM, someM, noM, itM, rngM, Ask.forM, chM, joinM, negM, augM, nextM, raiseM, R.bind, R.of, toO, bInt, bLen, bType, bAll, bMax, bIsi, D.add, D.sub, D.mul, D.fdiv, D.mod, D.lt, D.le, D.gt, D.ge, D.eq, D.ne, D.is, D.isnt, D.inn, D.ix, D.sl, D.items, D.flat, D.isNon, D.tyN, scal, tgN, tg2, isT, kgetM, zipM, jsM, nilJ, consJ, fmtM, retMo, asgMo, dropMo, ifSo, augMo, forMo, newMo, appMo, retOwn, wipeE, m_l_holds, b_l_holds, p1, h, h3, h29, i1, i2, u2, refusal_is, ue, toI, refOf, ans1, ans2, ans3, whole_ok])
      · rw [if_neg h] at hdu
        subst hdu
        have hp := hp2 h
        subst hp
        by_cases h3 : more / 8 % 3 = 2
        · have hq := hL1 h3; subst hq
          cases du2 <;> (simp only [Due.s, res] at u2 ue; simp (decide := true) [fnM, seqM, asgM, retM, dropM, op2, cM, cbM, consA, nilA, varM, notV, andV, orV, notB, andB, orB, asB, ifS, ifM, tupM, lstM, callM, slM, someM, noM, itM, rngM, Ask.forM, chM, joinM, negM, augM, nextM, raiseM, R.bind, R.of, toO, bInt, bLen, bType, bAll, bMax, bIsi, D.add, D.sub, D.mul, D.fdiv, D.mod, D.lt, D.le, D.gt, D.ge, D.eq, D.ne, D.is, D.isnt, D.inn, D.ix, D.sl, D.items, D.flat, D.isNon, D.tyN, scal, tgN, tg2, isT, kgetM, zipM, jsM, nilJ, consJ, fmtM, retMo, asgMo, dropMo, ifSo, augMo, forMo, newMo, appMo, retOwn, wipeE, m_l_holds, b_l_holds, p1, h, h3, e1, h29, i1, i2, u2, refusal_is, ue, toI, refOf, ans1, ans2, ans3, whole_ok])
        · have hq := hL2 h3; subst hq
          cases du2 <;> (simp only [Due.s, res] at u2 ue; simp (decide := true) [fnM, seqM, asgM, retM, dropM, op2, cM, cbM, consA, nilA, varM, notV, andV, orV, notB, andB, orB, asB, ifS, ifM, tupM, lstM, callM, slM, someM, noM, itM, rngM, Ask.forM, chM, joinM, negM, augM, nextM, raiseM, R.bind, R.of, toO, bInt, bLen, bType, bAll, bMax, bIsi, D.add, D.sub, D.mul, D.fdiv, D.mod, D.lt, D.le, D.gt, D.ge, D.eq, D.ne, D.is, D.isnt, D.inn, D.ix, D.sl, D.items, D.flat, D.isNon, D.tyN, scal, tgN, tg2, isT, kgetM, zipM, jsM, nilJ, consJ, fmtM, retMo, asgMo, dropMo, ifSo, augMo, forMo, newMo, appMo, retOwn, wipeE, m_l_holds, b_l_holds, p1, h, h3, h29, i1, i2, u2, refusal_is, ue, toI, refOf, ans1, ans2, ans3, whole_ok])
  by_cases h3 : more / 8 % 3 = 2
  · by_cases h : more % 8 = 5
    · exact key LL (.num (more / 8 % 1000)) _ (fun _ => rfl) (fun h => absurd h3 h) (fun _ => rfl) (fun h' => absurd h h') rfl
    · exact key LL p _ (fun _ => rfl) (fun h => absurd h3 h) (fun h' => absurd h' h) (fun _ => rfl) rfl
  · by_cases h : more % 8 = 5
    · exact key (more / 24 % 13) (.num (more / 8 % 1000)) _ (fun h => absurd h h3) (fun _ => rfl) (fun _ => rfl) (fun h' => absurd h h') rfl
    · exact key (more / 24 % 13) p _ (fun h => absurd h h3) (fun _ => rfl) (fun h' => absurd h' h) (fun _ => rfl) rfl
theorem law_true : ∀ ns : List Int, ns.length ≤ 63 → m_law [.klst (ns.map D.int)] = .ok (.bl true) := by
  intro ns _
  obtain ⟨a0, c0⟩ : ∃ a, m_l_cell_at [.klst (ns.map D.int), .int 0] = .ok (.int a) := ⟨_, cell_at ns 0⟩
  obtain ⟨a1, c1⟩ : ∃ a, m_l_cell_at [.klst (ns.map D.int), .int 1] = .ok (.int a) := ⟨_, cell_at ns 1⟩
  obtain ⟨a2, c2⟩ : ∃ a, m_l_cell_at [.klst (ns.map D.int), .int 2] = .ok (.int a) := ⟨_, cell_at ns 2⟩
  obtain ⟨e', g1, x1, x2, x3, g2⟩ := forGo_inv (b := tgN 1) (body := lb_law_0) (fun i env => ∃ x1 x2 x3 : Option D, env = [some (.klst (ns.map D.int)), x1, x2, x3])
    (rangeD 0 5) 0 [some (.klst (ns.map D.int)), none, none, none] ⟨_, _, _, rfl⟩ (fun i d env _ hd ⟨x1, x2, x3, he⟩ => by
      subst he
      obtain ⟨hi, rfl⟩ := rangeD_get hd
      obtain ⟨r1, q1, _⟩ := mixed_ok a0 (3 * (i : Int))
      obtain ⟨r2, q2, _⟩ := mixed_ok a1 (5 * (i : Int))
      refine ⟨_, _, rfl, ?_, some (.int (i : Int)), some (.int (r1 / 5)), some (.int r2), rfl⟩
      simp (decide := true) [fnM, seqM, asgM, retM, dropM, op2, cM, cbM, consA, nilA, varM, notV, andV, orV, notB, andB, orB, asB, ifS, ifM, tupM, lstM, callM, slM, someM, noM, itM, rngM, Ask.forM, chM, joinM, negM, augM, nextM, raiseM, R.bind, R.of, toO, bInt, bLen, bType, bAll, bMax, bIsi, D.add, D.sub, D.mul, D.fdiv, D.mod, D.lt, D.le, D.gt, D.ge, D.eq, D.ne, D.is, D.isnt, D.inn, D.ix, D.sl, D.items, D.flat, D.isNon, D.tyN, scal, tgN, tg2, isT, kgetM, zipM, jsM, nilJ, consJ, fmtM, retMo, asgMo, dropMo, ifSo, augMo, forMo, newMo, appMo, retOwn, wipeE, lb_law_0, c0, c1, c2, q1, q2, holds_ok])
  subst g2
  simp (decide := true) [fnM, seqM, asgM, retM, dropM, op2, cM, cbM, consA, nilA, varM, notV, andV, orV, notB, andB, orB, asB, ifS, ifM, tupM, lstM, callM, slM, someM, noM, itM, rngM, Ask.forM, chM, joinM, negM, augM, nextM, raiseM, R.bind, R.of, toO, bInt, bLen, bType, bAll, bMax, bIsi, D.add, D.sub, D.mul, D.fdiv, D.mod, D.lt, D.le, D.gt, D.ge, D.eq, D.ne, D.is, D.isnt, D.inn, D.ix, D.sl, D.items, D.flat, D.isNon, D.tyN, scal, tgN, tg2, isT, kgetM, zipM, jsM, nilJ, consJ, fmtM, retMo, asgMo, dropMo, ifSo, augMo, forMo, newMo, appMo, retOwn, wipeE, m_law, b_law, g1]
end My
open PySem PySem.W PyProof.Rows
set_option maxRecDepth 100000 in
set_option maxHeartbeats 0 in
theorem PySem.Challenge.cw_askmark_k04_what_is_no_piece_holds : PySem.Challenge.rw_askmark_k04_what_is_no_piece.Holds := by
  w_on; o_law; k_head; (case hw => w_witness2)
  k_fill
  refine Ask.walk_law (k := 48) (x := "_law_script") (m := My.m_law) (l := PySem.Challenge.rw_askmark_k04_what_is_no_piece) rfl rfl ⟨rfl, by decide, by decide⟩ (fun w h Y => PySem.W.kIn_of Y) ?F My.law_true
  case F =>
    intro w mg fa h KX G hmg
    refine' My.all_mk KX G hmg ?fa0 ?fl0 ?fc0 ?fk0 ?fa1 ?fl1 ?fc1 ?fk1 ?fa2 ?fl2 ?fc2 ?fk2 ?fa3 ?fl3 ?fc3 ?fk3 ?fa4 ?fl4 ?fc4 ?fk4 ?fa5 ?fl5 ?fc5 ?fk5 ?fa6 ?fl6 ?fc6 ?fk6 ?fa7 ?fl7 ?fc7 ?fk7 ?fa8 ?fl8 ?fc8 ?fk8 ?fa9 ?fl9 ?fc9 ?fk9 ?fa10 ?fl10 ?fc10 ?fk10 ?fa11 ?fl11 ?fc11 ?fk11 ?fa12 ?fl12 ?fc12 ?fk12 ?fa13 ?fl13 ?fc13 ?fk13 ?fa14 ?fl14 ?fc14 ?fk14 ?fa15 ?fl15 ?fc15 ?fk15 ?fa16 ?fl16 ?fc16 ?fk16 ?n_ValueError ?n_all ?n_bool ?n_int ?n_isinstance ?n_len ?n_range ?n_str ?n_tuple ?n_type ?n_zip ?a_DEEPEST_LEVEL ?a_FORMS ?l_FORMS ?q_FORMS ?z_FORMS ?e_FORMS ?a_KINDS ?k_KINDS ?a_LARGEST_NUMBER ?a_LONGEST_NAME ?xa_AskError ?xx_AskError ?xk_AskError ?xb_AskError ?xt_AskError ?xg_AskError ?xh_AskError ?xd_AskError ?xc_AskError ?xn_AskError ?xu_AskError ?xm_AskError ?xa_BadName ?xx_BadName ?xk_BadName ?xb_BadName ?xt_BadName ?xg_BadName ?xh_BadName ?xd_BadName ?xc_BadName ?xn_BadName ?xu_BadName ?xm_BadName ?xa_BadPiece ?xx_BadPiece ?xk_BadPiece ?xb_BadPiece ?xt_BadPiece ?xg_BadPiece ?xh_BadPiece ?xd_BadPiece ?xc_BadPiece ?xn_BadPiece ?xu_BadPiece ?xm_BadPiece ?xa_TooTall ?xx_TooTall ?xk_TooTall ?xb_TooTall ?xt_TooTall ?xg_TooTall ?xh_TooTall ?xd_TooTall ?xc_TooTall ?xn_TooTall ?xu_TooTall ?xm_TooTall ?ks_BadPiece_BadName ?kn_BadPiece_BadName ?ki_BadPiece_BadName ?ks_BadPiece_TooTall ?kn_BadPiece_TooTall ?ki_BadPiece_TooTall ?ks_BadPiece_ValueError ?ks_BadName_BadPiece ?kn_BadName_BadPiece ?ki_BadName_BadPiece ?ks_BadName_TooTall ?kn_BadName_TooTall ?ki_BadName_TooTall ?ks_BadName_ValueError ?ks_TooTall_BadPiece ?kn_TooTall_BadPiece ?ki_TooTall_BadPiece ?ks_TooTall_BadName ?kn_TooTall_BadName ?ki_TooTall_BadName ?ks_TooTall_ValueError ?ke_BadPiece_AskError ?ke_BadName_AskError ?ke_TooTall_AskError
    (case fa0 => k_is)
    (case fl0 => k_is)
    (case fc0 => k_is)
    (case fk0 => k_is)
    (case fa1 => k_is)
    (case fl1 => k_is)
    (case fc1 => k_is)
    (case fk1 => k_is)
    (case fa2 => k_is)
    (case fl2 => k_is)
    (case fc2 => k_is)
    (case fk2 => k_is)
    (case fa3 => k_is)
    (case fl3 => k_is)
    (case fc3 => k_is)
    (case fk3 => k_is)
    (case fa4 => k_is)
    (case fl4 => k_is)
    (case fc4 => k_is)
    (case fk4 => k_is)
    (case fa5 => k_is)
    (case fl5 => k_is)
    (case fc5 => k_is)
    (case fk5 => k_is)
    (case fa6 => k_is)
    (case fl6 => k_is)
    (case fc6 => k_is)
    (case fk6 => k_is)
    (case fa7 => k_is)
    (case fl7 => k_is)
    (case fc7 => k_is)
    (case fk7 => k_is)
    (case fa8 => k_is)
    (case fl8 => k_is)
    (case fc8 => k_is)
    (case fk8 => k_is)
    (case fa9 => k_is)
    (case fl9 => k_is)
    (case fc9 => k_is)
    (case fk9 => k_is)
    (case fa10 => k_is)
    (case fl10 => k_is)
    (case fc10 => k_is)
    (case fk10 => k_is)
    (case fa11 => k_is)
    (case fl11 => k_is)
    (case fc11 => k_is)
    (case fk11 => k_is)
    (case fa12 => k_is)
    (case fl12 => k_is)
    (case fc12 => k_is)
    (case fk12 => k_is)
    (case fa13 => k_is)
    (case fl13 => k_is)
    (case fc13 => k_is)
    (case fk13 => k_is)
    (case fa14 => k_is)
    (case fl14 => k_is)
    (case fc14 => k_is)
    (case fk14 => k_is)
    (case fa15 => k_is)
    (case fl15 => k_is)
    (case fc15 => k_is)
    (case fk15 => k_is)
    (case fa16 => k_is)
    (case fl16 => k_is)
    (case fc16 => k_is)
    (case fk16 => k_is)
    (case n_ValueError => k_is)
    (case n_all => k_is)
    (case n_bool => k_is)
    (case n_int => k_is)
    (case n_isinstance => k_is)
    (case n_len => k_is)
    (case n_range => k_is)
    (case n_str => k_is)
    (case n_tuple => k_is)
    (case n_type => k_is)
    (case n_zip => k_is)
    (case a_DEEPEST_LEVEL => k_is)
    (case a_FORMS => k_is)
    (case l_FORMS => k_is)
    (case q_FORMS => (repeat (first | exact True.intro | exact ⟨⟨_, _, rfl, rfl⟩, True.intro⟩ | refine ⟨⟨_, _, rfl, rfl⟩, ?_⟩)))
    (case z_FORMS => decide)
    (case e_FORMS => (refine .cons ⟨⟨_, rfl⟩, .ref _, rfl, fun B H => .ktup (.inr ?_) (Ask.RpA0.strs ["number"])⟩ ?_; (refine' Ask.ktup_mk ?h ?c ?d ?z ?v; (case h => k_is); (case c => rfl); (case d => rfl); (case z => decide); (case v => exact (.cons ⟨_, rfl⟩ .nil))); refine .cons ⟨⟨_, rfl⟩, .ref _, rfl, fun B H => .ktup (.inr ?_) (Ask.RpA0.strs ["name"])⟩ ?_; (refine' Ask.ktup_mk ?h ?c ?d ?z ?v; (case h => k_is); (case c => rfl); (case d => rfl); (case z => decide); (case v => exact (.cons ⟨_, rfl⟩ .nil))); refine .cons ⟨⟨_, rfl⟩, .ref _, rfl, fun B H => .ktup (.inr ?_) (Ask.RpA0.strs ["piece", "piece"])⟩ ?_; (refine' Ask.ktup_mk ?h ?c ?d ?z ?v; (case h => k_is); (case c => rfl); (case d => rfl); (case z => decide); (case v => exact (.cons ⟨_, rfl⟩ (.cons ⟨_, rfl⟩ .nil)))); refine .cons ⟨⟨_, rfl⟩, .ref _, rfl, fun B H => .ktup (.inr ?_) (Ask.RpA0.strs ["name", "piece", "piece"])⟩ ?_; (refine' Ask.ktup_mk ?h ?c ?d ?z ?v; (case h => k_is); (case c => rfl); (case d => rfl); (case z => decide); (case v => exact (.cons ⟨_, rfl⟩ (.cons ⟨_, rfl⟩ (.cons ⟨_, rfl⟩ .nil))))); refine .cons ⟨⟨_, rfl⟩, .ref _, rfl, fun B H => .ktup (.inr ?_) (Ask.RpA0.strs ["piece", "piece", "piece"])⟩ ?_; (refine' Ask.ktup_mk ?h ?c ?d ?z ?v; (case h => k_is); (case c => rfl); (case d => rfl); (case z => decide); (case v => exact (.cons ⟨_, rfl⟩ (.cons ⟨_, rfl⟩ (.cons ⟨_, rfl⟩ .nil))))); refine .cons ⟨⟨_, rfl⟩, .ref _, rfl, fun B H => .ktup (.inr ?_) (Ask.RpA0.strs ["kind", "piece"])⟩ ?_; (refine' Ask.ktup_mk ?h ?c ?d ?z ?v; (case h => k_is); (case c => rfl); (case d => rfl); (case z => decide); (case v => exact (.cons ⟨_, rfl⟩ (.cons ⟨_, rfl⟩ .nil)))); refine .cons ⟨⟨_, rfl⟩, .ref _, rfl, fun B H => .ktup (.inr ?_) (Ask.RpA0.strs ["kind", "name", "piece", "piece"])⟩ ?_; (refine' Ask.ktup_mk ?h ?c ?d ?z ?v; (case h => k_is); (case c => rfl); (case d => rfl); (case z => decide); (case v => exact (.cons ⟨_, rfl⟩ (.cons ⟨_, rfl⟩ (.cons ⟨_, rfl⟩ (.cons ⟨_, rfl⟩ .nil)))))); exact .nil))
    (case a_KINDS => k_is)
    (case k_KINDS => (refine' Ask.ktup_mk ?h ?c ?d ?z ?v; (case h => k_is); (case c => rfl); (case d => rfl); (case z => decide); (case v => exact (.cons ⟨_, rfl⟩ (.cons ⟨_, rfl⟩ (.cons ⟨_, rfl⟩ .nil))))))
    (case a_LARGEST_NUMBER => k_is)
    (case a_LONGEST_NAME => k_is)
    (case xa_AskError => k_is)
    (case xx_AskError => k_exc)
    (case xk_AskError => k_is)
    (case xb_AskError => k_is)
    (case xt_AskError => k_is)
    (case xg_AskError => k_is)
    (case xh_AskError => k_is)
    (case xd_AskError => k_is)
    (case xc_AskError => k_is)
    (case xn_AskError => k_is)
    (case xu_AskError => k_is)
    (case xm_AskError => k_is)
    (case xa_BadName => k_is)
    (case xx_BadName => k_exc)
    (case xk_BadName => k_is)
    (case xb_BadName => k_is)
    (case xt_BadName => k_is)
    (case xg_BadName => k_is)
    (case xh_BadName => k_is)
    (case xd_BadName => k_is)
    (case xc_BadName => k_is)
    (case xn_BadName => k_is)
    (case xu_BadName => k_is)
    (case xm_BadName => k_is)
    (case xa_BadPiece => k_is)
    (case xx_BadPiece => k_exc)
    (case xk_BadPiece => k_is)
    (case xb_BadPiece => k_is)
    (case xt_BadPiece => k_is)
    (case xg_BadPiece => k_is)
    (case xh_BadPiece => k_is)
    (case xd_BadPiece => k_is)
    (case xc_BadPiece => k_is)
    (case xn_BadPiece => k_is)
    (case xu_BadPiece => k_is)
    (case xm_BadPiece => k_is)
    (case xa_TooTall => k_is)
    (case xx_TooTall => k_exc)
    (case xk_TooTall => k_is)
    (case xb_TooTall => k_is)
    (case xt_TooTall => k_is)
    (case xg_TooTall => k_is)
    (case xh_TooTall => k_is)
    (case xd_TooTall => k_is)
    (case xc_TooTall => k_is)
    (case xn_TooTall => k_is)
    (case xu_TooTall => k_is)
    (case xm_TooTall => k_is)
    (case ks_BadPiece_BadName => k_is)
    (case kn_BadPiece_BadName => decide)
    (case ki_BadPiece_BadName => k_is)
    (case ks_BadPiece_TooTall => k_is)
    (case kn_BadPiece_TooTall => decide)
    (case ki_BadPiece_TooTall => k_is)
    (case ks_BadPiece_ValueError => k_is)
    (case ks_BadName_BadPiece => k_is)
    (case kn_BadName_BadPiece => decide)
    (case ki_BadName_BadPiece => k_is)
    (case ks_BadName_TooTall => k_is)
    (case kn_BadName_TooTall => decide)
    (case ki_BadName_TooTall => k_is)
    (case ks_BadName_ValueError => k_is)
    (case ks_TooTall_BadPiece => k_is)
    (case kn_TooTall_BadPiece => decide)
    (case ki_TooTall_BadPiece => k_is)
    (case ks_TooTall_BadName => k_is)
    (case kn_TooTall_BadName => decide)
    (case ki_TooTall_BadName => k_is)
    (case ks_TooTall_ValueError => k_is)
    (case ke_BadPiece_AskError => first | rfl | k_is)
    (case ke_BadName_AskError => first | rfl | k_is)
    (case ke_TooTall_AskError => first | rfl | k_is)

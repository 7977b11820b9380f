import PyProof.Rows.All
import Wide.All
import OpenK.AllK
import Wide.FinOn
import HandS.ForMost
import HandS.ForExc
import HandS.IsInst
import HandS.Deep
import HandS.More
import HandS.Star
import PySem.Challenge.RW_lassoproof_k15_shrink_size_and_constants
set_option Elab.async false
set_option linter.all false
set_option maxRecDepth 100000
set_option maxHeartbeats 4000000
/-! A small deterministic machine over plain data; its runs are sound for the readings of the hand layer. -/
namespace Mi
open PySem L2
/-! ### 1. data -/
inductive D where
  | non | bl (b : Bool) | int (i : Int) | str (x : Str) | tup (xs : List D) | ref (n : Nat)
  deriving Inhabited
inductive DO where
  | lst (xs : List D) | fro (xs : List D) | dK (kvs : List (Key × D)) | ins (c : Nat) (fs : List (Str × D))
abbrev DH := List DO
structure DX where
  cls : Nat
  fs : List (Str × D)
inductive Res (α : Type) where
  | ok (a : α) (h : DH) | exc (e : DX) (h : DH) | no
def Res.bind {α β : Type} (r : Res α) (f : α → DH → Res β) : Res β :=
  match r with
  | .ok a h => f a h
  | .exc e h => .exc e h
  | .no => .no
abbrev DSt := List (Option D)
abbrev EM := DSt → DH → Res D
abbrev TM := DSt → DH → Res Bool
abbrev AM := DSt → DH → Res (List D)
inductive RS where
  | nx (s : DSt) (h : DH) | rt (d : D) (h : DH) | bk (s : DSt) (h : DH) | ct (s : DSt) (h : DH) | exc (e : DX) (s : DSt) (h : DH) | no
abbrev SM := DSt → DH → RS
def DO.mu : DO → Bool
  | .fro _ => false
  | _ => true
/-! ### 2. what the data stand for -/
structure Cw where
  K : PySem.W.Frag
  cad : Nat → Addr
section
variable (G : Cw)
mutual
def RV (μ : List Addr) (H : Hp) : D → V → Prop
  | .non, v => v = .non
  | .bl b, v => v = .bl b
  | .int i, v => v = .int i
  | .str s, v => v = .str s
  | .tup xs, v => ∃ a vs, v = .ref a ∧ SqT G.K H a vs ∧ RVs μ H xs vs
  | .ref n, v => ∃ a, v = .ref a ∧ μ[n]? = some a
def RVs (μ : List Addr) (H : Hp) : List D → List V → Prop
  | [], vs => vs = []
  | d :: ds, vs => ∃ v ws, vs = v :: ws ∧ RV μ H d v ∧ RVs μ H ds ws
end
/-- a list that is never written: the script -/
def SqF (H : Hp) (a : Addr) (vs : List V) : Prop := (∃ o, H a = some (.frz o (.lst vs))) ∨ (∀ H' : Hp, SqL G.K H' a vs)
def RObj (μ : List Addr) (H : Hp) (a : Addr) : DO → Prop
  | .lst xs => ∃ vs, H a = some (.lst vs) ∧ RVs G μ H xs vs
  | .fro xs => ∃ vs, SqF G H a vs ∧ RVs G μ H xs vs
  | .dK kvs => ∃ ws, H a = some (.dK ws) ∧ ws.map (·.1) = kvs.map (·.1) ∧ RVs G μ H (kvs.map (·.2)) (ws.map (·.2))
  | .ins c fs => ∃ dx ws, H a = some (.ins (G.cad c) dx ws) ∧ ws.map (·.1) = fs.map (·.1) ∧ RVs G μ H (fs.map (·.2)) (ws.map (·.2))
structure Wd (μ : List Addr) (h : DH) (H : Hp) : Prop where
  len : μ.length = h.length
  ob : ∀ (n : Nat) a o, μ[n]? = some a → h[n]? = some o → RObj G μ H a o
  nd : ∀ (n m : Nat) a o o', μ[n]? = some a → μ[m]? = some a → h[n]? = some o → h[m]? = some o' → o.mu = true → o'.mu = true → n = m
structure Ext (μ : List Addr) (H : Hp) (μ' : List Addr) (H' : Hp) : Prop where
  pre : ∀ (n : Nat) a, μ[n]? = some a → μ'[n]? = some a
  tup : ∀ a xs, SqT G.K H a xs → SqT G.K H' a xs
structure RSt (μ : List Addr) (H : Hp) (ds : DSt) (σ : St) : Prop where
  len : ds.length = σ.length
  at_ : ∀ (i : Nat) d, ds[i]? = some (some d) → ∃ v, σ[i]? = some (some v) ∧ RV G μ H d v
def RX (μ : List Addr) (H : Hp) (e : DX) (cls : Value) (d : Option Addr) : Prop :=
  cls = .ref (G.cad e.cls) ∧ ∃ dd ws, d = some dd ∧ H dd = some (.xd ws) ∧ ws.map (·.1) = e.fs.map (·.1) ∧ RVs G μ H (e.fs.map (·.2)) (ws.map (·.2))
end
section
variable {G : Cw} {μ μ' μ'' : List Addr} {H H' H'' : Hp} {h h' : DH} {ds : DSt} {σ : St}
theorem Ext.refl : Ext G μ H μ H := ⟨fun _ _ e => e, fun _ _ e => e⟩
theorem Ext.trans (a : Ext G μ H μ' H') (b : Ext G μ' H' μ'' H'') : Ext G μ H μ'' H'' := ⟨fun n x e => b.pre n x (a.pre n x e), fun x xs e => b.tup x xs (a.tup x xs e)⟩
mutual
theorem RV.mono (e : Ext G μ H μ' H') : ∀ (d : D) (v : V), RV G μ H d v → RV G μ' H' d v
  | .non, v, r => by simp only [RV] at r ⊢; exact r
  | .bl b, v, r => by simp only [RV] at r ⊢; exact r
  | .int i, v, r => by simp only [RV] at r ⊢; exact r
  | .str s, v, r => by simp only [RV] at r ⊢; exact r
  | .tup xs, v, r => by
    simp only [RV] at r ⊢
    obtain ⟨a, vs, e1, e2, e3⟩ := r
    exact ⟨a, vs, e1, e.tup _ _ e2, RVs.mono e xs vs e3⟩
  | .ref n, v, r => by
    simp only [RV] at r ⊢
    obtain ⟨a, e1, e2⟩ := r
    exact ⟨a, e1, e.pre _ _ e2⟩
theorem RVs.mono (e : Ext G μ H μ' H') : ∀ (ds : List D) (vs : List V), RVs G μ H ds vs → RVs G μ' H' ds vs
  | [], vs, r => by simp only [RVs] at r ⊢; exact r
  | d :: ds, vs, r => by
    simp only [RVs] at r ⊢
    obtain ⟨v, ws, e1, e2, e3⟩ := r
    exact ⟨v, ws, e1, RV.mono e d v e2, RVs.mono e ds ws e3⟩
end
theorem RVs.nil : RVs G μ H [] [] := by simp only [RVs]
theorem RVs.cons {d : D} {v : V} {ds : List D} {vs : List V} (r : RV G μ H d v) (t : RVs G μ H ds vs) : RVs G μ H (d :: ds) (v :: vs) := by simp only [RVs]; exact ⟨v, vs, rfl, r, t⟩
theorem RVs.length : ∀ {ds : List D} {vs : List V}, RVs G μ H ds vs → ds.length = vs.length
  | [], vs, r => by simp only [RVs] at r; rw [r]; rfl
  | d :: ds, vs, r => by
    simp only [RVs] at r
    obtain ⟨v, ws, e1, _, e3⟩ := r
    rw [e1, List.length_cons, List.length_cons, RVs.length e3]
theorem RVs.get : ∀ {ds : List D} {vs : List V} {i : Nat} {d : D}, RVs G μ H ds vs → ds[i]? = some d → ∃ v, vs[i]? = some v ∧ RV G μ H d v
  | [], vs, i, d, r, e => by simp at e
  | d :: ds, vs, 0, x, r, e => by
    simp only [RVs] at r
    obtain ⟨v, ws, e1, e2, e3⟩ := r
    simp at e; subst e
    exact ⟨v, by rw [e1]; rfl, e2⟩
  | d :: ds, vs, i + 1, x, r, e => by
    simp only [RVs] at r
    obtain ⟨v, ws, e1, e2, e3⟩ := r
    obtain ⟨u, h1, h2⟩ := RVs.get (i := i) e3 (by simpa using e)
    exact ⟨u, by rw [e1]; simpa using h1, h2⟩
theorem RVs.append : ∀ {xs ys : List D} {us ws : List V}, RVs G μ H xs us → RVs G μ H ys ws → RVs G μ H (xs ++ ys) (us ++ ws)
  | [], ys, us, ws, r, s => by simp only [RVs] at r; rw [r]; exact s
  | d :: ds, ys, us, ws, r, s => by
    simp only [RVs] at r
    obtain ⟨v, vs, e1, e2, e3⟩ := r
    rw [e1]
    exact RVs.cons e2 (RVs.append e3 s)
theorem RVs.take : ∀ {xs : List D} {us : List V} (n : Nat), RVs G μ H xs us → RVs G μ H (xs.take n) (us.take n)
  | xs, us, 0, r => by simp only [List.take_zero]; exact RVs.nil
  | [], us, n + 1, r => by simp only [RVs] at r; rw [r]; simp only [List.take_nil]; exact RVs.nil
  | d :: ds, us, n + 1, r => by
    simp only [RVs] at r
    obtain ⟨v, vs, e1, e2, e3⟩ := r
    rw [e1]
    exact RVs.cons e2 (RVs.take n e3)
theorem RVs.drop : ∀ {xs : List D} {us : List V} (n : Nat), RVs G μ H xs us → RVs G μ H (xs.drop n) (us.drop n)
  | xs, us, 0, r => r
  | [], us, n + 1, r => by simp only [RVs] at r; rw [r]; simp only [List.drop_nil]; exact RVs.nil
  | d :: ds, us, n + 1, r => by
    simp only [RVs] at r
    obtain ⟨v, vs, e1, e2, e3⟩ := r
    rw [e1]
    exact RVs.drop n e3
theorem RVs.set {d : D} {v : V} (r0 : RV G μ H d v) : ∀ {xs : List D} {us : List V} (n : Nat), RVs G μ H xs us → RVs G μ H (xs.set n d) (us.set n v)
  | [], us, n, r => by simp only [RVs] at r; rw [r]; simp only [List.set_nil]; exact RVs.nil
  | x :: xs, us, 0, r => by
    simp only [RVs] at r
    obtain ⟨w, vs, e1, e2, e3⟩ := r
    rw [e1]
    exact RVs.cons r0 e3
  | x :: xs, us, n + 1, r => by
    simp only [RVs] at r
    obtain ⟨w, vs, e1, e2, e3⟩ := r
    rw [e1]
    exact RVs.cons e2 (RVs.set r0 n e3)
theorem RVs.ints {ns : List Int} : RVs G μ H (ns.map D.int) (ns.map V.int) := by
  induction ns with
  | nil => exact RVs.nil
  | cons n r ih => exact RVs.cons (by simp only [RV]) ih
theorem RVs.ints_of : ∀ {ns : List Int} {vs : List V}, RVs G μ H (ns.map D.int) vs → vs = ns.map V.int
  | [], vs, r => by simpa only [List.map_nil, RVs] using r
  | n :: ns, vs, r => by
    simp only [List.map_cons, RVs, RV] at r
    obtain ⟨v, ws, e1, e2, e3⟩ := r
    rw [e1, e2, RVs.ints_of e3]; rfl
theorem RVs.bls_of : ∀ {ns : List Bool} {vs : List V}, RVs G μ H (ns.map D.bl) vs → vs = ns.map V.bl
  | [], vs, r => by simpa only [List.map_nil, RVs] using r
  | n :: ns, vs, r => by
    simp only [List.map_cons, RVs, RV] at r
    obtain ⟨v, ws, e1, e2, e3⟩ := r
    rw [e1, e2, RVs.bls_of e3]; rfl
theorem RVs.strs_of : ∀ {ns : List Str} {vs : List V}, RVs G μ H (ns.map D.str) vs → vs = ns.map V.str
  | [], vs, r => by simpa only [List.map_nil, RVs] using r
  | n :: ns, vs, r => by
    simp only [List.map_cons, RVs, RV] at r
    obtain ⟨v, ws, e1, e2, e3⟩ := r
    rw [e1, e2, RVs.strs_of e3]; rfl
theorem RVs.strs {ns : List Str} : RVs G μ H (ns.map D.str) (ns.map V.str) := by
  induction ns with
  | nil => exact RVs.nil
  | cons n r ih => exact RVs.cons (by simp only [RV]) ih
theorem RSt.mono (e : Ext G μ H μ' H') (r : RSt G μ H ds σ) : RSt G μ' H' ds σ := ⟨r.len, fun i d q => let ⟨v, h1, h2⟩ := r.at_ i d q; ⟨v, h1, RV.mono e d v h2⟩⟩
theorem RSt.set {d : D} {v : V} (r : RSt G μ H ds σ) (i : Nat) (q : RV G μ H d v) : RSt G μ H (ds.set i (some d)) (σ.set i (some v)) := by
  refine ⟨by rw [List.length_set, List.length_set, r.len], fun j x e => ?_⟩
  by_cases hj : i = j
  · subst hj
    by_cases hl : i < ds.length
    · rw [List.getElem?_set_self hl] at e
      cases e
      exact ⟨v, by rw [List.getElem?_set_self (by rw [← r.len]; exact hl)], q⟩
    · rw [List.getElem?_eq_none (by simpa using hl)] at e
      cases e
  · rw [List.getElem?_set_ne hj] at e
    rw [List.getElem?_set_ne hj]
    exact r.at_ j x e
theorem RSt.unset (r : RSt G μ H ds σ) (i : Nat) (o : Option V) : RSt G μ H (ds.set i none) (σ.set i o) := by
  refine ⟨by rw [List.length_set, List.length_set, r.len], fun j x e => ?_⟩
  by_cases hj : i = j
  · subst hj
    by_cases hl : i < ds.length
    · rw [List.getElem?_set_self hl] at e
      cases e
    · rw [List.getElem?_eq_none (by simpa using hl)] at e
      cases e
  · rw [List.getElem?_set_ne hj] at e
    rw [List.getElem?_set_ne hj]
    exact r.at_ j x e
end
/-! ### 3. what is wanted behind a run -/
section
variable (G : Cw)
def post {α β : Type} (W : WX) (ds : DSt) (rel : List Addr → Hp → α → β → Prop) (μ : List Addr) (H : Hp) (r : Res α) (Q : β → Hp → Prop) : Prop :=
  match r with
  | .ok a h => ∀ μ' b H', Ext G μ H μ' H' → Wd G μ' h H' → rel μ' H' a b → Q b H'
  | .exc e h => ∀ μ' σ' cls d H', Ext G μ H μ' H' → Wd G μ' h H' → RSt G μ' H' ds σ' → RX G μ' H' e cls d → W cls d σ' H'
  | .no => False
def tE (W : WX) (m : EM) : TE := fun σ H Q => ∃ μ ds h, Wd G μ h H ∧ RSt G μ H ds σ ∧ post G W ds (RV G) μ H (m ds h) Q
def relB (_ : List Addr) (_ : Hp) (a b : Bool) : Prop := a = b
def tT (W : WX) (m : TM) : TT := fun σ H Q => ∃ μ ds h, Wd G μ h H ∧ RSt G μ H ds σ ∧ post G W ds relB μ H (m ds h) Q
def tA (W : WX) (m : AM) : TA := fun σ H Q => ∃ μ ds h, Wd G μ h H ∧ RSt G μ H ds σ ∧ post G W ds (RVs G) μ H (m ds h) Q
def postS (W : WX) (μ : List Addr) (H : Hp) (r : RS) (E : Ends) : Prop :=
  match r with
  | .nx ds h => ∀ μ' σ' H', Ext G μ H μ' H' → Wd G μ' h H' → RSt G μ' H' ds σ' → E.nx σ' H'
  | .bk ds h => ∀ μ' σ' H', Ext G μ H μ' H' → Wd G μ' h H' → RSt G μ' H' ds σ' → E.bk σ' H'
  | .ct ds h => ∀ μ' σ' H', Ext G μ H μ' H' → Wd G μ' h H' → RSt G μ' H' ds σ' → E.ct σ' H'
  | .rt d h => ∀ μ' v H', Ext G μ H μ' H' → Wd G μ' h H' → RV G μ' H' d v → E.rt v H'
  | .exc e ds h => ∀ μ' σ' cls d H', Ext G μ H μ' H' → Wd G μ' h H' → RSt G μ' H' ds σ' → RX G μ' H' e cls d → W cls d σ' H'
  | .no => False
def tS (W : WX) (m : SM) : TS := fun E σ H => ∃ μ ds h, Wd G μ h H ∧ RSt G μ H ds σ ∧ postS G W μ H (m ds h) E
end
section
variable {G : Cw} {α β γ δ : Type} {W : WX} {ds : DSt} {μ μ' : List Addr} {H H' : Hp}
theorem post_mono {rel : List Addr → Hp → α → β → Prop} {r : Res α} {Q : β → Hp → Prop} (e : Ext G μ H μ' H') (p : post G W ds rel μ H r Q) : post G W ds rel μ' H' r Q := by
  cases r with
  | ok a h => exact fun μ2 b H2 e2 => p μ2 b H2 (e.trans e2)
  | exc x h => exact fun μ2 σ2 c d H2 e2 => p μ2 σ2 c d H2 (e.trans e2)
  | no => exact p
theorem postS_mono {r : RS} {E : Ends} (e : Ext G μ H μ' H') (p : postS G W μ H r E) : postS G W μ' H' r E := by
  cases r with
  | nx a h => exact fun μ2 b H2 e2 => p μ2 b H2 (e.trans e2)
  | bk a h => exact fun μ2 b H2 e2 => p μ2 b H2 (e.trans e2)
  | ct a h => exact fun μ2 b H2 e2 => p μ2 b H2 (e.trans e2)
  | rt a h => exact fun μ2 b H2 e2 => p μ2 b H2 (e.trans e2)
  | exc x s h => exact fun μ2 σ2 c d H2 e2 => p μ2 σ2 c d H2 (e.trans e2)
  | no => exact p
theorem post_bind {rel1 : List Addr → Hp → α → β → Prop} {rel2 : List Addr → Hp → γ → δ → Prop} {r : Res α} {f : α → DH → Res γ} {Q1 : β → Hp → Prop} {Q2 : δ → Hp → Prop} (p : post G W ds rel2 μ H (r.bind f) Q2)
    (k : ∀ a h μ' b H', Ext G μ H μ' H' → Wd G μ' h H' → rel1 μ' H' a b → post G W ds rel2 μ' H' (f a h) Q2 → Q1 b H') : post G W ds rel1 μ H r Q1 := by
  cases r with
  | ok a h => exact fun μ2 b H2 e2 w r => k a h μ2 b H2 e2 w r (post_mono e2 p)
  | exc x h => exact p
  | no => exact p
/-- a run that ends at once -/
theorem post_ok {rel : List Addr → Hp → α → β → Prop} {a : α} {h : DH} {b : β} {Q : β → Hp → Prop} (p : post G W ds rel μ H (.ok a h) Q) (w : Wd G μ h H) (r : rel μ H a b) : Q b H := p μ b H Ext.refl w r
/-! ### 4. new and changed objects -/
theorem sqT_new {K : PySem.W.Frag} {H : Hp} {p : Addr} {o : HO} (hn : H p = none) {a : Addr} {xs : List V} (s : SqT K H a xs) : SqT K (upd H p o) a xs := by
  rcases s with (s | ⟨u, s⟩) | s
  · exact .inl (.inl (by rw [upd_ne (ne_of_none s hn)]; exact s))
  · exact .inl (.inr ⟨u, by rw [upd_ne (ne_of_none s hn)]; exact s⟩)
  · exact .inr s
theorem sqF_new {G : Cw} {H : Hp} {p : Addr} {o : HO} (hn : H p = none) {a : Addr} {xs : List V} (s : SqF G H a xs) : SqF G (upd H p o) a xs := by
  rcases s with ⟨u, s⟩ | s
  · exact .inl ⟨u, by rw [upd_ne (ne_of_none s hn)]; exact s⟩
  · exact .inr s
theorem ext_new {p : Addr} {o : HO} (hn : H p = none) : Ext G μ H μ (upd H p o) := ⟨fun _ _ e => e, fun _ _ s => sqT_new hn s⟩
theorem ext_app (ν : List Addr) : Ext G μ H (μ ++ ν) H := ⟨fun n a e => by
  rw [List.getElem?_append_left (List.getElem?_eq_some_iff.mp e).1]; exact e, fun _ _ s => s⟩
theorem RObj.mono {o : DO} {a : Addr} (e : Ext G μ H μ' H') (r : RObj G μ H a o) (k : ∀ u, H a = some u → H' a = some u) : RObj G μ' H' a o := by
  cases o with
  | lst xs => obtain ⟨vs, h1, h2⟩ := r; exact ⟨vs, k _ h1, RVs.mono e _ _ h2⟩
  | fro xs =>
    obtain ⟨vs, h1, h2⟩ := r
    refine ⟨vs, ?_, RVs.mono e _ _ h2⟩
    rcases h1 with ⟨u, h1⟩ | h1
    · exact .inl ⟨u, k _ h1⟩
    · exact .inr h1
  | dK kvs => obtain ⟨ws, h1, h2, h3⟩ := r; exact ⟨ws, k _ h1, h2, RVs.mono e _ _ h3⟩
  | ins c fs => obtain ⟨dx, ws, h1, h2, h3⟩ := r; exact ⟨dx, ws, k _ h1, h2, RVs.mono e _ _ h3⟩
/-- an untracked new thing (a tuple, an instance's dict) -/
theorem Wd.new {h : DH} {p : Addr} {o : HO} (w : Wd G μ h H) (hn : H p = none) : Wd G μ h (upd H p o) :=
  ⟨w.len, fun n a u e1 e2 => (w.ob n a u e1 e2).mono (ext_new hn) fun x hx => by rw [upd_ne (ne_of_none hx hn)]; exact hx, w.nd⟩
theorem RObj.there {o : DO} {a : Addr} (r : RObj G μ H a o) (m : o.mu = true) : ∃ u, H a = some u ∧ Mut (some u) := by
  cases o with
  | lst xs => obtain ⟨vs, h1, _⟩ := r; exact ⟨_, h1, trivial⟩
  | fro xs => cases m
  | dK kvs => obtain ⟨vs, h1, _⟩ := r; exact ⟨_, h1, trivial⟩
  | ins c fs => obtain ⟨dx, vs, h1, _⟩ := r; exact ⟨_, h1, trivial⟩
theorem get_last {α : Type} (l : List α) (x : α) : (l ++ [x])[l.length]? = some x := by simp
theorem get_app {α : Type} {l : List α} {x : α} {n : Nat} {y : α} (h : (l ++ [x])[n]? = some y) : (n < l.length ∧ l[n]? = some y) ∨ (n = l.length ∧ y = x) := by
  by_cases hn : n < l.length
  · rw [List.getElem?_append_left hn] at h; exact .inl ⟨hn, h⟩
  · have := (List.getElem?_eq_some_iff.mp h).1
    simp at this
    have e : n = l.length := by omega
    subst e
    simp at h
    exact .inr ⟨rfl, h.symm⟩
/-- a new tracked object -/
theorem Wd.alloc {h : DH} {p : Addr} {o : HO} {u : DO} (w : Wd G μ h H) (hn : H p = none) (hu : u.mu = true) (r : RObj G (μ ++ [p]) (upd H p o) p u) : Wd G (μ ++ [p]) (h ++ [u]) (upd H p o) := by
  have ex : Ext G μ H (μ ++ [p]) (upd H p o) := (ext_new hn).trans (ext_app [p])
  refine ⟨by simp [w.len], fun n a x e1 e2 => ?_, fun n m a x y e1 e2 e3 e4 m1 m2 => ?_⟩
  · rcases get_app e2 with ⟨l2, e2⟩ | ⟨l2, e2⟩
    · rcases get_app e1 with ⟨l1, e1⟩ | ⟨l1, e1⟩
      · exact (w.ob n a x e1 e2).mono ex fun z hz => by rw [upd_ne (ne_of_none hz hn)]; exact hz
      · have := w.len; omega
    · rcases get_app e1 with ⟨l1, e1⟩ | ⟨l1, e1⟩
      · have := w.len; omega
      · subst e2; subst e1; exact r
  · have fresh : ∀ (k : Nat) (q : DO), μ[k]? = some p → h[k]? = some q → q.mu = true → False := fun k q f1 f2 f3 => by
      obtain ⟨z, hz, _⟩ := (w.ob k p q f1 f2).there f3
      rw [hn] at hz; cases hz
    rcases get_app e1 with ⟨l1, e1'⟩ | ⟨l1, e1⟩
    · rcases get_app e3 with ⟨k1, e3⟩ | ⟨k1, e3⟩
      · rcases get_app e2 with ⟨l2, e2⟩ | ⟨l2, e2⟩
        · rcases get_app e4 with ⟨k2, e4⟩ | ⟨k2, e4⟩
          · exact w.nd n m a x y e1' e2 e3 e4 m1 m2
          · have := w.len; omega
        · subst e2; exact (fresh n x e1' e3 m1).elim
      · have := w.len; omega
    · rcases get_app e2 with ⟨l2, e2'⟩ | ⟨l2, e2⟩
      · rcases get_app e4 with ⟨k2, e4⟩ | ⟨k2, e4⟩
        · subst e1; exact (fresh m y e2' e4 m2).elim
        · have := w.len; omega
      · omega
/-- a tracked object changed -/
theorem Wd.write {h : DH} {n : Nat} {a : Addr} {o : HO} {u u' : DO} (w : Wd G μ h H) (e1 : μ[n]? = some a) (e2 : h[n]? = some u) (m : u.mu = true) (m' : u'.mu = true)
    (ex : Ext G μ H μ (upd H a o)) (r : RObj G μ (upd H a o) a u') : Wd G μ (h.set n u') (upd H a o) := by
  have hl : n < h.length := (List.getElem?_eq_some_iff.mp e2).1
  refine ⟨by rw [List.length_set]; exact w.len, fun k b x f1 f2 => ?_, fun k k' b x y f1 f2 f3 f4 m1 m2 => ?_⟩
  · by_cases hk : n = k
    · subst hk
      rw [List.getElem?_set_self hl] at f2
      cases f2
      rw [e1] at f1; cases f1
      exact r
    · rw [List.getElem?_set_ne hk] at f2
      obtain ⟨z1, hz1, mz⟩ := (w.ob n a u e1 e2).there m
      have near : (∀ z, H b = some z → b ≠ a) → RObj G μ (upd H a o) b x := fun q => (w.ob k b x f1 f2).mono ex fun z hz => by rw [upd_ne (q z hz)]; exact hz
      cases x with
      | fro xs =>
        obtain ⟨vs, q, q2⟩ := w.ob k b _ f1 f2
        rcases q with ⟨ob, q⟩ | q
        · exact near fun z hz e => by
            subst e
            rw [q] at hz1; cases hz1; exact mz
        · exact ⟨vs, .inr q, RVs.mono ex _ _ q2⟩
      | lst xs => exact near fun z hz e => by subst e; exact hk (w.nd n k b u _ e1 f1 e2 f2 m rfl)
      | dK xs => exact near fun z hz e => by subst e; exact hk (w.nd n k b u _ e1 f1 e2 f2 m rfl)
      | ins c xs => exact near fun z hz e => by subst e; exact hk (w.nd n k b u _ e1 f1 e2 f2 m rfl)
  · have hx : ∃ x0, h[k]? = some x0 ∧ x0.mu = true := by
      by_cases hk : n = k
      · subst hk; exact ⟨u, e2, m⟩
      · rw [List.getElem?_set_ne hk] at f3; exact ⟨x, f3, m1⟩
    have hy : ∃ y0, h[k']? = some y0 ∧ y0.mu = true := by
      by_cases hk : n = k'
      · subst hk; exact ⟨u, e2, m⟩
      · rw [List.getElem?_set_ne hk] at f4; exact ⟨y, f4, m2⟩
    obtain ⟨x0, g1, g2⟩ := hx
    obtain ⟨y0, g3, g4⟩ := hy
    exact w.nd k k' b x0 y0 f1 f2 g1 g3 g2 g4
end
end Mi
/-! expressions -/
namespace L2
open PySem
section
variable {X : Cx} {e : Expr} {es : List Expr} {st : Stmt} {sts : List Stmt}
theorem PE.imp {t t' : TE} (p : PE X e t) (h : ∀ σ H Q, t' σ H Q → t σ H Q) : PE X e t' := ⟨fun pins s σ H Q I hq => p.run pins s σ H Q I (h σ H Q hq)⟩
theorem PT.imp {t t' : TT} (p : PT X e t) (h : ∀ σ H Q, t' σ H Q → t σ H Q) : PT X e t' := ⟨fun pins s σ H Q I hq => p.run pins s σ H Q I (h σ H Q hq)⟩
theorem PW.imp {t t' : TT} (p : PW X e t) (h : ∀ σ H Q, t' σ H Q → t σ H Q) : PW X e t' := ⟨fun wh pins s σ H Q I hq => p.run wh pins s σ H Q I (h σ H Q hq)⟩
theorem PTs.imp {t t' : TT} (p : PTs X es t) (h : ∀ σ H Q, t' σ H Q → t σ H Q) : PTs X es t' := ⟨fun pins s σ H Q I hq => p.run pins s σ H Q I (h σ H Q hq)⟩
theorem PA.imp {t t' : TA} (p : PA X es t) (h : ∀ σ H Q, t' σ H Q → t σ H Q) : PA X es t' := ⟨fun pos pins s σ H Q I hq => p.run pos pins s σ H Q I (h σ H Q hq)⟩
theorem PO.imp {e : Option Expr} {t t' : TO} (p : PO X e t) (h : ∀ σ H Q, t' σ H Q → t σ H Q) : PO X e t' := ⟨fun pins s σ H Q I hq => p.run pins s σ H Q I (h σ H Q hq)⟩
theorem PS.imp {t t' : TS} (p : PS X st t) (h : ∀ E σ H, t' E σ H → t E σ H) : PS X st t' := ⟨fun pins s σ H E I hq => p.run pins s σ H E I (h E σ H hq)⟩
theorem PSs.imp {t t' : TS} (p : PSs X sts t) (h : ∀ E σ H, t' E σ H → t E σ H) : PSs X sts t' := ⟨fun pins s σ H E I hq => p.run pins s σ H E I (h E σ H hq)⟩
end
end L2
namespace Mi
open PySem L2
/-! ### 5. the runs of expressions -/
def mC (d : D) : EM := fun _ h => .ok d h
def mVar (i : Nat) : EM := fun ds h => match ds.getD i none with | some d => .ok d h | none => .no
def mOp (f : D → D → DH → Res D) (a b : EM) : EM := fun ds h => (a ds h).bind fun x h1 => (b ds h1).bind fun y h2 => f x y h2
def mUn (f : D → DH → Res D) (a : EM) : EM := fun ds h => (a ds h).bind fun x h1 => f x h1
def aNil : AM := fun _ h => .ok [] h
def aCons (a : EM) (r : AM) : AM := fun ds h => (a ds h).bind fun x h1 => (r ds h1).bind fun xs h2 => .ok (x :: xs) h2
def mTup (a : AM) : EM := fun ds h => (a ds h).bind fun xs h1 => if xs.length ≤ 16777216 then .ok (.tup xs) h1 else .no
def mLst (a : AM) : EM := fun ds h => (a ds h).bind fun xs h1 => if xs.length ≤ 16777216 then .ok (.ref h1.length) (h1 ++ [.lst xs]) else .no
def mCB (f : List D → DH → Res D) (a : AM) : EM := fun ds h => (a ds h).bind fun xs h1 => f xs h1
def mTest (a : EM) : TM := fun ds h => (a ds h).bind fun x h1 => match x with | .bl b => .ok b h1 | _ => .no
def mNot (t : TM) : TM := fun ds h => (t ds h).bind fun b h1 => .ok (!b) h1
def mAnd (t u : TM) : TM := fun ds h => (t ds h).bind fun b h1 => if b then u ds h1 else .ok false h1
def mOr (t u : TM) : TM := fun ds h => (t ds h).bind fun b h1 => if b then .ok true h1 else u ds h1
def mYes : TM := fun _ h => .ok true h
def mNotV (a : EM) : EM := fun ds h => (a ds h).bind fun x h1 => match x with | .bl b => .ok (.bl (!b)) h1 | _ => .no
def mAndV (a b : EM) : EM := fun ds h => (a ds h).bind fun x h1 => match x with | .bl c => (if c then b ds h1 else .ok (.bl false) h1) | _ => .no
def mOrV (a b : EM) : EM := fun ds h => (a ds h).bind fun x h1 => match x with | .bl c => (if c then .ok (.bl true) h1 else b ds h1) | _ => .no
def mIf (t : TM) (a b : EM) : EM := fun ds h => (t ds h).bind fun c h1 => if c then a ds h1 else b ds h1
def oNone : DSt → DH → Res (Option Int) := fun _ h => .ok none h
def oSome (a : EM) : DSt → DH → Res (Option Int) := fun ds h => (a ds h).bind fun x h1 => match x with | .int i => .ok (some i) h1 | _ => .no
def mSl (f : D → Option Int → Option Int → DH → Res D) (a : EM) (lo hi : DSt → DH → Res (Option Int)) : EM := fun ds h => (a ds h).bind fun x h1 => (lo ds h1).bind fun l h2 => (hi ds h2).bind fun u h3 => f x l u h3
def isTy (T : String) (x : D) (h : DH) : Bool :=
  match x with
  | .str _ => T == "str"
  | .ref n => match h[n]? with
    | some (.lst _) => T == "list"
    | some (.fro _) => T == "list"
    | some (.dK _) => T == "dict"
    | _ => false
  | _ => false
def mMt (T : String) (f : D → List D → DH → Res D) (o : EM) (a : AM) : EM := fun ds h => (o ds h).bind fun x h1 => if isTy T x h1 then (a ds h1).bind fun xs h2 => f x xs h2 else .no
/-- a chain a op b op' c -/
def mChain (f g : D → D → DH → Res D) (a b c : EM) : EM := fun ds h => (a ds h).bind fun x h1 => (b ds h1).bind fun y h2 => (f x y h2).bind fun z h3 => match z with | .bl k => (if k then (c ds h3).bind fun w h4 => g y w h4 else .ok (.bl false) h3) | _ => .no
/-! ### 6. they are sound -/
section
variable {G : Cw} {X : Cx} {W : WX} {pos : Pos}
def OpS (G : Cw) (r : R2) (f : D → D → DH → Res D) : Prop := ∀ (W : WX) (ds : DSt) (μ : List Addr) (h : DH) (H : Hp) (x y : D) (v u : V) (Q : VK), Wd G μ h H → RV G μ H x v → RV G μ H y u → post G W ds (RV G) μ H (f x y h) Q → r v u H Q
def UnS (G : Cw) (r : V → Hp → VK → Prop) (f : D → DH → Res D) : Prop := ∀ (W : WX) (ds : DSt) (μ : List Addr) (h : DH) (H : Hp) (x : D) (v : V) (Q : VK), Wd G μ h H → RV G μ H x v → post G W ds (RV G) μ H (f x h) Q → r v H Q
def CallS (G : Cw) (r : List V → Hp → VK → Prop) (f : List D → DH → Res D) : Prop := ∀ (W : WX) (ds : DSt) (μ : List Addr) (h : DH) (H : Hp) (xs : List D) (vs : List V) (Q : VK), Wd G μ h H → RVs G μ H xs vs → post G W ds (RV G) μ H (f xs h) Q → r vs H Q
def MtSd (G : Cw) (r : V → List V → Hp → VK → Prop) (f : D → List D → DH → Res D) : Prop := ∀ (W : WX) (ds : DSt) (μ : List Addr) (h : DH) (H : Hp) (x : D) (v : V) (xs : List D) (vs : List V) (Q : VK), Wd G μ h H → RV G μ H x v → RVs G μ H xs vs → post G W ds (RV G) μ H (f x xs h) Q → r v vs H Q
def SlS (G : Cw) (r : V → Option Int → Option Int → Hp → VK → Prop) (f : D → Option Int → Option Int → DH → Res D) : Prop := ∀ (W : WX) (ds : DSt) (μ : List Addr) (h : DH) (H : Hp) (x : D) (v : V) (lo hi : Option Int) (Q : VK), Wd G μ h H → RV G μ H x v → post G W ds (RV G) μ H (f x lo hi h) Q → r v lo hi H Q
theorem pm_var (i : Nat) {x : Str} {p : Pos} (he : PE X (.Name x p) (L2.tVar i)) : PE X (.Name x p) (tE G W (mVar i)) := he.imp fun σ H Q ⟨μ, ds, h, w, r, p⟩ => by
  unfold mVar at p
  cases e : ds.getD i none with
  | none => rw [e] at p; exact p.elim
  | some d =>
    rw [e] at p
    rw [List.getD_eq_getElem?_getD] at e
    have e' : ds[i]? = some (some d) := by
      cases q : ds[i]? with
      | none => rw [q] at e; cases e
      | some o => rw [q] at e; exact congrArg some e
    obtain ⟨v, h1, h2⟩ := r.at_ i d e'
    exact ⟨v, h1, post_ok p w h2⟩
theorem pm_const {e : Expr} {d : D} {v : V} (he : PE X e (L2.tC v)) (r : ∀ μ H, RV G μ H d v) : PE X e (tE G W (mC d)) := he.imp fun σ H Q ⟨μ, ds, h, w, rs, p⟩ => post_ok p w (r μ H)
theorem pm_int {i : Int} {j} : PE X (.Constant (.int i) j pos) (tE G W (mC (.int i))) := pm_const pe_int fun _ _ => by simp only [RV]
theorem pm_bl {b : Bool} {j} : PE X (.Constant (.bool b) j pos) (tE G W (mC (.bl b))) := pm_const pe_bl fun _ _ => by simp only [RV]
theorem pm_non {j} : PE X (.Constant .none j pos) (tE G W (mC .non)) := pm_const pe_non fun _ _ => by simp only [RV]
theorem pm_str {x : Str} {j} : PE X (.Constant (.str x) j pos) (tE G W (mC (.str x))) := pm_const pe_str fun _ _ => by simp only [RV]
variable {a b c : Expr} {ma mb mc : EM}
theorem snd_op {r : R2} {f : D → D → DH → Res D} (hs : OpS G r f) : ∀ σ H Q, tE G W (mOp f ma mb) σ H Q → tOp r (tE G W ma) (tE G W mb) σ H Q := fun σ H Q ⟨μ, ds, h, w, rs, p⟩ =>
  ⟨μ, ds, h, w, rs, post_bind p fun x h1 μ1 v H1 e1 w1 r1 p1 => ⟨μ1, ds, h1, w1, rs.mono e1, post_bind p1 fun y h2 μ2 u H2 e2 w2 r2 p2 => hs W ds μ2 h2 H2 x y v u Q w2 (RV.mono e2 _ _ r1) r2 p2⟩⟩
theorem pm_op {op : Operator} {r : R2} {f : D → D → DH → Res D} (ho : OpR X (binaryOp op) r) (hs : OpS G r f) (ha : PE X a (tE G W ma)) (hb : PE X b (tE G W mb)) : PE X (.BinOp a op b pos) (tE G W (mOp f ma mb)) := (pe_op ho ha hb).imp (snd_op hs)
theorem pm_cmp {op : CmpOp} {r : R2} {f : D → D → DH → Res D} (ho : OpR X (compareOp op) r) (hs : OpS G r f) (ha : PE X a (tE G W ma)) (hb : PE X b (tE G W mb)) (hm : behindInMarks op b = false := by rfl) : PE X (.Compare a [op] [b] pos) (tE G W (mOp f ma mb)) := (pe_cmpR ho ha hb hm).imp (snd_op hs)
theorem pm_ix {r : R2} {f : D → D → DH → Res D} (hr : IxR X r) (hs : OpS G r f) (ha : PE X a (tE G W ma)) (hb : PE X b (tE G W mb)) (hp : PlainIx b := by exact fun _ _ => rfl) : PE X (.Subscript a b pos) (tE G W (mOp f ma mb)) := (pe_ix hr ha hb hp).imp (snd_op hs)
theorem pm_un {op : UnaryOp} {r : V → Hp → VK → Prop} {f : D → DH → Res D} (ho : UnR X (unaryOp op) r) (hs : UnS G r f) (ha : PE X a (tE G W ma)) : PE X (.UnaryOp op a pos) (tE G W (mUn f ma)) := (pe_un ho ha).imp fun σ H Q ⟨μ, ds, h, w, rs, p⟩ =>
  ⟨μ, ds, h, w, rs, post_bind p fun x h1 μ1 v H1 e1 w1 r1 p1 => hs W ds μ1 h1 H1 x v Q w1 r1 p1⟩
theorem pm_chain {op op' : CmpOp} {r r' : R2} {f g : D → D → DH → Res D} (ho : OpR X (compareOp op) r) (ho' : OpR X (compareOp op') r') (hs : OpS G r f) (hs' : OpS G r' g) (h : PE X (.Compare a [op, op'] [b, c] pos) (tChain r r' (tE G W ma) (tE G W mb) (tE G W mc))) :
    PE X (.Compare a [op, op'] [b, c] pos) (tE G W (mChain f g ma mb mc)) := h.imp fun σ H Q ⟨μ, ds, h, w, rs, p⟩ =>
  ⟨μ, ds, h, w, rs, post_bind p fun x h1 μ1 v H1 e1 w1 r1 p1 => ⟨μ1, ds, h1, w1, rs.mono e1, post_bind p1 fun y h2 μ2 u H2 e2 w2 r2 p2 =>
    hs W ds μ2 h2 H2 x y v u _ w2 (RV.mono e2 _ _ r1) r2 (post_bind (rel1 := RV G) p2 fun z h3 μ3 zv H3 e3 w3 r3 p3 => by
      cases z with
      | bl k =>
        simp only [RV] at r3
        refine ⟨k, r3, ?_⟩
        cases k with
        | true => exact ⟨μ3, ds, h3, w3, rs.mono ((e1.trans e2).trans e3), post_bind p3 fun q h4 μ4 qv H4 e4 w4 r4 p4 => hs' W ds μ4 h4 H4 y q u qv Q w4 (RV.mono (e3.trans e4) _ _ r2) r4 p4⟩
        | false => exact post_ok p3 w3 (by simp only [RV])
      | _ => exact p3.elim)⟩⟩
/-! argument lists, displays -/
theorem am_nil : PA X [] (tA G W aNil) := pa_nil.imp fun σ H Q ⟨μ, ds, h, w, rs, p⟩ => post_ok p w RVs.nil
theorem am_cons {e : Expr} {es : List Expr} {me : EM} {mr : AM} (ha : PE X e (tE G W me)) (hr : PA X es (tA G W mr)) (hs : starEach (e :: es) X.env = (false, eval e X.env) :: starEach es X.env := by rfl) : PA X (e :: es) (tA G W (aCons me mr)) :=
  (pa_cons ha hr hs).imp fun σ H Q ⟨μ, ds, h, w, rs, p⟩ => ⟨μ, ds, h, w, rs, post_bind p fun x h1 μ1 v H1 e1 w1 r1 p1 => ⟨μ1, ds, h1, w1, rs.mono e1, post_bind p1 fun xs h2 μ2 vs H2 e2 w2 r2 p2 => post_ok p2 w2 (RVs.cons (RV.mono e2 _ _ r1) r2)⟩⟩
theorem new_tup {μ : List Addr} {h : DH} {H : Hp} {ds : DSt} {xs : List D} {vs : List V} {Q : VK} (w : Wd G μ h H) (r : RVs G μ H xs vs) (p : post G W ds (RV G) μ H (.ok (.tup xs) h) Q) : ∀ q, H q = none → Q (.ref q) (upd H q (.tup vs)) := fun q hq =>
  p μ (.ref q) (upd H q (.tup vs)) (ext_new hq) (w.new hq) (by simp only [RV]; exact ⟨q, vs, rfl, SqT.of upd_same, RVs.mono (ext_new hq) _ _ r⟩)
theorem new_lst {μ : List Addr} {h : DH} {H : Hp} {ds : DSt} {xs : List D} {vs : List V} {Q : VK} (w : Wd G μ h H) (r : RVs G μ H xs vs) (p : post G W ds (RV G) μ H (.ok (.ref h.length) (h ++ [.lst xs])) Q) : ∀ q, H q = none → Q (.ref q) (upd H q (.lst vs)) := fun q hq => by
  have ex : Ext G μ H (μ ++ [q]) (upd H q (.lst vs)) := (ext_new hq).trans (ext_app [q])
  refine p (μ ++ [q]) (.ref q) (upd H q (.lst vs)) ex (w.alloc hq rfl ⟨vs, upd_same, RVs.mono ex _ _ r⟩) ?_
  simp only [RV]
  exact ⟨q, rfl, by rw [← w.len]; exact get_last μ q⟩
theorem pm_tup {es : List Expr} {m : AM} {x1} (ha : PA X es (tA G W m)) : PE X (.Tuple es x1 pos) (tE G W (mTup m)) := (pe_tup ha).imp fun σ H Q ⟨μ, ds, h, w, rs, p⟩ => ⟨μ, ds, h, w, rs, post_bind p fun xs h1 μ1 vs H1 e1 w1 r1 p1 => by
  by_cases hz : xs.length ≤ 16777216
  · rw [if_pos hz] at p1
    exact ⟨by rw [← r1.length, sizeLine_eq]; exact hz, new_tup w1 r1 p1⟩
  · rw [if_neg hz] at p1; exact p1.elim⟩
theorem pm_lst {es : List Expr} {m : AM} (ha : PA X es (tA G W m)) : PE X (.List es pos) (tE G W (mLst m)) := (pe_lst ha).imp fun σ H Q ⟨μ, ds, h, w, rs, p⟩ => ⟨μ, ds, h, w, rs, post_bind p fun xs h1 μ1 vs H1 e1 w1 r1 p1 => by
  by_cases hz : xs.length ≤ 16777216
  · rw [if_pos hz] at p1
    exact ⟨by rw [← r1.length, sizeLine_eq]; exact hz, new_lst w1 r1 p1⟩
  · rw [if_neg hz] at p1; exact p1.elim⟩
/-! calls of what is built in -/
theorem snd_cb {r : List V → Hp → VK → Prop} {f : List D → DH → Res D} {m : AM} (hs : CallS G r f) : ∀ σ H Q, tE G W (mCB f m) σ H Q → tCB r (tA G W m) σ H Q := fun σ H Q ⟨μ, ds, h, w, rs, p⟩ =>
  ⟨μ, ds, h, w, rs, post_bind p fun xs h1 μ1 vs H1 e1 w1 r1 p1 => hs W ds μ1 h1 H1 xs vs Q w1 r1 p1⟩
theorem pm_cb {e : Expr} {r : List V → Hp → VK → Prop} {f : List D → DH → Res D} {m : AM} (hs : CallS G r f) (he : PE X e (tCB r (tA G W m))) : PE X e (tE G W (mCB f m)) := he.imp (snd_cb hs)
theorem pm_cb0 {e : Expr} {r : List V → Hp → VK → Prop} {f : List D → DH → Res D} (hs : CallS G r f) (he : PE X e (tCB r L2.tNil)) : PE X e (tE G W (mCB f aNil)) := he.imp fun σ H Q ⟨μ, ds, h, w, rs, p⟩ => hs W ds μ h H [] [] Q w RVs.nil p
theorem ty_ok {T : String} {μ : List Addr} {h : DH} {H : Hp} {x : D} {v : V} (w : Wd G μ h H) (r : RV G μ H x v) (t : isTy T x h = true) : tyV G.K T v H := by
  cases x with
  | str s => simp only [RV] at r; subst r; exact beq_iff_eq.mp t
  | ref n =>
    simp only [RV] at r
    obtain ⟨a, rfl, e⟩ := r
    cases q : h[n]? with
    | none => simp only [isTy, q] at t; cases t
    | some o =>
      simp only [isTy, q] at t
      have ob := w.ob n a o e q
      cases o with
      | lst xs => obtain ⟨vs, h1, _⟩ := ob; exact .inl ⟨beq_iff_eq.mp t, vs, SqL.of h1⟩
      | fro xs =>
        obtain ⟨vs, h1, _⟩ := ob
        refine .inl ⟨beq_iff_eq.mp t, vs, ?_⟩
        rcases h1 with ⟨u, h1⟩ | h1
        · exact .inl (.inr ⟨u, h1⟩)
        · exact h1 H
      | dK kvs => obtain ⟨vs, h1, _⟩ := ob; exact .inr (.inr (.inl ⟨beq_iff_eq.mp t, .inl ⟨_, h1⟩⟩))
      | ins c fs => cases t
  | _ => cases t
theorem snd_mt {T : String} {r : V → List V → Hp → VK → Prop} {f : D → List D → DH → Res D} {mo : EM} {m : AM} (hs : MtSd G r f) : ∀ σ H Q, tE G W (mMt T f mo m) σ H Q → tBM G.K T r (tE G W mo) (tA G W m) σ H Q := fun σ H Q ⟨μ, ds, h, w, rs, p⟩ =>
  ⟨μ, ds, h, w, rs, post_bind p fun x h1 μ1 v H1 e1 w1 r1 p1 => by
    by_cases t : isTy T x h1 = true
    · rw [if_pos t] at p1
      exact ⟨ty_ok w1 r1 t, μ1, ds, h1, w1, rs.mono e1, post_bind p1 fun xs h2 μ2 vs H2 e2 w2 r2 p2 => hs W ds μ2 h2 H2 x v xs vs Q w2 (RV.mono e2 _ _ r1) r2 p2⟩
    · rw [if_neg t] at p1; exact p1.elim⟩
theorem pm_mt {e : Expr} {T : String} {r : V → List V → Hp → VK → Prop} {f : D → List D → DH → Res D} {mo : EM} {m : AM} (hs : MtSd G r f) (he : PE X e (tBM G.K T r (tE G W mo) (tA G W m))) : PE X e (tE G W (mMt T f mo m)) := he.imp (snd_mt hs)
theorem pm_mt0 {e : Expr} {T : String} {r : V → List V → Hp → VK → Prop} {f : D → List D → DH → Res D} {mo : EM} (hs : MtSd G r f) (he : PE X e (tBM0 G.K T r (tE G W mo))) : PE X e (tE G W (mMt T f mo aNil)) := he.imp fun σ H Q ⟨μ, ds, h, w, rs, p⟩ =>
  ⟨μ, ds, h, w, rs, post_bind p fun x h1 μ1 v H1 e1 w1 r1 p1 => by
    by_cases t : isTy T x h1 = true
    · rw [if_pos t] at p1
      exact ⟨ty_ok w1 r1 t, hs W ds μ1 h1 H1 x v [] [] Q w1 r1 RVs.nil p1⟩
    · rw [if_neg t] at p1; exact p1.elim⟩
/-! slices -/
theorem om_none : PO X none (fun σ H (Q : Option Int → Hp → Prop) => ∃ μ ds h, Wd G μ h H ∧ RSt G μ H ds σ ∧ post G W ds (fun _ _ a b => a = b) μ H (oNone ds h) Q) := po_none.imp fun σ H Q ⟨μ, ds, h, w, rs, p⟩ => post_ok (b := none) p w rfl
theorem om_some {e : Expr} {m : EM} (he : PE X e (tE G W m)) : PO X (some e) (fun σ H (Q : Option Int → Hp → Prop) => ∃ μ ds h, Wd G μ h H ∧ RSt G μ H ds σ ∧ post G W ds (fun _ _ a b => a = b) μ H (oSome m ds h) Q) := (po_some he).imp fun σ H Q ⟨μ, ds, h, w, rs, p⟩ =>
  ⟨μ, ds, h, w, rs, post_bind p fun x h1 μ1 v H1 e1 w1 r1 p1 => by
    cases x with
    | int i => simp only [RV] at r1; exact ⟨i, r1, post_ok (b := some i) p1 w1 rfl⟩
    | _ => exact p1.elim⟩
theorem pm_slice {r : V → Option Int → Option Int → Hp → VK → Prop} {f : D → Option Int → Option Int → DH → Res D} {e : Expr} {lo hi : Option Expr} {p2 : Pos} {me : EM} {ml mh : DSt → DH → Res (Option Int)} (hr : SlR X r) (hs : SlS G r f) (he : PE X e (tE G W me))
    (hl : PO X lo (fun σ H (Q : Option Int → Hp → Prop) => ∃ μ ds h, Wd G μ h H ∧ RSt G μ H ds σ ∧ post G W ds (fun _ _ a b => a = b) μ H (ml ds h) Q))
    (hu : PO X hi (fun σ H (Q : Option Int → Hp → Prop) => ∃ μ ds h, Wd G μ h H ∧ RSt G μ H ds σ ∧ post G W ds (fun _ _ a b => a = b) μ H (mh ds h) Q)) : PE X (.Subscript e (.Slice lo hi none p2) pos) (tE G W (mSl f me ml mh)) := (pe_slice hr he hl hu).imp fun σ H Q ⟨μ, ds, h, w, rs, p⟩ =>
  ⟨μ, ds, h, w, rs, post_bind p fun x h1 μ1 v H1 e1 w1 r1 p1 => ⟨μ1, ds, h1, w1, rs.mono e1, post_bind p1 fun l h2 μ2 l' H2 e2 w2 r2 p2 => ⟨μ2, ds, h2, w2, rs.mono (e1.trans e2), post_bind p2 fun u h3 μ3 u' H3 e3 w3 r3 p3 => by
    subst r2; subst r3
    exact hs W ds μ3 h3 H3 x v l u Q w3 (RV.mono (e2.trans e3) _ _ r1) p3⟩⟩⟩
/-! tests -/
variable {t u : TM} {rest : List Expr}
theorem snd_test {m : EM} {te : TE} (hq : ∀ σ H Q, tE G W m σ H Q → te σ H Q) : ∀ σ H Q, tT G W (mTest m) σ H Q → tTest te σ H Q := fun σ H Q ⟨μ, ds, h, w, rs, p⟩ => hq σ H _ ⟨μ, ds, h, w, rs, post_bind p fun x h1 μ1 v H1 e1 w1 r1 p1 => by
  cases x with
  | bl b => simp only [RV] at r1; exact ⟨b, r1, post_ok (b := b) p1 w1 rfl⟩
  | _ => exact p1.elim⟩
theorem tm_cmp {op : CmpOp} {r : R2} {f : D → D → DH → Res D} (ho : OpR X (compareOp op) r) (hs : OpS G r f) (ha : PE X a (tE G W ma)) (hb : PE X b (tE G W mb)) (hm : behindInMarks op b = false := by rfl) : PT X (.Compare a [op] [b] pos) (tT G W (mTest (mOp f ma mb))) := (pt_cmpR ho ha hb hm).imp (snd_test (snd_op hs))
theorem tm_chain {op op' : CmpOp} {r r' : R2} {f g : D → D → DH → Res D} (hs : OpS G r f) (hs' : OpS G r' g) (h : PT X (.Compare a [op, op'] [b, c] pos) (tTest (tChain r r' (tE G W ma) (tE G W mb) (tE G W mc)))) :
    PT X (.Compare a [op, op'] [b, c] pos) (tT G W (mTest (mChain f g ma mb mc))) := h.imp (snd_test fun σ H Q ⟨μ, ds, h, w, rs, p⟩ =>
  ⟨μ, ds, h, w, rs, post_bind p fun x h1 μ1 v H1 e1 w1 r1 p1 => ⟨μ1, ds, h1, w1, rs.mono e1, post_bind p1 fun y h2 μ2 u H2 e2 w2 r2 p2 =>
    hs W ds μ2 h2 H2 x y v u _ w2 (RV.mono e2 _ _ r1) r2 (post_bind (rel1 := RV G) p2 fun z h3 μ3 zv H3 e3 w3 r3 p3 => by
      cases z with
      | bl k =>
        simp only [RV] at r3
        refine ⟨k, r3, ?_⟩
        cases k with
        | true => exact ⟨μ3, ds, h3, w3, rs.mono ((e1.trans e2).trans e3), post_bind p3 fun q h4 μ4 qv H4 e4 w4 r4 p4 => hs' W ds μ4 h4 H4 y q u qv Q w4 (RV.mono (e3.trans e4) _ _ r2) r4 p4⟩
        | false => exact post_ok p3 w3 (by simp only [RV])
      | _ => exact p3.elim)⟩⟩)
theorem tm_val {e : Expr} {m : EM} (he : PE X e (tE G W m)) (h : ∀ whole, isTrue e X.env whole = (do let v ← whole; standAt e.pos; holding [v] (truthy v)) := by intro _; rfl) : PT X e (tT G W (mTest m)) := (pt_val he h).imp fun σ H Q ⟨μ, ds, h, w, rs, p⟩ =>
  ⟨μ, ds, h, w, rs, post_bind p fun x h1 μ1 v H1 e1 w1 r1 p1 => by
    cases x with
    | bl b => simp only [RV] at r1; exact ⟨b, r1, post_ok (b := b) p1 w1 rfl⟩
    | _ => exact p1.elim⟩
theorem tm_not (ha : PT X a (tT G W t)) : PT X (.UnaryOp .Not a pos) (tT G W (mNot t)) := (pt_not ha).imp fun σ H Q ⟨μ, ds, h, w, rs, p⟩ => ⟨μ, ds, h, w, rs, post_bind p fun x h1 μ1 v H1 e1 w1 r1 p1 => post_ok (b := !v) p1 w1 (by show (!x) = !v; rw [show x = v from r1])⟩
theorem wm_and1 (ha : PT X a (tT G W t)) : PW X (.BoolOp .And [a] pos) (tT G W t) := pw_and1 ha
theorem wm_or1 (ha : PT X a (tT G W t)) : PW X (.BoolOp .Or [a] pos) (tT G W t) := pw_or1 ha
theorem wm_and (ha : PT X a (tT G W t)) (hb : PW X (.BoolOp .And (b :: rest) pos) (tT G W u)) : PW X (.BoolOp .And (a :: b :: rest) pos) (tT G W (mAnd t u)) := (pw_and ha hb).imp fun σ H Q ⟨μ, ds, h, w, rs, p⟩ => ⟨μ, ds, h, w, rs, post_bind p fun x h1 μ1 v H1 e1 w1 r1 p1 => by
  have e : x = v := r1
  subst e
  cases x with
  | true => exact ⟨μ1, ds, h1, w1, rs.mono e1, p1⟩
  | false => exact post_ok (b := false) p1 w1 rfl⟩
theorem wm_or (ha : PT X a (tT G W t)) (hb : PW X (.BoolOp .Or (b :: rest) pos) (tT G W u)) : PW X (.BoolOp .Or (a :: b :: rest) pos) (tT G W (mOr t u)) := (pw_or ha hb).imp fun σ H Q ⟨μ, ds, h, w, rs, p⟩ => ⟨μ, ds, h, w, rs, post_bind p fun x h1 μ1 v H1 e1 w1 r1 p1 => by
  have e : x = v := r1
  subst e
  cases x with
  | true => exact post_ok (b := true) p1 w1 rfl
  | false => exact ⟨μ1, ds, h1, w1, rs.mono e1, p1⟩⟩
theorem tm_bool {e : Expr} (h : PW X e (tT G W t)) : PT X e (tT G W t) := h.pt
theorem pm_not (ha : PE X a (tE G W ma)) : PE X (.UnaryOp .Not a pos) (tE G W (mNotV ma)) := (pe_not ha).imp fun σ H Q ⟨μ, ds, h, w, rs, p⟩ => ⟨μ, ds, h, w, rs, post_bind p fun x h1 μ1 v H1 e1 w1 r1 p1 => by
  cases x with
  | bl c => simp only [RV] at r1; exact ⟨c, r1, post_ok p1 w1 (by simp only [RV])⟩
  | _ => exact p1.elim⟩
theorem pm_one {op} {m : EM} (ha : PE X a (tE G W m)) : PE X (.BoolOp op [a] pos) (tE G W m) := pe_one ha
theorem pm_and (ha : PE X a (tE G W ma)) (hb : PE X (.BoolOp .And (b :: rest) pos) (tE G W mb)) : PE X (.BoolOp .And (a :: b :: rest) pos) (tE G W (mAndV ma mb)) := (pe_and ha hb).imp fun σ H Q ⟨μ, ds, h, w, rs, p⟩ => ⟨μ, ds, h, w, rs, post_bind p fun x h1 μ1 v H1 e1 w1 r1 p1 => by
  cases x with
  | bl c =>
    simp only [RV] at r1
    refine ⟨c, r1, ?_⟩
    cases c with
    | true => exact ⟨μ1, ds, h1, w1, rs.mono e1, p1⟩
    | false => exact post_ok p1 w1 (by simp only [RV])
  | _ => exact p1.elim⟩
theorem pm_or (ha : PE X a (tE G W ma)) (hb : PE X (.BoolOp .Or (b :: rest) pos) (tE G W mb)) : PE X (.BoolOp .Or (a :: b :: rest) pos) (tE G W (mOrV ma mb)) := (pe_or ha hb).imp fun σ H Q ⟨μ, ds, h, w, rs, p⟩ => ⟨μ, ds, h, w, rs, post_bind p fun x h1 μ1 v H1 e1 w1 r1 p1 => by
  cases x with
  | bl c =>
    simp only [RV] at r1
    refine ⟨c, r1, ?_⟩
    cases c with
    | true => exact post_ok p1 w1 (by simp only [RV])
    | false => exact ⟨μ1, ds, h1, w1, rs.mono e1, p1⟩
  | _ => exact p1.elim⟩
theorem pm_if (hc : PT X c (tT G W t)) (ha : PE X a (tE G W ma)) (hb : PE X b (tE G W mb)) : PE X (.IfExp c a b pos) (tE G W (mIf t ma mb)) := (pe_ifExp hc ha hb).imp fun σ H Q ⟨μ, ds, h, w, rs, p⟩ => ⟨μ, ds, h, w, rs, post_bind p fun x h1 μ1 v H1 e1 w1 r1 p1 => by
  have e : x = v := r1
  subst e
  cases x with
  | true => exact ⟨μ1, ds, h1, w1, rs.mono e1, p1⟩
  | false => exact ⟨μ1, ds, h1, w1, rs.mono e1, p1⟩⟩
end
end Mi
/-! statements, loops, comprehensions, defs -/
namespace Mi
open PySem L2
/-! ### 7. the runs of statements -/
def Res.st {α : Type} (r : Res α) (ds : DSt) (k : α → DH → RS) : RS :=
  match r with
  | .ok a h => k a h
  | .exc e h => .exc e ds h
  | .no => .no
abbrev GM := D → DSt → DH → Option (DSt × DH)
def gNm (i : Nat) : GM := fun d ds h => some (ds.set i (some d), h)
def gsNil : List D → DSt → DH → Option (DSt × DH) := fun xs ds h => match xs with | [] => some (ds, h) | _ => none
def gsCons (g : GM) (r : List D → DSt → DH → Option (DSt × DH)) : List D → DSt → DH → Option (DSt × DH) := fun xs ds h => match xs with | [] => none | x :: xs => (g x ds h).bind fun p => r xs p.1 p.2
def gTp (r : List D → DSt → DH → Option (DSt × DH)) : GM := fun d ds h => match d with | .tup xs => r xs ds h | _ => none
def gSb (f : D → D → D → DH → Option DH) (o i : EM) : GM := fun d ds h => match o ds h with
  | .ok x h1 => match i ds h1 with
    | .ok y h2 => (f x y d h2).map fun h3 => (ds, h3)
    | _ => none
  | _ => none
def sNext : SM := fun ds h => .nx ds h
def sSeq (a b : SM) : SM := fun ds h => match a ds h with
  | .nx ds' h' => b ds' h'
  | r => r
def sAsg (e : EM) (g : GM) : SM := fun ds h => (e ds h).st ds fun d h1 => match g d ds h1 with | some p => .nx p.1 p.2 | none => .no
def sDrop (e : EM) : SM := fun ds h => (e ds h).st ds fun _ h1 => .nx ds h1
def sRet (e : EM) : SM := fun ds h => (e ds h).st ds fun d h1 => .rt d h1
def sRetN : SM := fun _ h => .rt .non h
def sBrk : SM := fun ds h => .bk ds h
def sCnt : SM := fun ds h => .ct ds h
def sIf (c : TM) (a b : SM) : SM := fun ds h => (c ds h).st ds fun t h1 => if t then a ds h1 else b ds h1
def sAug (i : Nat) (f : D → D → DH → Res D) (e : EM) : SM := fun ds h => match ds.getD i none with
  | some x => (e ds h).st ds fun y h1 => (f x y h1).st ds fun z h2 => .nx (ds.set i (some z)) h2
  | none => .no
def whileN (c : TM) (b : SM) : Nat → DSt → DH → RS
  | 0, _, _ => .no
  | k + 1, ds, h => (c ds h).st ds fun t h1 => if t then
      (match b ds h1 with
      | .nx ds' h' => whileN c b k ds' h'
      | .ct ds' h' => whileN c b k ds' h'
      | .bk ds' h' => .nx ds' h'
      | r => r) else .nx ds h1
@[irreducible] def sWhile (M : Nat) (c : TM) (b : SM) : SM := fun ds h => whileN c b M ds h
inductive Itd where
  | lst (n : Nat) | tup (xs : List D) | rng (lo : Int) (n : Nat)
def Itd.at_ (it : Itd) (i : Nat) (h : DH) : Option (Option D) :=
  match it with
  | .lst n => match h[n]? with
    | some (.lst xs) => some xs[i]?
    | some (.fro xs) => some xs[i]?
    | _ => none
  | .tup xs => some xs[i]?
  | .rng lo n => if i < n then some (some (.int (lo + (i : Nat)))) else some none
def Itd.len (it : Itd) (h : DH) : Nat :=
  match it with
  | .lst n => match h[n]? with
    | some (.lst xs) => xs.length
    | some (.fro xs) => xs.length
    | _ => 0
  | .tup xs => xs.length
  | .rng _ n => n
abbrev IM := DSt → DH → Res Itd
def iSeq (e : EM) : IM := fun ds h => (e ds h).bind fun d h1 => match d with
  | .ref n => (match h1[n]? with
    | some (.lst _) => .ok (.lst n) h1
    | some (.fro _) => .ok (.lst n) h1
    | _ => .no)
  | .tup xs => .ok (.tup xs) h1
  | _ => .no
def iR1 (a : EM) : IM := fun ds h => (a ds h).bind fun d h1 => match d with
  | .int j => if -(2 ^ 62) ≤ j ∧ j < 2 ^ 62 then .ok (.rng 0 j.toNat) h1 else .no
  | _ => .no
def iR2 (a b : EM) : IM := fun ds h => (a ds h).bind fun d h1 => (b ds h1).bind fun u h2 => match d, u with
  | .int i, .int j => if -(2 ^ 62) ≤ i ∧ i < 2 ^ 62 ∧ -(2 ^ 62) ≤ j ∧ j < 2 ^ 62 then .ok (.rng i (j - i).toNat) h2 else .no
  | _, _ => .no
def forN (it : Itd) (g : GM) (b : SM) : Nat → Nat → DSt → DH → RS
  | 0, _, _, _ => .no
  | k + 1, i, ds, h => match it.at_ i h with
    | none => .no
    | some none => .nx ds h
    | some (some x) => match g x ds h with
      | none => .no
      | some p => match b p.1 p.2 with
        | .nx ds' h' => forN it g b k (i + 1) ds' h'
        | .ct ds' h' => forN it g b k (i + 1) ds' h'
        | .bk ds' h' => .nx ds' h'
        | r => r
@[irreducible] def sFor (mi : IM) (g : GM) (b : SM) : SM := fun ds h => (mi ds h).st ds fun it h1 => forN it g b (it.len h1 + 1) 0 ds h1
def wipeD (ds : DSt) : List Nat → DSt
  | [] => ds
  | v :: vs => (wipeD ds vs).set v none
def lcN (it : Itd) (j : Nat) (t : TM) (e : EM) (n : Nat) (ds : DSt) : Nat → Nat → DH → Res D
  | 0, _, _ => .no
  | k + 1, i, h => match it.at_ i h with
    | none => .no
    | some none => .ok (.ref n) h
    | some (some x) => match t (ds.set j (some x)) h with
      | .ok true h1 => match e (ds.set j (some x)) h1 with
        | .ok d h2 => match h2[n]? with
          | some (.lst acc) => if acc.length < 16777216 then lcN it j t e n ds k (i + 1) (h2.set n (.lst (acc ++ [d]))) else .no
          | _ => .no
        | _ => .no
      | .ok false h1 => lcN it j t e n ds k (i + 1) h1
      | _ => .no
@[irreducible] def mLc (mi : IM) (j : Nat) (t : TM) (e : EM) (vs : List Nat) : EM := fun ds h => (mi ds h).bind fun it h1 => lcN it j t e h1.length (wipeD ds vs) (it.len h1 + 1) 0 (h1 ++ [.lst []])
def runB (n : Nat) (b : SM) (xs : List D) (h : DH) : Res D := match b (xs.map some ++ List.replicate (n - xs.length) none) h with
  | .nx _ h' => .ok .non h'
  | .rt d h' => .ok d h'
  | .exc e _ h' => .exc e h'
  | _ => .no
/-! ### 8. they are sound -/
section
variable (G : Cw)
def tG (m : GM) : TG := fun v σ H Q => ∃ μ ds h d, Wd G μ h H ∧ RSt G μ H ds σ ∧ RV G μ H d v ∧ match m d ds h with
  | some p => ∀ μ' σ' H', Ext G μ H μ' H' → Wd G μ' p.2 H' → RSt G μ' H' p.1 σ' → Q σ' H'
  | none => False
def tGs (m : List D → DSt → DH → Option (DSt × DH)) : TGs := fun vs σ H Q => ∃ μ ds h xs, Wd G μ h H ∧ RSt G μ H ds σ ∧ RVs G μ H xs vs ∧ match m xs ds h with
  | some p => ∀ μ' σ' H', Ext G μ H μ' H' → Wd G μ' p.2 H' → RSt G μ' H' p.1 σ' → Q σ' H'
  | none => False
def SetS (t : TSet) (f : D → D → D → DH → Option DH) : Prop := ∀ (μ : List Addr) (h : DH) (H : Hp) (x y z : D) (o i v : V) (h' : DH) (Q : Hp → Prop), Wd G μ h H → RV G μ H x o → RV G μ H y i → RV G μ H z v → f x y z h = some h' →
  (∀ H', Ext G μ H μ H' → Wd G μ h' H' → Q H') → t o i v H Q
def relIt (μ : List Addr) (H : Hp) (it : Itd) (J : It) : Prop :=
  match it with
  | .lst n => ∃ a, μ[n]? = some a ∧ J = Itl G.K a
  | .tup xs => ∃ a vs, SqT G.K H a vs ∧ RVs G μ H xs vs ∧ J = Itt G.K a
  | .rng lo n => J = Itr lo n
def tI (W : WX) (m : IM) : TI := fun σ H R => ∃ μ ds h, Wd G μ h H ∧ RSt G μ H ds σ ∧ post G W ds (relIt G) μ H (m ds h) R
def spF (n : Nat) (F : List D → DH → Res D) : Sp := fun vs H Q E => vs.length = n ∧ ∃ μ xs h, Wd G μ h H ∧ RVs G μ H xs vs ∧ post G (fun c d _ H => E c d H) [] (RV G) μ H (F xs h) Q
end
section
variable {G : Cw} {X : Cx} {W : WX} {pos : Pos} {α β : Type}
theorem post_st {rel : List Addr → Hp → α → β → Prop} {μ : List Addr} {H : Hp} {ds : DSt} {r : Res α} {k : α → DH → RS} {E : Ends} {Q : β → Hp → Prop} (p : postS G W μ H (r.st ds k) E)
    (q : ∀ a h μ' b H', Ext G μ H μ' H' → Wd G μ' h H' → rel μ' H' a b → postS G W μ' H' (k a h) E → Q b H') : post G W ds rel μ H r Q := by
  cases r with
  | ok a h => exact fun μ2 b H2 e2 w r => q a h μ2 b H2 e2 w r (postS_mono e2 p)
  | exc x h => exact p
  | no => exact p
/-! targets -/
theorem gm_name {i : Nat} {x : Str} {p : Pos} (hg : PG X (.Name x p) (gName i)) : PG X (.Name x p) (tG G (gNm i)) := ⟨fun pins s σ H v u Q I r ⟨μ, ds, h, d, w, rs, rv, q⟩ => hg.run pins s σ H v u Q I r (q μ (σ.set i (some v)) H Ext.refl w (rs.set i rv))⟩
theorem gms_nil : PGs X [] (tGs G gsNil) := ⟨fun pins s σ H vs us Q I r ⟨μ, ds, h, xs, w, rs, rv, q⟩ => pgs_nil.run pins s σ H vs us Q I r (by
  cases xs with
  | nil => simp only [RVs] at rv; exact ⟨rv, q μ σ H Ext.refl w rs⟩
  | cons x xs => exact q.elim)⟩
theorem gms_cons {e : Expr} {es : List Expr} {g : GM} {r : List D → DSt → DH → Option (DSt × DH)} (h1 : PG X e (tG G g)) (h2 : PGs X es (tGs G r))
    (hs : (assignEach (e :: es) X.env).map (·.2) = assign e X.env :: (assignEach es X.env).map (·.2) := by rfl) : PGs X (e :: es) (tGs G (gsCons g r)) := ⟨fun pins s σ H vs us Q I rr ⟨μ, ds, h, xs, w, rs, rv, q⟩ => (pgs_cons h1 h2 hs).run pins s σ H vs us Q I rr (by
  cases xs with
  | nil => exact q.elim
  | cons x xs =>
    simp only [RVs] at rv
    obtain ⟨v, ws, e1, e2, e3⟩ := rv
    refine ⟨v, ws, e1, μ, ds, h, x, w, rs, e2, ?_⟩
    simp only [gsCons] at q
    cases hg : g x ds h with
    | none => rw [hg] at q; exact q.elim
    | some p =>
      rw [hg] at q
      exact fun μ' σ' H' ex w' rs' => ⟨μ', p.1, p.2, xs, w', rs', RVs.mono ex _ _ e3, by
        have q' : (match r xs p.1 p.2 with | some p => ∀ μ' σ' H', Ext G μ H μ' H' → Wd G μ' p.2 H' → RSt G μ' H' p.1 σ' → Q σ' H' | none => False) := q
        cases hr : r xs p.1 p.2 with
        | none => rw [hr] at q'; exact q'.elim
        | some p2 => rw [hr] at q'; exact fun μ2 σ2 H2 ex2 => q' μ2 σ2 H2 (ex.trans ex2)⟩)⟩
theorem gm_tup {es : List Expr} {k : Nat} {r : List D → DSt → DH → Option (DSt × DH)} {n : Nat} (hK : X.K = G.K) (hr : ∀ xs ds h, (r xs ds h).isSome = true → xs.length = n) (hg : PG X (.Tuple es k pos) (gTup X.K n (tGs G r))) : PG X (.Tuple es k pos) (tG G (gTp r)) := ⟨fun pins s σ H v u Q I rr ⟨μ, ds, h, d, w, rs, rv, q⟩ => hg.run pins s σ H v u Q I rr (by
  cases d with
  | tup xs =>
    simp only [RV] at rv
    obtain ⟨a, vs, e1, e2, e3⟩ := rv
    have q' : (match r xs ds h with | some p => ∀ μ' σ' H', Ext G μ H μ' H' → Wd G μ' p.2 H' → RSt G μ' H' p.1 σ' → Q σ' H' | none => False) := q
    have hl : xs.length = n := by
      cases hx : r xs ds h with
      | none => rw [hx] at q'; exact q'.elim
      | some p => exact hr xs ds h (by rw [hx]; rfl)
    exact ⟨a, vs, e1, by rw [hK]; exact e2, by rw [← e3.length]; exact hl, μ, ds, h, xs, w, rs, e3, q'⟩
  | _ => exact q.elim)⟩
def WF : WX := fun _ _ _ _ => False
theorem post_F {γ δ : Type} {rel : List Addr → Hp → γ → δ → Prop} {μ : List Addr} {H : Hp} {ds : DSt} {r : Res γ} {a : γ} {h : DH} {Q : δ → Hp → Prop} (e : r = .ok a h) (q : ∀ μ' b H', Ext G μ H μ' H' → Wd G μ' h H' → rel μ' H' a b → Q b H') : post G W ds rel μ H r Q := by
  rw [e]; exact q
theorem gm_sub {o i : Expr} {mo mi : EM} {t : TSet} {f : D → D → D → DH → Option DH} (hs : SetS G t f) (hg : PG X (.Subscript o i pos) (gSub (tE G W mo) (tE G W mi) t)) : PG X (.Subscript o i pos) (tG G (gSb f mo mi)) := ⟨fun pins s σ H v u Q I rr ⟨μ, ds, h, d, w, rs, rv, q⟩ => hg.run pins s σ H v u Q I rr (by
  simp only [gSb] at q
  cases h1 : mo ds h with
  | ok x h1' =>
    simp only [h1] at q
    refine ⟨μ, ds, h, w, rs, post_F h1 fun μ1 ov H1 e1 w1 r1 => ?_⟩
    cases h2 : mi ds h1' with
    | ok y h2' =>
      simp only [h2] at q
      refine ⟨μ1, ds, h1', w1, rs.mono e1, post_F h2 fun μ2 iv H2 e2 w2 r2 => ?_⟩
      cases h3 : f x y d h2' with
      | none => rw [h3] at q; exact q.elim
      | some h3' =>
        rw [h3] at q
        exact hs μ2 h2' H2 x y d ov iv v h3' _ w2 (RV.mono e2 _ _ r1) r2 (RV.mono (e1.trans e2) _ _ rv) h3 fun H3 e3 w3 => q μ2 σ H3 ((e1.trans e2).trans e3) w3 (rs.mono ((e1.trans e2).trans e3))
    | exc e h2' => simp only [h2] at q
    | no => simp only [h2] at q
  | exc e h1' => simp only [h1] at q
  | no => simp only [h1] at q)⟩
/-! small statements -/
variable {e : Expr} {m : EM} {st : Stmt} {rest : List Stmt} {a b : SM} {t : TM}
theorem sm_nil : PSs X [] (tS G W sNext) := pss_nil.imp fun E σ H ⟨μ, ds, h, w, rs, p⟩ => p μ σ H Ext.refl w rs
theorem sm_cons (h1 : PS X st (tS G W a)) (h2 : PSs X rest (tS G W b)) : PSs X (st :: rest) (tS G W (sSeq a b)) := (pss_cons h1 h2).imp fun E σ H ⟨μ, ds, h, w, rs, p⟩ => ⟨μ, ds, h, w, rs, by
  simp only [sSeq] at p
  cases q : a ds h with
  | nx ds' h' => rw [q] at p; exact fun μ1 σ1 H1 e1 w1 r1 => ⟨μ1, ds', h', w1, r1, postS_mono e1 p⟩
  | _ => rw [q] at p; exact p⟩
theorem sm_one (h1 : PS X st (tS G W a)) : PSs X [st] (tS G W a) := pss_one h1
theorem sm_pass : PS X (.Pass pos) (tS G W sNext) := ps_pass.imp fun E σ H ⟨μ, ds, h, w, rs, p⟩ => p μ σ H Ext.refl w rs
theorem sm_brk : PS X (.Break pos) (tS G W sBrk) := ps_break.imp fun E σ H ⟨μ, ds, h, w, rs, p⟩ => p μ σ H Ext.refl w rs
theorem sm_cnt : PS X (.Continue pos) (tS G W sCnt) := ps_continue.imp fun E σ H ⟨μ, ds, h, w, rs, p⟩ => p μ σ H Ext.refl w rs
theorem sm_doc {x j p1 p2} : PS X (.Expr (.Constant (.str x) j p1) p2) (tS G W sNext) := ps_doc.imp fun E σ H ⟨μ, ds, h, w, rs, p⟩ => p μ σ H Ext.refl w rs
theorem sm_asg_of {g : GM} (h : PS X st (tAsg (tE G W m) (tG G g))) : PS X st (tS G W (sAsg m g)) := h.imp fun E σ H ⟨μ, ds, h, w, rs, p⟩ => ⟨μ, ds, h, w, rs, post_st p fun x h1 μ1 v H1 e1 w1 r1 p1 => ⟨μ1, ds, h1, x, w1, rs.mono e1, r1, by
  cases q : g x ds h1 with
  | none => rw [q] at p1; exact p1.elim
  | some z => rw [q] at p1; exact p1⟩⟩
theorem sm_set {i : Nat} {x : Str} {pos' : Pos} (he : PE X e (tE G W m)) (h : ∀ {te : TE}, PE X e te → PS X (.Assign [.Name x pos'] e pos) (tAsg te (gName i))) : PS X (.Assign [.Name x pos'] e pos) (tS G W (sAsg m (gNm i))) := (h he).imp fun E σ H ⟨μ, ds, h, w, rs, p⟩ =>
  ⟨μ, ds, h, w, rs, post_st p fun x h1 μ1 v H1 e1 w1 r1 p1 => p1 μ1 (σ.set i (some v)) H1 Ext.refl w1 ((rs.mono e1).set i r1)⟩
theorem sm_asg {tg : Expr} {g : GM} (he : PE X e (tE G W m)) (hg : PG X tg (tG G g)) (hs : swapsWithSole [tg] e pos.line X.env = pure false := by rfl) (hw : swappedStores [tg] e X.env = pure none := by rfl)
    (h1 : (assignEach [tg] X.env).map (·.2) = [assign tg X.env] := by rfl) : PS X (.Assign [tg] e pos) (tS G W (sAsg m g)) := sm_asg_of (ps_asg he hg hs hw h1)
theorem sm_expr (he : PE X e (tE G W m)) (hs : swapsWith e none pos.line X.env = pure false := by rfl) : PS X (.Expr e pos) (tS G W (sDrop m)) := (ps_expr he hs).imp fun E σ H ⟨μ, ds, h, w, rs, p⟩ =>
  ⟨μ, ds, h, w, rs, post_st p fun x h1 μ1 v H1 e1 w1 r1 p1 => p1 μ1 σ H1 Ext.refl w1 (rs.mono e1)⟩
theorem sm_ret (he : PE X e (tE G W m)) : PS X (.Return (some e) pos) (tS G W (sRet m)) := (ps_ret he).imp fun E σ H ⟨μ, ds, h, w, rs, p⟩ =>
  ⟨μ, ds, h, w, rs, post_st p fun x h1 μ1 v H1 e1 w1 r1 p1 => p1 μ1 v H1 Ext.refl w1 r1⟩
theorem sm_retN : PS X (.Return none pos) (tS G W sRetN) := ps_retN.imp fun E σ H ⟨μ, ds, h, w, rs, p⟩ => p μ .non H Ext.refl w (by simp only [RV])
theorem sm_if {c : Expr} {x y : List Stmt} (hc : PT X c (tT G W t)) (ha : PSs X x (tS G W a)) (hb : PSs X y (tS G W b)) : PS X (.If c x y pos) (tS G W (sIf t a b)) := (ps_if hc ha hb).imp fun E σ H ⟨μ, ds, h, w, rs, p⟩ =>
  ⟨μ, ds, h, w, rs, post_st p fun x h1 μ1 v H1 e1 w1 r1 p1 => by
    have e : x = v := r1
    subst e
    cases x with
    | true => exact ⟨μ1, ds, h1, w1, rs.mono e1, p1⟩
    | false => exact ⟨μ1, ds, h1, w1, rs.mono e1, p1⟩⟩
theorem sm_aug {i : Nat} {x : Str} {pos' : Pos} {op : Operator} {r : TIp} {f : D → D → DH → Res D} (hs : OpS G r f) (h : PS X (.AugAssign (.Name x pos') op e pos) (tAug i (tE G W m) r)) : PS X (.AugAssign (.Name x pos') op e pos) (tS G W (sAug i f m)) := h.imp fun E σ H ⟨μ, ds, h, w, rs, p⟩ => by
  simp only [sAug] at p
  cases q : ds.getD i none with
  | none => rw [q] at p; exact p.elim
  | some d =>
    rw [q] at p
    rw [List.getD_eq_getElem?_getD] at q
    have e' : ds[i]? = some (some d) := by
      cases q2 : ds[i]? with
      | none => rw [q2] at q; cases q
      | some o => rw [q2] at q; exact congrArg some q
    obtain ⟨v, h1, h2⟩ := rs.at_ i d e'
    refine ⟨v, h1, μ, ds, h, w, rs, post_st p fun y h1 μ1 u H1 e1 w1 r1 p1 => ?_⟩
    exact hs W ds μ1 h1 H1 d y v u _ w1 (RV.mono e1 _ _ h2) r1 (post_st p1 fun z h2 μ2 zv H2 e2 w2 r2 p2 => p2 μ2 _ H2 Ext.refl w2 ((rs.mono (e1.trans e2)).set i r2))
/-! loops -/
theorem sm_while {c : Expr} {body : List Stmt} {M : Nat} (hp : PassesOwn (model X.prog X.w) X.A X.env X.xe) (hc : PT X c (tT G W t)) (hb : PSs X body (tS G W b)) : PS X (.While c body [] pos) (tS G W (sWhile M t b)) := (ps_while hp hc hb).imp fun E σ H ⟨μ, ds, h, w, rs, p⟩ => by
  unfold sWhile at p
  refine ⟨fun m σ H => ∃ μ ds h, Wd G μ h H ∧ RSt G μ H ds σ ∧ postS G W μ H (whileN t b m ds h) E, ⟨M, μ, ds, h, w, rs, p⟩, ?_⟩
  rintro m σ H ⟨μ, ds, h, w, rs, p⟩
  cases m with
  | zero => exact p.elim
  | succ k =>
    refine ⟨μ, ds, h, w, rs, post_st p fun x h1 μ1 v H1 e1 w1 r1 p1 => ?_⟩
    have e : x = v := r1
    subst e
    cases x with
    | false => exact p1 μ1 σ H1 Ext.refl w1 (rs.mono e1)
    | true =>
      show ∃ N : St → Hp → Prop, _
      refine ⟨fun σ H => ∃ μ ds h, Wd G μ h H ∧ RSt G μ H ds σ ∧ postS G W μ H (whileN t b k ds h) E, fun σ' H' z => ⟨k, Nat.lt_succ_self k, z⟩, μ1, ds, h1, w1, rs.mono e1, ?_⟩
      simp only [if_true] at p1
      cases q : b ds h1 with
      | nx ds' h' => rw [q] at p1; exact fun μ2 σ2 H2 e2 w2 r2 => ⟨μ2, ds', h', w2, r2, postS_mono e2 p1⟩
      | ct ds' h' => rw [q] at p1; exact fun μ2 σ2 H2 e2 w2 r2 => ⟨μ2, ds', h', w2, r2, postS_mono e2 p1⟩
      | bk ds' h' => rw [q] at p1; exact p1
      | rt d h' => rw [q] at p1; exact p1
      | exc x s h' => rw [q] at p1; exact p1
      | no => rw [q] at p1; exact p1.elim
theorem relIt.mono {μ μ' : List Addr} {H H' : Hp} {it : Itd} {J : It} (e : Ext G μ H μ' H') (r : relIt G μ H it J) : relIt G μ' H' it J := by
  cases it with
  | lst n => obtain ⟨a, h1, h2⟩ := r; exact ⟨a, e.pre _ _ h1, h2⟩
  | tup xs => obtain ⟨a, vs, h1, h2, h3⟩ := r; exact ⟨a, vs, e.tup _ _ h1, RVs.mono e _ _ h2, h3⟩
  | rng lo n => exact r
theorem Wd.seq {μ : List Addr} {h : DH} {H : Hp} {n : Nat} {a : Addr} {xs : List D} (w : Wd G μ h H) (e : μ[n]? = some a) (q : h[n]? = some (.lst xs) ∨ h[n]? = some (.fro xs)) : ∃ vs, SqL G.K H a vs ∧ RVs G μ H xs vs := by
  rcases q with q | q
  · obtain ⟨vs, h1, h2⟩ := w.ob n a _ e q
    exact ⟨vs, SqL.of h1, h2⟩
  · obtain ⟨vs, h1, h2⟩ := w.ob n a _ e q
    refine ⟨vs, ?_, h2⟩
    rcases h1 with ⟨u, h1⟩ | h1
    · exact .inl (.inr ⟨u, h1⟩)
    · exact h1 H
theorem RVs.none {μ : List Addr} {H : Hp} {xs : List D} {vs : List V} {i : Nat} (r : RVs G μ H xs vs) (e : xs[i]? = none) : vs.length ≤ i := by
  rw [← r.length]; exact List.getElem?_eq_none_iff.mp e
/-- what a turn of an iterator is: the list's address is known to stand for one list only at each heap -/
def UniqL (X : Cx) : Prop := True
theorem it_stop {μ : List Addr} {h : DH} {H : Hp} {it : Itd} {J : It} {i : Nat} (w : Wd G μ h H) (r : relIt G μ H it J) (e : it.at_ i h = some none) : J.stop i H := by
  cases it with
  | lst n =>
    obtain ⟨a, h1, rfl⟩ := r
    simp only [Itd.at_] at e
    cases q : h[n]? with
    | none => simp only [q] at e; cases e
    | some o =>
      simp only [q] at e
      cases o with
      | lst xs =>
        obtain ⟨vs, s1, s2⟩ := w.seq h1 (.inl q)
        exact ⟨vs, s1, s2.none (Option.some.inj e)⟩
      | fro xs =>
        obtain ⟨vs, s1, s2⟩ := w.seq h1 (.inr q)
        exact ⟨vs, s1, s2.none (Option.some.inj e)⟩
      | dK kvs => cases e
      | ins c fs => cases e
  | tup xs =>
    obtain ⟨a, vs, h1, h2, rfl⟩ := r
    exact ⟨vs, h1, h2.none (Option.some.inj e)⟩
  | rng lo n =>
    have r' : J = Itr lo n := r
    subst r'
    simp only [Itd.at_] at e
    by_cases hi : i < n
    · rw [if_pos hi] at e; cases e
    · exact Nat.le_of_not_lt hi
theorem it_go {μ : List Addr} {h : DH} {H : Hp} {it : Itd} {J : It} {i : Nat} {d : D} (w : Wd G μ h H) (r : relIt G μ H it J) (e : it.at_ i h = some (some d)) : J.go i H ∧ ∀ x H', J.yld i H x H' → H' = H ∧ RV G μ H d x := by
  cases it with
  | lst n =>
    obtain ⟨a, h1, rfl⟩ := r
    simp only [Itd.at_] at e
    cases q : h[n]? with
    | none => simp only [q] at e; cases e
    | some o =>
      simp only [q] at e
      have fin : ∀ xs : List D, xs[i]? = some d → (∃ vs, SqL G.K H a vs ∧ RVs G μ H xs vs) → (Itl G.K a).go i H ∧ ∀ x H', (Itl G.K a).yld i H x H' → H' = H ∧ RV G μ H d x := fun xs hx ⟨vs, s1, s2⟩ => by
        obtain ⟨v, g1, g2⟩ := s2.get hx
        refine ⟨⟨vs, v, s1, g1⟩, fun x H' y => ⟨y.1, ?_⟩⟩
        have z := y.2 vs s1
        rw [g1] at z
        cases z
        exact g2
      cases o with
      | lst xs => exact fin xs (Option.some.inj e) (w.seq h1 (.inl q))
      | fro xs => exact fin xs (Option.some.inj e) (w.seq h1 (.inr q))
      | dK kvs => cases e
      | ins c fs => cases e
  | tup xs =>
    obtain ⟨a, vs, h1, h2, rfl⟩ := r
    obtain ⟨v, g1, g2⟩ := h2.get (Option.some.inj e)
    refine ⟨⟨vs, v, h1, g1⟩, fun x H' y => ⟨y.1, ?_⟩⟩
    have z := y.2 vs h1
    rw [g1] at z
    cases z
    exact g2
  | rng lo n =>
    have r' : J = Itr lo n := r
    subst r'
    simp only [Itd.at_] at e
    by_cases hi : i < n
    · rw [if_pos hi] at e
      cases e
      exact ⟨hi, fun x H' y => ⟨y.1, by simp only [RV]; exact y.2⟩⟩
    · rw [if_neg hi] at e; cases e
theorem snd_for {mi : IM} {g : GM} : ∀ E σ H, tS G W (sFor mi g b) E σ H → tFor (tI G W mi) (tG G g) (tS G W b) E σ H := fun E σ H ⟨μ, ds, h, w, rs, p⟩ => ⟨μ, ds, h, w, rs, post_st (show postS G W μ H ((mi ds h).st ds fun it h1 => forN it g b (it.len h1 + 1) 0 ds h1) E by unfold sFor at p; exact p) fun it h1 μ1 J H1 e1 w1 r1 p1 => by
  refine ⟨fun i m σ H => ∃ μ ds h, Wd G μ h H ∧ RSt G μ H ds σ ∧ relIt G μ H it J ∧ postS G W μ H (forN it g b m i ds h) E, ⟨_, μ1, ds, h1, w1, rs.mono e1, r1, p1⟩, ?_⟩
  rintro i m σ H ⟨μ, ds, h, w, rs, ri, p⟩
  cases m with
  | zero => exact p.elim
  | succ k =>
    simp only [forN] at p
    cases q : it.at_ i h with
    | none => rw [q] at p; exact p.elim
    | some o =>
      cases o with
      | none =>
        rw [q] at p
        exact .inl ⟨it_stop w ri q, p μ σ H Ext.refl w rs⟩
      | some d =>
        rw [q] at p
        obtain ⟨g1, g2⟩ := it_go w ri q
        refine .inr ⟨g1, fun σ H => ∃ μ ds h, Wd G μ h H ∧ RSt G μ H ds σ ∧ relIt G μ H it J ∧ postS G W μ H (forN it g b k (i + 1) ds h) E, fun σ' H' z => ⟨k, Nat.lt_succ_self k, z⟩, fun x H' y => ?_⟩
        obtain ⟨rfl, rx⟩ := g2 x H' y
        refine ⟨μ, ds, h, d, w, rs, rx, ?_⟩
        cases q2 : g d ds h with
        | none => simp only [q2] at p; exact p.elim
        | some z =>
          simp only [q2] at p
          intro μ2 σ2 H2 e2 w2 r2
          refine ⟨μ2, z.1, z.2, w2, r2, ?_⟩
          have p := postS_mono e2 p
          cases q3 : b z.1 z.2 with
          | nx ds' h' => rw [q3] at p; exact fun μ3 σ3 H3 e3 w3 r3 => ⟨μ3, ds', h', w3, r3, (ri.mono e2).mono e3, postS_mono e3 p⟩
          | ct ds' h' => rw [q3] at p; exact fun μ3 σ3 H3 e3 w3 r3 => ⟨μ3, ds', h', w3, r3, (ri.mono e2).mono e3, postS_mono e3 p⟩
          | bk ds' h' => rw [q3] at p; exact p
          | rt d h' => rw [q3] at p; exact p
          | exc x s h' => rw [q3] at p; exact p
          | no => rw [q3] at p; exact p.elim⟩
theorem sm_for {mi : IM} {g : GM} (h : PS X st (tFor (tI G W mi) (tG G g) (tS G W b))) : PS X st (tS G W (sFor mi g b)) := h.imp snd_for
end
end Mi
/-! what a for walks, comprehensions, defs -/
namespace L2
open PySem PySem.Spec PyProof.Rows
section
variable {X : Cx} {tg : Expr}
/-- a list or a tuple -/
def iSq (K : PySem.W.Frag) (tl : TE) : TI := fun σ H R => tl σ H fun x H1 => ∃ a, x = .ref a ∧ (((∃ xs, SqL K H1 a xs) ∧ R (Itl K a) H1) ∨ ((∃ xs, SqT K H1 a xs) ∧ R (Itt K a) H1))
theorem pi_sq {l : Expr} {tl : TE} (hl : PE X l tl) : PI X tg l (iSq X.K tl) := by
  refine ⟨fun pins s σ H R I h => ?_⟩
  refine thn (hl.run pins s σ H _ I h) fun v s1 ⟨x, H1, I1, r1, q1⟩ => ?_
  obtain ⟨a, e, q⟩ := q1
  subst e
  cases r1
  rcases q with ⟨⟨xs, hq⟩, q⟩ | ⟨⟨xs, hq⟩, q⟩
  · obtain ⟨its, rv, p, hz⟩ := I1.list hq
    refine wpAny_pyIter_list p.isList ?_
    refine ⟨s1.heap.objs.size, [s1.heap.objs.size], _, _, H1, rfl, I1.kept (t' := s1.toks) fun b o e => Heap.get?_push_of_some _ e, turn_list a _, ⟨_, Heap.get?_push_size _ rfl, rfl, rfl⟩, fun b hb => ?_, q⟩
    have e : b = s1.heap.objs.size := by simpa using hb
    subst e
    exact I1.fpOk (Nat.le_refl _) (I1.hok.fresh (Nat.le_refl _))
  · obtain ⟨its, rv, p, hz⟩ := I1.tuple hq
    refine wpAny_pyIter_tuple (show s1.heap.IsTuple a its.toArray from p) ?_
    refine ⟨s1.heap.objs.size, [s1.heap.objs.size], _, _, H1, rfl, I1.kept (t' := s1.toks) fun b o e => Heap.get?_push_of_some _ e, turn_tuple a _, ⟨_, Heap.get?_push_size _ rfl, rfl, rfl⟩, fun b hb => ?_, q⟩
    have e : b = s1.heap.objs.size := by simpa using hb
    subst e
    exact I1.fpOk (Nat.le_refl _) (I1.hok.fresh (Nat.le_refl _))
end
end L2
namespace Mi
open PySem L2
section
variable {G : Cw} {X : Cx} {W : WX} {pos : Pos}
theorem PI.imp {X : Cx} {tg it : Expr} {t t' : TI} (p : PI X tg it t) (h : ∀ σ H R, t' σ H R → t σ H R) : PI X tg it t' := ⟨fun pins s σ H R I hq => p.run pins s σ H R I (h σ H R hq)⟩
theorem im_seq {tg e : Expr} {m : EM} (hK : X.K = G.K) (he : PE X e (tE G W m)) : PI X tg e (tI G W (iSeq m)) := PI.imp (pi_sq he) fun σ H R ⟨μ, ds, h, w, rs, p⟩ => ⟨μ, ds, h, w, rs, post_bind p fun x h1 μ1 v H1 e1 w1 r1 p1 => by
  cases x with
  | ref n =>
    simp only [RV] at r1
    obtain ⟨a, rfl, ha⟩ := r1
    have fin : ∀ xs, h1[n]? = some (.lst xs) ∨ h1[n]? = some (.fro xs) → post G W ds (relIt G) μ1 H1 (.ok (.lst n) h1) R → ∃ b, V.ref a = V.ref b ∧ (((∃ xs, SqL X.K H1 b xs) ∧ R (Itl X.K b) H1) ∨ ((∃ xs, SqT X.K H1 b xs) ∧ R (Itt X.K b) H1)) := fun xs hx p2 => by
      obtain ⟨vs, s1, _⟩ := w1.seq ha hx
      rw [hK]
      exact ⟨a, rfl, .inl ⟨⟨vs, s1⟩, post_ok p2 w1 ⟨a, ha, rfl⟩⟩⟩
    cases q : h1[n]? with
    | none => simp only [q] at p1; exact p1.elim
    | some o =>
      simp only [q] at p1
      cases o with
      | lst xs => exact fin xs (.inl q) p1
      | fro xs => exact fin xs (.inr q) p1
      | dK kvs => exact p1.elim
      | ins c fs => exact p1.elim
  | tup xs =>
    simp only [RV] at r1
    obtain ⟨a, vs, rfl, ha, hb⟩ := r1
    rw [hK]
    exact ⟨a, rfl, .inr ⟨⟨vs, ha⟩, post_ok p1 w1 ⟨a, vs, ha, hb, rfl⟩⟩⟩
  | _ => exact p1.elim⟩
theorem im_r1 {tg a : Expr} {m : EM} {p p1 : Pos} (h : PI X tg (.Call (.Name "range" p) [a] [] p1) (iRng1 (tA G W (aCons m aNil)))) : PI X tg (.Call (.Name "range" p) [a] [] p1) (tI G W (iR1 m)) := PI.imp h fun σ H R ⟨μ, ds, h, w, rs, p⟩ => ⟨μ, ds, h, w, rs, by
  refine post_bind (r := aCons m aNil ds h) (f := fun xs h1 => match xs with | [.int j] => if -(2 ^ 62) ≤ j ∧ j < 2 ^ 62 then .ok (.rng 0 j.toNat) h1 else .no | _ => .no) (rel2 := relIt G) (Q2 := R) ?_ fun xs h1 μ1 vs H1 e1 w1 r1 p1 => ?_
  · unfold iR1 at p
    unfold aCons aNil
    cases q : m ds h with
    | ok d h1 =>
      rw [q] at p
      cases d <;> exact p
    | exc e h1 => rw [q] at p; exact p
    | no => rw [q] at p; exact p
  · match xs, p1 with
    | [.int j], p1 =>
      simp only [RVs, RV] at r1
      obtain ⟨v, ws, rfl, rfl, rfl⟩ := r1
      by_cases hj : -(2 ^ 62) ≤ j ∧ j < 2 ^ 62
      · have p2 : post G W ds (relIt G) μ1 H1 (.ok (.rng 0 j.toNat) h1) R := by
          have p3 : post G W ds (relIt G) μ1 H1 (if -(2 ^ 62) ≤ j ∧ j < 2 ^ 62 then .ok (.rng 0 j.toNat) h1 else .no) R := p1
          rw [if_pos hj] at p3; exact p3
        exact ⟨j, rfl, hj.1, hj.2, post_ok p2 w1 rfl⟩
      · have p3 : post G W ds (relIt G) μ1 H1 (if -(2 ^ 62) ≤ j ∧ j < 2 ^ 62 then .ok (.rng 0 j.toNat) h1 else .no) R := p1
        rw [if_neg hj] at p3; exact p3.elim⟩
theorem im_r2 {tg a b : Expr} {m n : EM} {p p1 : Pos} (h : PI X tg (.Call (.Name "range" p) [a, b] [] p1) (iRng2 (tA G W (aCons m (aCons n aNil))))) : PI X tg (.Call (.Name "range" p) [a, b] [] p1) (tI G W (iR2 m n)) := PI.imp h fun σ H R ⟨μ, ds, h, w, rs, p⟩ => ⟨μ, ds, h, w, rs, by
  refine post_bind (r := aCons m (aCons n aNil) ds h) (f := fun xs h2 => match xs with | [.int i, .int j] => if -(2 ^ 62) ≤ i ∧ i < 2 ^ 62 ∧ -(2 ^ 62) ≤ j ∧ j < 2 ^ 62 then .ok (.rng i (j - i).toNat) h2 else .no | _ => .no) (rel2 := relIt G) (Q2 := R) ?_ fun xs h1 μ1 vs H1 e1 w1 r1 p1 => ?_
  · unfold iR2 at p
    unfold aCons aNil
    cases q : m ds h with
    | ok d h1 =>
      rw [q] at p
      simp only [Res.bind] at p ⊢
      cases q2 : n ds h1 with
      | ok u h2 =>
        rw [q2] at p
        cases d <;> cases u <;> exact p
      | exc e h1 => rw [q2] at p; exact p
      | no => rw [q2] at p; exact p
    | exc e h1 => rw [q] at p; exact p
    | no => rw [q] at p; exact p
  · match xs, p1 with
    | [.int i, .int j], p1 =>
      simp only [RVs, RV] at r1
      obtain ⟨v, ws, rfl, rfl, v2, ws2, rfl, rfl, rfl⟩ := r1
      have p3 : post G W ds (relIt G) μ1 H1 (if -(2 ^ 62) ≤ i ∧ i < 2 ^ 62 ∧ -(2 ^ 62) ≤ j ∧ j < 2 ^ 62 then .ok (.rng i (j - i).toNat) h1 else .no) R := p1
      by_cases hj : -(2 ^ 62) ≤ i ∧ i < 2 ^ 62 ∧ -(2 ^ 62) ≤ j ∧ j < 2 ^ 62
      · rw [if_pos hj] at p3
        exact ⟨i, j, rfl, hj, post_ok p3 w1 rfl⟩
      · rw [if_neg hj] at p3; exact p3.elim⟩
/-! comprehensions -/
theorem wipe_in (σ : St) {i : Nat} : ∀ {vs : List Nat}, i ∈ vs → (L2.wipe σ vs)[i]? = if i < σ.length then some none else none
  | v :: vs, h => by
    unfold L2.wipe
    by_cases hv : v = i
    · subst hv
      by_cases hl : v < σ.length
      · rw [List.getElem?_set_self (by rw [L2.wipe_length]; exact hl), if_pos hl]
      · rw [if_neg hl, List.getElem?_eq_none (by rw [List.length_set, L2.wipe_length]; omega)]
    · rw [List.getElem?_set_ne hv]
      rcases List.mem_cons.mp h with h | h
      · exact absurd h.symm hv
      · exact wipe_in σ h
theorem wipe_get (σ : St) (i : Nat) (vs : List Nat) : (L2.wipe σ vs)[i]? = if i ∈ vs then (if i < σ.length then some none else none) else σ[i]? := by
  by_cases h : i ∈ vs
  · rw [if_pos h, wipe_in σ h]
  · rw [if_neg h, L2.wipe_out h]
theorem wipe_back (σ : St) {j : Nat} (x : V) {vs : List Nat} (h : j ∈ vs) : L2.wipe ((L2.wipe σ vs).set j (some x)) vs = L2.wipe σ vs := by
  apply List.ext_getElem?
  intro i
  rw [wipe_get, wipe_get]
  by_cases hi : i ∈ vs
  · rw [if_pos hi, if_pos hi, List.length_set, L2.wipe_length]
  · rw [if_neg hi, if_neg hi, List.getElem?_set_ne (fun e : j = i => hi (by rw [← e]; exact h)), L2.wipe_out hi]
theorem wipe_st {μ : List Addr} {H : Hp} {ds : DSt} {σ : St} (r : RSt G μ H ds σ) : ∀ vs : List Nat, RSt G μ H (wipeD ds vs) (L2.wipe σ vs)
  | [] => r
  | v :: vs => (wipe_st r vs).unset v none
theorem ext_write {μ : List Addr} {H : Hp} {a : Addr} {u o : HO} (h : H a = some u) (m : Mut (some u)) : Ext G μ H μ (upd H a o) := ⟨fun _ _ e => e, fun b xs s => by
  have nb : ∀ z, H b = some z → ¬ Mut (some z) → b ≠ a := fun z hz nm e => by subst e; rw [h] at hz; cases hz; exact nm m
  rcases s with (s | ⟨z, s⟩) | s
  · exact .inl (.inl (by rw [upd_ne (nb _ s fun q => q)]; exact s))
  · exact .inl (.inr ⟨z, by rw [upd_ne (nb _ s fun q => q)]; exact s⟩)
  · exact .inr s⟩
/-- a list written -/
theorem Wd.setL {μ : List Addr} {h : DH} {H : Hp} {n : Nat} {a : Addr} {xs ys : List D} {vs : List V} (w : Wd G μ h H) (e1 : μ[n]? = some a) (e2 : h[n]? = some (.lst xs)) (r : RVs G μ H ys vs) :
    Ext G μ H μ (upd H a (.lst vs)) ∧ Wd G μ (h.set n (.lst ys)) (upd H a (.lst vs)) := by
  obtain ⟨us, h1, _⟩ := w.ob n a _ e1 e2
  have ex : Ext G μ H μ (upd H a (.lst vs)) := ext_write h1 trivial
  exact ⟨ex, w.write e1 e2 rfl rfl ex ⟨vs, upd_same, RVs.mono ex _ _ r⟩⟩
theorem snd_lc {mi : IM} {j : Nat} {mt : TM} {me : EM} {vs : List Nat} (hj : j ∈ vs) : ∀ σ H Q, tE G W (mLc mi j mt me vs) σ H Q → tLc (tI G W mi) (gName j) (tT G WF mt) (tE G WF me) vs σ H Q := fun σ H Q ⟨μ, ds, h, w, rs, p⟩ => ⟨μ, ds, h, w, rs, post_bind (show post G W ds (RV G) μ H ((mi ds h).bind fun it h1 => lcN it j mt me h1.length (wipeD ds vs) (it.len h1 + 1) 0 (h1 ++ [.lst []])) Q by unfold mLc at p; exact p) fun it h1 μ1 J H1 e1 w1 r1 p1 => fun D hD => by
  have exD : Ext G μ1 H1 (μ1 ++ [D]) (upd H1 D (.lst [])) := (ext_new hD).trans (ext_app [D])
  refine ⟨fun i m H => ∃ μ h, Wd G μ h H ∧ RSt G μ H (wipeD ds vs) (L2.wipe σ vs) ∧ RSt G μ H ds σ ∧ relIt G μ H it J ∧ μ[h1.length]? = some D ∧ post G W ds (RV G) μ H (lcN it j mt me h1.length (wipeD ds vs) m i h) Q, ⟨_, μ1 ++ [D], h1 ++ [.lst []], w1.alloc hD rfl (show RObj G _ _ D (.lst []) from ⟨[], upd_same, RVs.nil⟩), wipe_st (rs.mono (e1.trans exD)) vs, rs.mono (e1.trans exD), r1.mono exD, by rw [← w1.len]; exact get_last μ1 D, post_mono exD p1⟩, ?_⟩
  rintro i m H ⟨μ, h, w, rsw, rs', ri, hn, p⟩
  cases m with
  | zero => exact p.elim
  | succ k =>
    simp only [lcN] at p
    cases q : it.at_ i h with
    | none => simp only [q] at p; exact p.elim
    | some o =>
      cases o with
      | none =>
        simp only [q] at p
        exact .inl ⟨it_stop w ri q, post_ok p w (by simp only [RV]; exact ⟨D, rfl, hn⟩)⟩
      | some d =>
        simp only [q] at p
        obtain ⟨g1, g2⟩ := it_go w ri q
        refine .inr ⟨g1, fun H => ∃ μ h, Wd G μ h H ∧ RSt G μ H (wipeD ds vs) (L2.wipe σ vs) ∧ RSt G μ H ds σ ∧ relIt G μ H it J ∧ μ[h1.length]? = some D ∧ post G W ds (RV G) μ H (lcN it j mt me h1.length (wipeD ds vs) k (i + 1) h) Q, fun H' z => ⟨k, Nat.lt_succ_self k, z⟩, fun x H' y => ?_⟩
        obtain ⟨rfl, rx⟩ := g2 x H' y
        refine ⟨wipe_back σ x hj, μ, (wipeD ds vs).set j (some d), h, w, rsw.set j rx, ?_⟩
        cases q2 : mt ((wipeD ds vs).set j (some d)) h with
        | ok b h2 =>
          intro μ2 b' H2 e2 w2 rb
          have eb : b = b' := rb
          subst eb
          cases b with
          | false =>
            simp only [q2] at p
            exact ⟨μ2, h2, w2, rsw.mono e2, rs'.mono e2, ri.mono e2, e2.pre _ _ hn, post_mono e2 p⟩
          | true =>
            simp only [q2] at p
            refine ⟨μ2, (wipeD ds vs).set j (some d), h2, w2, (rsw.set j rx).mono e2, ?_⟩
            cases q3 : me ((wipeD ds vs).set j (some d)) h2 with
            | ok z h3 =>
              simp only [q3] at p
              intro μ3 zv H3 e3 w3 rz
              have ex := e2.trans e3
              cases q4 : h3[h1.length]? with
              | none => simp only [q4] at p; exact p.elim
              | some ob =>
                cases ob with
                | lst acc =>
                  simp only [q4] at p
                  by_cases ha : acc.length < 16777216
                  · rw [if_pos ha] at p
                    have hn3 := ex.pre _ _ hn
                    obtain ⟨av, hav, rav⟩ := w3.ob _ _ _ hn3 q4
                    obtain ⟨ex4, w4⟩ := w3.setL hn3 q4 (RVs.append rav (RVs.cons rz RVs.nil))
                    exact ⟨av, hav, by rw [← rav.length, sizeLine_eq]; exact ha, μ3, _, w4, rsw.mono (ex.trans ex4), rs'.mono (ex.trans ex4), ri.mono (ex.trans ex4), hn3, post_mono (ex.trans ex4) p⟩
                  · rw [if_neg ha] at p; exact p.elim
                | fro acc => simp only [q4] at p; exact p.elim
                | dK kvs => simp only [q4] at p; exact p.elim
                | ins c fs => simp only [q4] at p; exact p.elim
            | exc e h3 => simp only [q3] at p; exact p.elim
            | no => simp only [q3] at p; exact p.elim
        | exc e h2 => simp only [q2] at p; exact p.elim
        | no => simp only [q2] at p; exact p.elim⟩
theorem pm_lc {e : Expr} {mi : IM} {j : Nat} {mt : TM} {me : EM} {vs : List Nat} (hj : j ∈ vs) (h : PE X e (tLc (tI G W mi) (gName j) (tT G WF mt) (tE G WF me) vs)) : PE X e (tE G W (mLc mi j mt me vs)) := h.imp (snd_lc hj)
theorem sm_setLc {st : Stmt} {i : Nat} {mi : IM} {j : Nat} {mt : TM} {me : EM} {vs : List Nat} (hj : j ∈ vs) (h : PS X st (tAsg (tLc (tI G W mi) (gName j) (tT G WF mt) (tE G WF me) vs) (gName i))) : PS X st (tS G W (sAsg (mLc mi j mt me vs) (gNm i))) := h.imp fun E σ H ⟨μ, ds, h, w, rs, p⟩ =>
  snd_lc hj σ H _ ⟨μ, ds, h, w, rs, post_st p fun x h1 μ1 v H1 e1 w1 r1 p1 => p1 μ1 (σ.set i (some v)) H1 Ext.refl w1 ((rs.mono e1).set i r1)⟩
theorem tms_nil : PTs X [] (tT G W mYes) := pts_nil.imp fun σ H Q ⟨μ, ds, h, w, rs, p⟩ => post_ok (b := true) p w rfl
theorem tms_one {c : Expr} {t : TM} (h : PT X c (tT G W t)) : PTs X [c] (tT G W t) := pts_one h
/-! defs -/
theorem start_st {μ : List Addr} {H : Hp} {N : List Str} {xs : List D} {vs : List V} (r : RVs G μ H xs vs) : RSt G μ H (xs.map some ++ List.replicate (N.length - xs.length) none) (L2.start N vs) := by
  have hl := r.length
  refine ⟨by unfold L2.start; simp [hl], fun i d e => ?_⟩
  by_cases hi : i < xs.length
  · rw [List.getElem?_append_left (by simpa using hi)] at e
    rw [List.getElem?_map] at e
    cases q : xs[i]? with
    | none => rw [q] at e; cases e
    | some y =>
      rw [q] at e
      cases e
      obtain ⟨v, h1, h2⟩ := r.get q
      refine ⟨v, ?_, h2⟩
      unfold L2.start
      rw [List.getElem?_append_left (by simpa [← hl] using hi), List.getElem?_map, h1]
      rfl
  · rw [List.getElem?_append_right (by simpa using hi)] at e
    rw [List.getElem?_replicate] at e
    split at e <;> cases e
/-- THE RULE for a def -/
theorem fn_ok {P : Program} {w : World} {K : PySem.W.Frag} {mg : Str → Option Value} {base : Heap} {x qual : Str} {st : Stmt} {f : Addr} {fd : FuncData} {N ps : List Str} {k : Nat} {m : SM} (F : Fun K x qual st f fd) (S : FnScope N ps (defScope st))
    (hb : ∀ (cdv : Value) (A : Around) (outer : List Env) (s : Shared) (H : Hp) (E : XK), Room k (A.deeper (PyProof.Rows.envOfC qual (defScope st) s.heap.objs.size f cdv)) →
      PSs (cxOf (L2.CX P w) P w K mg base N qual (defScope st) f cdv A outer s H E) (defBody st) (tS G (fun c d _ H => E c d H) m)) :
    FnOk P w K mg base (L2.CX P w) (k + 1) f fd ps (spF G ps.length (runB N.length m)) := by
  refine F.okX S (fun vs H Q E h => h.1) (fun cdv A outer s H vs Q E hr h => ⟨_, hb cdv A outer s H E hr, ?_⟩)
  obtain ⟨hl, μ, xs, h, w, r, p⟩ := h
  refine ⟨μ, _, h, w, start_st r, ?_⟩
  unfold runB at p
  cases q : m (xs.map some ++ List.replicate (N.length - xs.length) none) h with
  | nx ds h' => rw [q] at p; exact fun μ' σ' H' e' w' r' => p μ' .non H' e' w' (by simp only [RV])
  | rt d h' => rw [q] at p; exact p
  | exc e ds h' => rw [q] at p; exact fun μ' σ' cls d H' e' w' r' rx => p μ' [] cls d H' e' w' ⟨rfl, fun i d z => by simp at z⟩ rx
  | bk ds h' => rw [q] at p; exact p.elim
  | ct ds h' => rw [q] at p; exact p.elim
  | no => rw [q] at p; exact p.elim
/-- below all calls -/
theorem fn_zero {P : Program} {w : World} {K : PySem.W.Frag} {mg : Str → Option Value} {base : Heap} {CXx : CXT} {f : Addr} {fd : FuncData} {ps : List Str} {n : Nat} {F : List D → DH → Res D} (hF : ∀ xs h, F xs h = .no) : FnOk P w K mg base CXx 0 f fd ps (spF G n F) := by
  have no : ∀ vs H Q E, ¬ spF G n F vs H Q E := fun vs H Q E ⟨_, μ, xs, h, _, _, p⟩ => by rw [hF] at p; exact p
  exact ⟨fun vs H Q E h => (no _ _ _ _ h).elim, fun A outer s H args us vs Q E _ _ _ _ h => (no _ _ _ _ h).elim⟩
theorem snd_call {F : List D → DH → Res D} {n : Nat} {m : AM} (hn : ∀ xs h, F xs h ≠ .no → xs.length = n) : ∀ σ H Q, tE G W (mCB F m) σ H Q → tCallS (spF G n F) (WE W) (tA G W m) σ H Q := fun σ H Q ⟨μ, ds, h, w, rs, p⟩ =>
  ⟨μ, ds, h, w, rs, post_bind p fun xs h1 μ1 vs H1 e1 w1 r1 p1 => by
    refine ⟨by rw [← r1.length]; exact hn xs h1 (fun e => by rw [e] at p1; exact p1), μ1, xs, h1, w1, r1, ?_⟩
    cases q : F xs h1 with
    | ok d h2 => rw [q] at p1; exact p1
    | exc x h2 => rw [q] at p1; exact fun μ' σ' cls d H' e' w' r' rx => p1 μ' σ cls d H' e' w' (rs.mono (e1.trans e')) rx
    | no => rw [q] at p1; exact p1⟩
theorem pm_call {e : Expr} {F : List D → DH → Res D} {n : Nat} {m : AM} (hn : ∀ xs h, F xs h ≠ .no → xs.length = n) (h : PE X e (tCallS (spF G n F) (WE W) (tA G W m))) : PE X e (tE G W (mCB F m)) := h.imp (snd_call hn)
end
end Mi
/-! operations on values -/
namespace L2
open PySem PySem.Spec PyProof.Rows
def strRep (z : Str) (n : Nat) : Str := ⟨((List.replicate n z.cps.toList).flatten).toArray⟩
theorem foldl_cat (x : Array Nat) : ∀ (n : Nat) (acc : Array Nat), (List.replicate n x).foldl (· ++ ·) acc = acc ++ ((List.replicate n x.toList).flatten).toArray
  | 0, acc => by simp
  | n + 1, acc => by
    rw [List.replicate_succ, List.foldl_cons, foldl_cat x n, List.replicate_succ, List.flatten_cons]
    apply Array.toList_inj.mp
    simp
theorem op_rep_str {X : Cx} : OpR X (binaryOp .Mult) (fun x y H Q => ∃ z k, x = .str z ∧ y = .int k ∧ 0 ≤ k ∧ k ≤ 1000 ∧ z.length ≤ 10000 ∧ Q (.str (strRep z k.toNat)) H) := by
  intro pins s σ H x y v u Q I rx ry h
  obtain ⟨z, k, rfl, rfl, h0, h1, h2, q⟩ := h
  obtain ⟨t, rfl⟩ := rx
  obtain ⟨t', rfl⟩ := ry
  have hz : z.length * k.toNat ≤ 10000 * 1000 := Nat.mul_le_mul h2 (by omega)
  refine PySem.P.mul_str ?_ (fun _ _ => ?_) (fun _ _ => ?_) ?_
  · rw [decide_eq_false (by omega), decide_eq_false (by omega)]; rfl
  · have e : (9223372036854775807 : Int) / 1000 ≤ (2 ^ 63 - 1) / k := by
      by_cases hk : k = 0
      · subst hk; omega
      · refine (Int.le_ediv_iff_mul_le (by omega)).mpr ?_
        have : (9223372036854775807 : Int) / 1000 * k ≤ (9223372036854775807 : Int) / 1000 * 1000 := Int.mul_le_mul_of_nonneg_left h1 (by decide)
        omega
    omega
  · unfold Builtin.Str.tooLong
    rw [sizeLine_eq]
    exact decide_eq_false (by omega)
  · have fin : ∀ (t : Tok) (tk : Nat), EP X pins σ Q (.str (strRep z k.toNat) t) { s with toks := tk } := fun t tk => ⟨.str _, H, I.tok tk, ⟨t, rfl⟩, q⟩
    by_cases hk : k < 1
    · rw [if_pos hk]
      have e : k.toNat = 0 := by omega
      have e2 : strRep z k.toNat = Str.empty := by rw [e]; rfl
      rw [e2] at fin
      exact ⟨by decide, fin _ _⟩
    · rw [if_neg hk]
      by_cases hc : (k == 1 || z.length == 0) = true
      · rw [if_pos hc]
        have e2 : strRep z k.toNat = z := by
          unfold strRep
          rcases (Bool.or_eq_true _ _).mp hc with e | e
          · have : k = 1 := beq_iff_eq.mp e
            subst this
            simp
          · have e' : z.cps.size = 0 := beq_iff_eq.mp e
            have e3 : z.cps = #[] := Array.eq_empty_of_size_eq_zero e'
            obtain ⟨c⟩ := z
            simp only at e3
            subst e3
            simp
        rw [e2] at fin
        exact fin _ _
      · rw [if_neg hc]
        have e2 : (⟨(List.replicate k.toNat z.cps).foldl (· ++ ·) #[]⟩ : Str) = strRep z k.toNat := by
          unfold strRep
          rw [foldl_cat]; simp
        rw [e2]
        refine ⟨?_, fin _ _⟩
        show (strRep z k.toNat).cps.size ≤ sizeLine
        rw [sizeLine_eq]
        have : (strRep z k.toNat).cps.size = z.length * k.toNat := by
          unfold strRep Str.length
          simp [List.length_flatten, List.sum_replicate_nat, Nat.mul_comm]
        rw [this]; omega
end L2
namespace Mi
open PySem L2
/-! ### 9. operations on data -/
def addD (x y : D) (h : DH) : Res D :=
  match x, y with
  | .int i, .int j => .ok (.int (i + j)) h
  | .str a, .str b => if a.length + b.length ≤ 16777216 then .ok (.str (a ++ b)) h else .no
  | .ref m, .ref n => (match h[m]?, h[n]? with
    | some (.lst xs), some (.lst ys) => if xs.length + ys.length ≤ 16777216 then .ok (.ref h.length) (h ++ [.lst (xs ++ ys)]) else .no
    | _, _ => .no)
  | .tup xs, .tup ys => if xs.length ≠ 0 ∧ xs.length + ys.length ≤ 16777216 then .ok (.tup (xs ++ ys)) h else .no
  | _, _ => .no
def subD (x y : D) (h : DH) : Res D := match x, y with | .int i, .int j => .ok (.int (i - j)) h | _, _ => .no
def mulC (i j : Int) : Prop := (-(2 ^ 64) < i ∧ i < 2 ^ 64) ∨ (-(2 ^ 64) < j ∧ j < 2 ^ 64)
instance (i j : Int) : Decidable (mulC i j) := by unfold mulC; infer_instance
def mulD (x y : D) (h : DH) : Res D :=
  match x, y with
  | .int i, .int j => if mulC i j then .ok (.int (i * j)) h else .no
  | .str a, .int k => if 0 ≤ k ∧ k ≤ 1000 ∧ a.length ≤ 10000 then .ok (.str (strRep a k.toNat)) h else .no
  | .ref m, .int k => (match h[m]? with
    | some (.lst xs) => if 0 ≤ k ∧ k ≤ 100000 ∧ xs.length * k.toNat ≤ 16777216 then .ok (.ref h.length) (h ++ [.lst (List.replicate k.toNat xs).flatten]) else .no
    | _ => .no)
  | _, _ => .no
def fdivD (x y : D) (h : DH) : Res D := match x, y with | .int i, .int j => if 0 < j ∧ j < 1073741824 then .ok (.int (i / j)) h else .no | _, _ => .no
def modD (x y : D) (h : DH) : Res D := match x, y with | .int i, .int j => if 0 < j then .ok (.int (i % j)) h else .no | _, _ => .no
def powD (x y : D) (h : DH) : Res D := match x, y with | .int i, .int j => if 0 ≤ j ∧ j ≤ 1000000 ∧ i.natAbs < 2 ^ 64 then .ok (.int (i ^ j.toNat)) h else .no | _, _ => .no
def negD (x : D) (h : DH) : Res D := match x with | .int i => .ok (.int (-i)) h | _ => .no
/-- == of plain values -/
def eqS (x y : D) : Option Bool :=
  match x, y with
  | .int i, .int j => some (decide (i = j))
  | .str a, .str b => some (decide (a = b))
  | .bl a, .bl b => some (decide (a = b))
  | .non, .non => some true
  | .non, .int _ => some false
  | .int _, .non => some false
  | .non, .str _ => some false
  | .str _, .non => some false
  | .non, .bl _ => some false
  | .bl _, .non => some false
  | .int _, .str _ => some false
  | .str _, .int _ => some false
  | .bl _, .str _ => some false
  | .str _, .bl _ => some false
  | _, _ => none
def eqD (x y : D) (h : DH) : Res D := match eqS x y with | some b => .ok (.bl b) h | none => .no
def neD (x y : D) (h : DH) : Res D := match eqS x y with | some b => .ok (.bl (!b)) h | none => .no
def ltD (x y : D) (h : DH) : Res D := match x, y with | .int i, .int j => .ok (.bl (decide (i < j))) h | _, _ => .no
def leD (x y : D) (h : DH) : Res D := match x, y with | .int i, .int j => .ok (.bl (decide (i ≤ j))) h | _, _ => .no
def gtD (x y : D) (h : DH) : Res D := match x, y with | .int i, .int j => .ok (.bl (decide (j < i))) h | _, _ => .no
def geD (x y : D) (h : DH) : Res D := match x, y with | .int i, .int j => .ok (.bl (decide (j ≤ i))) h | _, _ => .no
def isND (x y : D) (h : DH) : Res D := match y with | .non => (match x with | .non => .ok (.bl true) h | _ => .ok (.bl false) h) | _ => .no
def ntND (x y : D) (h : DH) : Res D := match y with | .non => (match x with | .non => .ok (.bl false) h | _ => .ok (.bl true) h) | _ => .no
def flatD : D → Bool
  | .non => true
  | .bl _ => true
  | .int _ => true
  | .str _ => true
  | _ => false
def eqF : D → D → Bool
  | .non, .non => true
  | .bl a, .bl b => a == b
  | .bl a, .int b => (if a then 1 else 0) == b
  | .int a, .bl b => a == (if b then 1 else 0)
  | .int a, .int b => a == b
  | .str a, .str b => a == b
  | _, _ => false
/-- the items of a list or a tuple -/
def itemsD (y : D) (h : DH) : Option (List D) :=
  match y with
  | .tup xs => some xs
  | .ref n => (match h[n]? with
    | some (.lst xs) => some xs
    | some (.fro xs) => some xs
    | _ => none)
  | _ => none
def inD (neg : Bool) (x y : D) (h : DH) : Res D :=
  match y with
  | .str b => (match x with
    | .str a => .ok (.bl (if neg then !(!(Builtin.Str.occurrences b a 0 b.length 1).isEmpty) else !(Builtin.Str.occurrences b a 0 b.length 1).isEmpty)) h
    | _ => .no)
  | _ => (match itemsD y h with
    | some xs => if flatD x && xs.all flatD then .ok (.bl (if neg then !(xs.any fun z => eqF z x) else xs.any fun z => eqF z x)) h else .no
    | none => .no)
def ixD (x y : D) (h : DH) : Res D :=
  match y with
  | .int i => (match x with
    | .str z => if z.length ≤ 16777216 then (match atI z.cps.toList i with | some c => .ok (.str ⟨#[c]⟩) h | none => .no) else .no
    | _ => (match itemsD x h with
      | some xs => (match atI xs i with | some d => .ok d h | none => .no)
      | none => .no))
  | _ => .no
def cutD {α : Type} (xs : List α) (lo hi : Option Int) : List α := (xs.drop (HT.sIx xs.length 0 lo)).take (HT.sIx xs.length xs.length hi - HT.sIx xs.length 0 lo)
def slD (x : D) (lo hi : Option Int) (h : DH) : Res D :=
  match x with
  | .tup xs => if HT.sIx xs.length 0 lo = 0 ∧ HT.sIx xs.length xs.length hi = xs.length then .no else .ok (.tup (cutD xs lo hi)) h
  | .ref n => (match itemsD (.ref n) h with
    | some xs => .ok (.ref h.length) (h ++ [.lst (cutD xs lo hi)])
    | none => .no)
  | .str z => if z.length ≤ 16777216 then .ok (.str (cutS z lo hi)) h else .no
  | _ => .no
def setD (o i v : D) (h : DH) : Option DH :=
  match o, i with
  | .ref n, .int k => (match h[n]? with
    | some (.lst xs) => (match ixN xs.length k with | some j => some (h.set n (.lst (xs.set j v))) | none => none)
    | _ => none)
  | _, _ => none
def appD (x : D) (xs : List D) (h : DH) : Res D := match x, xs with
  | .ref n, [y] => (match h[n]? with
    | some (.lst zs) => if zs.length < 16777216 then .ok .non (h.set n (.lst (zs ++ [y]))) else .no
    | _ => .no)
  | _, _ => .no
def popD (x : D) (xs : List D) (h : DH) : Res D := match x, xs with
  | .ref n, [] => (match h[n]? with
    | some (.lst zs) => (match zs[zs.length - 1]? with | some y => .ok y (h.set n (.lst zs.dropLast)) | none => .no)
    | _ => .no)
  | _, _ => .no
def clrD (x : D) (xs : List D) (h : DH) : Res D := match x, xs with
  | .ref n, [] => (match h[n]? with
    | some (.lst _) => .ok .non (h.set n (.lst []))
    | _ => .no)
  | _, _ => .no
def revD (x : D) (xs : List D) (h : DH) : Res D := match x, xs with
  | .ref n, [] => (match h[n]? with
    | some (.lst zs) => .ok .non (h.set n (.lst zs.reverse))
    | _ => .no)
  | _, _ => .no
def lenD (xs : List D) (h : DH) : Res D := match xs with
  | [.str z] => if z.length ≤ 16777216 then .ok (.int z.length) h else .no
  | [x] => (match itemsD x h with | some ys => .ok (.int ys.length) h | none => .no)
  | _ => .no
def intD (xs : List D) (h : DH) : Res D := match xs with
  | [.int i] => .ok (.int i) h
  | [.bl k] => .ok (.int (if k then 1 else 0)) h
  | _ => .no
def absD (xs : List D) (h : DH) : Res D := match xs with
  | [.int i] => .ok (.int (if i < 0 then -i else i)) h
  | _ => .no
def max2D (xs : List D) (h : DH) : Res D := match xs with
  | [.int i, .int j] => .ok (.int (if j > i then j else i)) h
  | _ => .no
def min2D (xs : List D) (h : DH) : Res D := match xs with
  | [.int i, .int j] => .ok (.int (if j < i then j else i)) h
  | _ => .no
def lstD (xs : List D) (h : DH) : Res D := match xs with
  | [x] => (match itemsD x h with | some ys => .ok (.ref h.length) (h ++ [.lst ys]) | none => .no)
  | _ => .no
def tupD (xs : List D) (h : DH) : Res D := match xs with
  | [.tup ys] => .ok (.tup ys) h
  | [.ref n] => (match itemsD (.ref n) h with | some ys => .ok (.tup ys) h | none => .no)
  | _ => .no
inductive Ty where | non | bool | int | str | list | tuple | dict
  deriving DecidableEq
def Ty.nm : Ty → String
  | .non => "NoneType" | .bool => "bool" | .int => "int" | .str => "str" | .list => "list" | .tuple => "tuple" | .dict => "dict"
def subTy (a b : Ty) : Bool := decide (a = b) || (decide (a = .bool) && decide (b = .int))
def tyD (x : D) (h : DH) : Option Ty :=
  match x with
  | .non => some .non
  | .bl _ => some .bool
  | .int _ => some .int
  | .str _ => some .str
  | .tup _ => some .tuple
  | .ref n => (match h[n]? with
    | some (.lst _) => some .list
    | some (.fro _) => some .list
    | some (.dK _) => some .dict
    | _ => none)
def mIsi (T : Ty) (a : EM) : EM := fun ds h => (a ds h).bind fun x h1 => match tyD x h1 with | some S => .ok (.bl (subTy S T)) h1 | none => .no
/-! ### 10. they are sound -/
section
variable {G : Cw} {X : Cx} {W : WX} {pos : Pos} {μ : List Addr} {H : Hp} {h : DH} {ds : DSt}
theorem or_op {r r' : R2} {f : D → D → DH → Res D} (hf : ∀ (W : WX) (ds : DSt) (μ : List Addr) (h : DH) (H : Hp) (x y : D) (v u : V) (Q : VK), Wd G μ h H → RV G μ H x v → RV G μ H y u → post G W ds (RV G) μ H (f x y h) Q → r v u H Q ∨ r' v u H Q) : OpS G (fun x y H Q => r x y H Q ∨ r' x y H Q) f := hf
abbrev rI2 (g : Int → Int → V) : R2 := rI0 g
theorem s_int2 {f : D → D → DH → Res D} {g : Int → Int → D} {gv : Int → Int → V} (hg : ∀ i j μ H, RV G μ H (g i j) (gv i j)) (hf : ∀ x y h, (∃ i j, x = .int i ∧ y = .int j ∧ f x y h = .ok (g i j) h) ∨ f x y h = .no) : OpS G (rI0 gv) f := fun W ds μ h H x y v u Q w rx ry p => by
  rcases hf x y h with ⟨i, j, rfl, rfl, e⟩ | e
  · simp only [RV] at rx ry
    rw [e] at p
    exact ⟨i, j, rx, ry, post_ok p w (hg i j μ H)⟩
  · rw [e] at p; exact p.elim
theorem s_sub : OpS G (rI0 fun i j => .int (i - j)) subD := s_int2 (g := fun i j => .int (i - j)) (fun _ _ _ _ => by simp only [RV]) fun x y h => by cases x <;> cases y <;> first | exact .inr rfl | exact .inl ⟨_, _, rfl, rfl, rfl⟩
theorem s_lt : OpS G (rI0 fun i j => .bl (decide (i < j))) ltD := s_int2 (g := fun i j => .bl (decide (i < j))) (fun _ _ _ _ => by simp only [RV]) fun x y h => by cases x <;> cases y <;> first | exact .inr rfl | exact .inl ⟨_, _, rfl, rfl, rfl⟩
theorem s_le : OpS G (rI0 fun i j => .bl (decide (i ≤ j))) leD := s_int2 (g := fun i j => .bl (decide (i ≤ j))) (fun _ _ _ _ => by simp only [RV]) fun x y h => by cases x <;> cases y <;> first | exact .inr rfl | exact .inl ⟨_, _, rfl, rfl, rfl⟩
theorem s_gt : OpS G (rI0 fun i j => .bl (decide (j < i))) gtD := s_int2 (g := fun i j => .bl (decide (j < i))) (fun _ _ _ _ => by simp only [RV]) fun x y h => by cases x <;> cases y <;> first | exact .inr rfl | exact .inl ⟨_, _, rfl, rfl, rfl⟩
theorem s_ge : OpS G (rI0 fun i j => .bl (decide (j ≤ i))) geD := s_int2 (g := fun i j => .bl (decide (j ≤ i))) (fun _ _ _ _ => by simp only [RV]) fun x y h => by cases x <;> cases y <;> first | exact .inr rfl | exact .inl ⟨_, _, rfl, rfl, rfl⟩
theorem s_int2C {C : Int → Int → Prop} [∀ i j, Decidable (C i j)] {f : D → D → DH → Res D} {g : Int → Int → D} {gv : Int → Int → V} (hg : ∀ i j μ H, RV G μ H (g i j) (gv i j)) (hf : ∀ x y h, (∃ i j, x = .int i ∧ y = .int j ∧ f x y h = if C i j then .ok (g i j) h else .no) ∨ f x y h = .no) : OpS G (rI C gv) f := fun W ds μ h H x y v u Q w rx ry p => by
  rcases hf x y h with ⟨i, j, rfl, rfl, e⟩ | e
  · simp only [RV] at rx ry
    rw [e] at p
    by_cases hc : C i j
    · rw [if_pos hc] at p
      exact ⟨i, j, rx, ry, hc, post_ok p w (hg i j μ H)⟩
    · rw [if_neg hc] at p; exact p.elim
  · rw [e] at p; exact p.elim
instance (i j : Int) : Decidable (CDiv i j) := by unfold CDiv; infer_instance
instance (i j : Int) : Decidable (CPow i j) := by unfold CPow; infer_instance
theorem s_fdiv : OpS G (rI CDiv fun i j => .int (i / j)) fdivD := s_int2C (g := fun i j => .int (i / j)) (fun _ _ _ _ => by simp only [RV]) fun x y h => by cases x <;> cases y <;> first | exact .inr rfl | exact .inl ⟨_, _, rfl, rfl, rfl⟩
theorem s_mod : OpS G (rI (fun _ j => 0 < j) fun i j => .int (i % j)) modD := s_int2C (C := fun _ j => 0 < j) (g := fun i j => .int (i % j)) (fun _ _ _ _ => by simp only [RV]) fun x y h => by cases x <;> cases y <;> first | exact .inr rfl | exact .inl ⟨_, _, rfl, rfl, rfl⟩
theorem s_pow : OpS G (rI CPow fun i j => .int (i ^ j.toNat)) powD := s_int2C (g := fun i j => .int (i ^ j.toNat)) (fun _ _ _ _ => by simp only [RV]) fun x y h => by cases x <;> cases y <;> first | exact .inr rfl | exact .inl ⟨_, _, rfl, rfl, rfl⟩
theorem s_neg : UnS G (rU fun i => .int (-i)) negD := fun W ds μ h H x v Q w rx p => by
  cases x with
  | int i => simp only [RV] at rx; exact ⟨i, rx, post_ok p w (by simp only [RV])⟩
  | _ => exact p.elim
/-! + -/
def rPlus (K : PySem.W.Frag) : R2 := fun x y H Q => rI0 (fun i j => .int (i + j)) x y H Q ∨ (∃ i j, x = .str i ∧ y = .str j ∧ i.length + j.length ≤ sizeLine ∧ Q (.str (i ++ j)) H) ∨ rCat x y H Q ∨ rCatT K x y H Q
theorem op_plus : OpR X (binaryOp .Add) (rPlus X.K) := op_add.or (op_add_str.or (op_cat.or op_catT))
theorem s_plus : OpS G (rPlus G.K) addD := fun W ds μ h H x y v u Q w rx ry p => by
  cases x with
  | int i =>
    cases y with
    | int j => simp only [RV] at rx ry; exact .inl ⟨i, j, rx, ry, post_ok p w (by simp only [RV])⟩
    | _ => exact p.elim
  | str a =>
    cases y with
    | str b =>
      simp only [RV] at rx ry
      simp only [addD] at p
      by_cases hz : a.length + b.length ≤ 16777216
      · rw [if_pos hz] at p
        exact .inr (.inl ⟨a, b, rx, ry, by rw [sizeLine_eq]; exact hz, post_ok p w (by simp only [RV])⟩)
      · rw [if_neg hz] at p; exact p.elim
    | _ => exact p.elim
  | ref m =>
    cases y with
    | ref n =>
      simp only [RV] at rx ry
      obtain ⟨a, rfl, ha⟩ := rx
      obtain ⟨b, rfl, hb⟩ := ry
      simp only [addD] at p
      cases q1 : h[m]? with
      | none => simp only [q1] at p; exact p.elim
      | some o1 =>
        cases o1 with
        | lst xs =>
          cases q2 : h[n]? with
          | none => simp only [q1, q2] at p; exact p.elim
          | some o2 =>
            cases o2 with
            | lst ys =>
              simp only [q1, q2] at p
              by_cases hz : xs.length + ys.length ≤ 16777216
              · rw [if_pos hz] at p
                obtain ⟨vs, h1, r1⟩ := w.ob _ _ _ ha q1
                obtain ⟨us, h2, r2⟩ := w.ob _ _ _ hb q2
                exact .inr (.inr (.inl ⟨a, b, vs, us, rfl, rfl, h1, h2, by rw [← r1.length, ← r2.length, sizeLine_eq]; exact hz, new_lst w (RVs.append r1 r2) p⟩))
              · rw [if_neg hz] at p; exact p.elim
            | _ => simp only [q1, q2] at p; exact p.elim
        | _ => simp only [q1] at p; exact p.elim
    | _ => exact p.elim
  | tup xs =>
    cases y with
    | tup ys =>
      simp only [RV] at rx ry
      obtain ⟨a, vs, rfl, ha, r1⟩ := rx
      obtain ⟨b, us, rfl, hb, r2⟩ := ry
      simp only [addD] at p
      by_cases hz : xs.length ≠ 0 ∧ xs.length + ys.length ≤ 16777216
      · rw [if_pos hz] at p
        refine .inr (.inr (.inr ⟨a, b, vs, us, rfl, rfl, ha, hb, ?_, by rw [← r1.length, ← r2.length, sizeLine_eq]; exact hz.2, fun e => ?_, fun _ => new_tup w (RVs.append r1 r2) p⟩))
        · intro e
          have := r1.length
          rw [e] at this
          exact hz.1 this
        · subst e
          have e2 : ys = [] := List.eq_nil_of_length_eq_zero r2.length
          subst e2
          rw [List.append_nil] at p
          exact post_ok p w (by simp only [RV]; exact ⟨a, vs, rfl, ha, r1⟩)
      · rw [if_neg hz] at p; exact p.elim
    | _ => exact p.elim
  | _ => cases y <;> exact p.elim
/-! * -/
def rTimes : R2 := fun x y H Q => rI CMul (fun i j => .int (i * j)) x y H Q ∨ (∃ z k, x = .str z ∧ y = .int k ∧ 0 ≤ k ∧ k ≤ 1000 ∧ z.length ≤ 10000 ∧ Q (.str (strRep z k.toNat)) H) ∨ rRep x y H Q
theorem op_times : OpR X (binaryOp .Mult) rTimes := op_mul.or (op_rep_str.or op_rep)
theorem s_times : OpS G rTimes mulD := fun W ds μ h H x y v u Q w rx ry p => by
  cases y with
  | int j =>
    simp only [RV] at ry
    cases x with
    | int i =>
      simp only [RV] at rx
      simp only [mulD] at p
      by_cases hz : mulC i j
      · rw [if_pos hz] at p; exact .inl ⟨i, j, rx, ry, hz, post_ok p w (by simp only [RV])⟩
      · rw [if_neg hz] at p; exact p.elim
    | str a =>
      simp only [RV] at rx
      simp only [mulD] at p
      by_cases hz : 0 ≤ j ∧ j ≤ 1000 ∧ a.length ≤ 10000
      · rw [if_pos hz] at p; exact .inr (.inl ⟨a, j, rx, ry, hz.1, hz.2.1, hz.2.2, post_ok p w (by simp only [RV])⟩)
      · rw [if_neg hz] at p; exact p.elim
    | ref m =>
      simp only [RV] at rx
      obtain ⟨a, rfl, ha⟩ := rx
      simp only [mulD] at p
      cases q1 : h[m]? with
      | none => simp only [q1] at p; exact p.elim
      | some o1 =>
        cases o1 with
        | lst xs =>
          simp only [q1] at p
          by_cases hz : 0 ≤ j ∧ j ≤ 100000 ∧ xs.length * j.toNat ≤ 16777216
          · rw [if_pos hz] at p
            obtain ⟨vs, h1, r1⟩ := w.ob _ _ _ ha q1
            refine .inr (.inr ⟨a, j, vs, rfl, ry, h1, by omega, by omega, by rw [← r1.length, sizeLine_eq]; exact hz.2.2, new_lst w ?_ p⟩)
            have rep : ∀ n : Nat, RVs G μ H (List.replicate n xs).flatten (List.replicate n vs).flatten := fun n => by
              induction n with
              | zero => exact RVs.nil
              | succ n ih => rw [List.replicate_succ, List.replicate_succ, List.flatten_cons, List.flatten_cons]; exact RVs.append r1 ih
            exact rep _
          · rw [if_neg hz] at p; exact p.elim
        | _ => simp only [q1] at p; exact p.elim
    | _ => exact p.elim
  | _ => cases x <;> exact p.elim
/-! comparisons -/
theorem eqS_ok {x y : D} {v u : V} {b : Bool} (rx : RV G μ H x v) (ry : RV G μ H y u) (e : eqS x y = some b) : scal v u = true ∧ decide (v = u) = b := by
  cases x <;> cases y <;> simp only [eqS, RV] at e rx ry <;> first | (cases e; done) | (subst rx; subst ry; cases e; exact ⟨rfl, by first | rfl | simp⟩)
theorem s_eq : OpS G rEq eqD := fun W ds μ h H x y v u Q w rx ry p => by
  unfold eqD at p
  cases e : eqS x y with
  | none => rw [e] at p; exact p.elim
  | some b =>
    rw [e] at p
    obtain ⟨h1, h2⟩ := eqS_ok rx ry e
    exact ⟨h1, post_ok p w (by simp only [RV]; rw [h2])⟩
theorem s_ne : OpS G rNe neD := fun W ds μ h H x y v u Q w rx ry p => by
  unfold neD at p
  cases e : eqS x y with
  | none => rw [e] at p; exact p.elim
  | some b =>
    rw [e] at p
    obtain ⟨h1, h2⟩ := eqS_ok rx ry e
    exact ⟨h1, post_ok p w (by simp only [RV]; rw [h2])⟩
theorem s_isN : OpS G (fun x y H Q => y = .non ∧ Q (.bl (decide (x = .non))) H) isND := fun W ds μ h H x y v u Q w rx ry p => by
  cases y with
  | non =>
    simp only [RV] at ry
    refine ⟨ry, ?_⟩
    cases x <;> simp only [RV] at rx <;> first
      | (subst rx; exact post_ok p w (by simp only [RV]; rfl))
      | (obtain ⟨a, vs, rfl, _⟩ := rx; exact post_ok p w (by simp only [RV]; rfl))
      | (obtain ⟨a, rfl, _⟩ := rx; exact post_ok p w (by simp only [RV]; rfl))
  | _ => exact p.elim
theorem s_ntN : OpS G (fun x y H Q => y = .non ∧ Q (.bl (!decide (x = .non))) H) ntND := fun W ds μ h H x y v u Q w rx ry p => by
  cases y with
  | non =>
    simp only [RV] at ry
    refine ⟨ry, ?_⟩
    cases x <;> simp only [RV] at rx <;> first
      | (subst rx; exact post_ok p w (by simp only [RV]; rfl))
      | (obtain ⟨a, vs, rfl, _⟩ := rx; exact post_ok p w (by simp only [RV]; rfl))
      | (obtain ⟨a, rfl, _⟩ := rx; exact post_ok p w (by simp only [RV]; rfl))
  | _ => exact p.elim
/-! sequences -/
theorem items_ok {y : D} {u : V} {xs : List D} (w : Wd G μ h H) (ry : RV G μ H y u) (e : itemsD y h = some xs) : ∃ a vs, u = .ref a ∧ RVs G μ H xs vs ∧ (((∃ n, y = .ref n) ∧ SqL G.K H a vs) ∨ (y = .tup xs ∧ SqT G.K H a vs)) := by
  cases y with
  | tup ys =>
    simp only [RV] at ry
    obtain ⟨a, vs, rfl, ha, r⟩ := ry
    cases e
    exact ⟨a, vs, rfl, r, .inr ⟨rfl, ha⟩⟩
  | ref n =>
    simp only [RV] at ry
    obtain ⟨a, rfl, ha⟩ := ry
    simp only [itemsD] at e
    cases q : h[n]? with
    | none => simp only [q] at e; cases e
    | some o =>
      simp only [q] at e
      cases o with
      | lst ys => cases e; obtain ⟨vs, s, r⟩ := w.seq ha (.inl q); exact ⟨a, vs, rfl, r, .inl ⟨⟨n, rfl⟩, s⟩⟩
      | fro ys => cases e; obtain ⟨vs, s, r⟩ := w.seq ha (.inr q); exact ⟨a, vs, rfl, r, .inl ⟨⟨n, rfl⟩, s⟩⟩
      | dK kvs => cases e
      | ins c fs => cases e
  | _ => cases e
theorem flat_ok {x : D} {v : V} (rx : RV G μ H x v) (f : flatD x = true) : flatV v = true := by
  cases x <;> simp only [RV] at rx <;> first | (cases f; done) | (subst rx; rfl)
theorem eqF_ok {x y : D} {v u : V} (rx : RV G μ H x v) (ry : RV G μ H y u) (f : flatD x = true) (g : flatD y = true) : eqV v u = eqF x y := by
  cases x <;> simp only [RV] at rx <;> first | (cases f; done) | (subst rx; cases y <;> simp only [RV] at ry <;> first | (cases g; done) | (subst ry; rfl))
theorem flats_ok : ∀ {xs : List D} {vs : List V}, RVs G μ H xs vs → xs.all flatD = true → vs.all flatV = true
  | [], vs, r, f => by simp only [RVs] at r; subst r; rfl
  | x :: xs, vs, r, f => by
    simp only [RVs] at r
    obtain ⟨v, ws, rfl, r1, r2⟩ := r
    rw [List.all_cons, Bool.and_eq_true] at f ⊢
    exact ⟨flat_ok r1 f.1, flats_ok r2 f.2⟩
theorem any_ok {x : D} {v : V} (rx : RV G μ H x v) (f : flatD x = true) : ∀ {xs : List D} {vs : List V}, RVs G μ H xs vs → xs.all flatD = true → inV v vs = xs.any fun z => eqF z x
  | [], vs, r, g => by simp only [RVs] at r; subst r; rfl
  | y :: xs, vs, r, g => by
    simp only [RVs] at r
    obtain ⟨u, ws, rfl, r1, r2⟩ := r
    rw [List.all_cons, Bool.and_eq_true] at g
    have ih := any_ok rx f r2 g.2
    unfold inV at ih ⊢
    rw [List.any_cons, List.any_cons, ih, eqF_ok r1 rx g.1 f]
def rInA (K : PySem.W.Frag) (neg : Bool) : R2 := fun x y H Q => (∃ i j, x = .str i ∧ y = .str j ∧ Q (.bl (if neg then !(!(Builtin.Str.occurrences j i 0 j.length 1).isEmpty) else !(Builtin.Str.occurrences j i 0 j.length 1).isEmpty)) H) ∨ rIn K neg x y H Q
theorem op_inA : OpR X (compareOp .In) (rInA X.K false) := op_in_str.or op_in_seq
theorem op_ninA : OpR X (compareOp .NotIn) (rInA X.K true) := op_notin_str.or op_notIn_seq
theorem s_in {neg : Bool} : OpS G (rInA G.K neg) (inD neg) := fun W ds μ h H x y v u Q w rx ry p => by
  have fin : ∀ xs, itemsD y h = some xs → post G W ds (RV G) μ H (if flatD x && xs.all flatD then .ok (.bl (if neg then !(xs.any fun z => eqF z x) else xs.any fun z => eqF z x)) h else .no) Q → rInA G.K neg v u H Q := fun xs e p => by
    obtain ⟨a, vs, rfl, r, s⟩ := items_ok w ry e
    by_cases hf : (flatD x && xs.all flatD) = true
    · rw [if_pos hf] at p
      rw [Bool.and_eq_true] at hf
      refine .inr ⟨a, vs, rfl, ?_, flat_ok rx hf.1, flats_ok r hf.2, ?_⟩
      · rcases s with ⟨_, s⟩ | ⟨_, s⟩
        · exact .inl s
        · exact .inr s
      · rw [any_ok rx hf.1 r hf.2]
        exact post_ok p w (by simp only [RV])
    · rw [if_neg hf] at p; exact p.elim
  cases y with
  | str b =>
    simp only [RV] at ry
    cases x with
    | str a => simp only [RV] at rx; exact .inl ⟨a, b, rx, ry, post_ok p w (by simp only [RV])⟩
    | _ => exact p.elim
  | tup xs => exact fin xs rfl p
  | ref n =>
    have p2 : post G W ds (RV G) μ H (match itemsD (.ref n) h with | some xs => if flatD x && xs.all flatD then .ok (.bl (if neg then !(xs.any fun z => eqF z x) else xs.any fun z => eqF z x)) h else .no | none => .no) Q := p
    cases q : itemsD (.ref n) h with
    | none => rw [q] at p2; exact p2.elim
    | some xs => rw [q] at p2; exact fin xs q p2
  | _ => exact p.elim
theorem atI_ok {xs : List D} {vs : List V} {i : Int} {d : D} (r : RVs G μ H xs vs) (e : atI xs i = some d) : ∃ v, atI vs i = some v ∧ RV G μ H d v := by
  unfold atI at e ⊢
  rw [← r.length]
  cases q : ixN xs.length i with
  | none => rw [q] at e; cases e
  | some j =>
    rw [q] at e
    exact r.get e
theorem s_ix : OpS G (rIx G.K) ixD := fun W ds μ h H x y v u Q w rx ry p => by
  cases y with
  | int i =>
    simp only [RV] at ry
    have fin : ∀ xs, itemsD x h = some xs → post G W ds (RV G) μ H (match atI xs i with | some d => .ok d h | none => .no) Q → rIx G.K v u H Q := fun xs e p => by
      obtain ⟨a, vs, rfl, r, s⟩ := items_ok w rx e
      cases q : atI xs i with
      | none => rw [q] at p; exact p.elim
      | some d =>
        rw [q] at p
        obtain ⟨z, h1, h2⟩ := atI_ok r q
        rcases s with ⟨_, s⟩ | ⟨_, s⟩
        · exact .inl ⟨a, vs, i, z, rfl, ry, s, h1, post_ok p w h2⟩
        · exact .inr (.inl ⟨a, vs, i, z, rfl, ry, s, h1, post_ok p w h2⟩)
    cases x with
    | str z =>
      simp only [RV] at rx
      simp only [ixD] at p
      by_cases hz : z.length ≤ 16777216
      · rw [if_pos hz] at p
        cases q : atI z.cps.toList i with
        | none => rw [q] at p; exact p.elim
        | some c =>
          rw [q] at p
          exact .inr (.inr ⟨z, i, c, rx, ry, by rw [sizeLine_eq]; exact hz, q, post_ok p w (by simp only [RV])⟩)
      · rw [if_neg hz] at p; exact p.elim
    | tup xs => exact fin xs rfl p
    | ref n =>
      have p2 : post G W ds (RV G) μ H (match itemsD (.ref n) h with | some xs => (match atI xs i with | some d => .ok d h | none => .no) | none => .no) Q := p
      cases q : itemsD (.ref n) h with
      | none => rw [q] at p2; exact p2.elim
      | some xs => rw [q] at p2; exact fin xs q p2
    | _ => exact p.elim
  | _ => exact p.elim
theorem cut_ok {xs : List D} {vs : List V} (lo hi : Option Int) (r : RVs G μ H xs vs) : RVs G μ H (cutD xs lo hi) (cutV vs lo hi) := by
  unfold cutD cutV
  rw [← r.length]
  exact RVs.take _ (RVs.drop _ r)
def rSlA (K : PySem.W.Frag) : V → Option Int → Option Int → Hp → VK → Prop := fun x lo hi H Q => rSlL K x lo hi H Q ∨ rSlT K x lo hi H Q ∨ rSlS x lo hi H Q
theorem sl_any : SlR X (rSlA X.K) := sl_list.or (sl_tup.or sl_str)
theorem s_sl : SlS G (rSlA G.K) slD := fun W ds μ h H x v lo hi Q w rx p => by
  cases x with
  | str z =>
    simp only [RV] at rx
    simp only [slD] at p
    by_cases hz : z.length ≤ 16777216
    · rw [if_pos hz] at p
      exact .inr (.inr ⟨z, rx, by rw [sizeLine_eq]; exact hz, post_ok p w (by simp only [RV])⟩)
    · rw [if_neg hz] at p; exact p.elim
  | tup xs =>
    simp only [RV] at rx
    obtain ⟨a, vs, rfl, ha, r⟩ := rx
    simp only [slD] at p
    by_cases hz : HT.sIx xs.length 0 lo = 0 ∧ HT.sIx xs.length xs.length hi = xs.length
    · rw [if_pos hz] at p; exact p.elim
    · rw [if_neg hz] at p
      exact .inr (.inl ⟨a, vs, rfl, ha, by rw [← r.length]; exact hz, new_tup w (cut_ok lo hi r) p⟩)
  | ref n =>
    simp only [slD] at p
    cases q : itemsD (.ref n) h with
    | none => rw [q] at p; exact p.elim
    | some xs =>
      rw [q] at p
      obtain ⟨a, vs, rfl, r, s⟩ := items_ok w rx q
      rcases s with ⟨_, s⟩ | ⟨s, _⟩
      · exact .inl ⟨a, vs, rfl, s, new_lst w (cut_ok lo hi r) p⟩
      · cases s
  | _ => exact p.elim
theorem s_set : SetS G rSetL setD := fun μ h H x y z o i v h' Q w rx ry rz e k => by
  unfold setD at e
  cases x with
  | ref n =>
    cases y with
    | int j =>
      simp only [RV] at rx ry
      obtain ⟨a, rfl, ha⟩ := rx
      simp only at e
      cases q : h[n]? with
      | none => simp only [q] at e; cases e
      | some ob =>
        cases ob with
        | lst xs =>
          simp only [q] at e
          cases q2 : ixN xs.length j with
          | none => simp only [q2] at e; cases e
          | some m =>
            simp only [q2] at e
            cases e
            obtain ⟨vs, h1, r1⟩ := w.ob _ _ _ ha q
            obtain ⟨ex, w2⟩ := w.setL ha q (RVs.set rz m r1)
            exact ⟨a, vs, j, m, rfl, ry, h1, by rw [← r1.length]; exact q2, k _ ex w2⟩
        | _ => simp only [q] at e; cases e
    | _ => cases e
  | _ => cases e
/-! methods of lists -/
theorem lst_of {x : D} {v : V} {n : Nat} {zs : List D} (w : Wd G μ h H) (rx : RV G μ H (.ref n) v) (q : h[n]? = some (.lst zs)) : ∃ a vs, v = .ref a ∧ μ[n]? = some a ∧ H a = some (.lst vs) ∧ RVs G μ H zs vs := by
  simp only [RV] at rx
  obtain ⟨a, rfl, ha⟩ := rx
  obtain ⟨vs, h1, r1⟩ := w.ob _ _ _ ha q
  exact ⟨a, vs, rfl, ha, h1, r1⟩
theorem s_app : MtSd G rAppend appD := fun W ds μ h H x v xs vs Q w rx rs p => by
  unfold appD at p
  split at p
  · rename_i n y
    cases q : h[n]? with
    | none => simp only [q] at p; exact p.elim
    | some ob =>
      cases ob with
      | lst zs =>
        simp only [q] at p
        by_cases hz : zs.length < 16777216
        · rw [if_pos hz] at p
          obtain ⟨a, us, rfl, ha, h1, r1⟩ := lst_of (x := .non) w rx q
          simp only [RVs] at rs
          obtain ⟨u, ws, rfl, r2, rfl⟩ := rs
          obtain ⟨ex, w2⟩ := w.setL ha q (RVs.append r1 (RVs.cons r2 RVs.nil))
          exact ⟨a, us, u, rfl, rfl, h1, by rw [← r1.length, sizeLine_eq]; exact hz, p _ _ _ ex w2 (by simp only [RV])⟩
        · rw [if_neg hz] at p; exact p.elim
      | _ => simp only [q] at p; exact p.elim
  · exact p.elim
theorem s_pop : MtSd G rPop popD := fun W ds μ h H x v xs vs Q w rx rs p => by
  unfold popD at p
  split at p
  · rename_i n
    cases q : h[n]? with
    | none => simp only [q] at p; exact p.elim
    | some ob =>
      cases ob with
      | lst zs =>
        simp only [q] at p
        cases q2 : zs[zs.length - 1]? with
        | none => simp only [q2] at p; exact p.elim
        | some y =>
          simp only [q2] at p
          obtain ⟨a, us, rfl, ha, h1, r1⟩ := lst_of (x := .non) w rx q
          simp only [RVs] at rs
          subst rs
          obtain ⟨u, g1, g2⟩ := r1.get q2
          have rd : RVs G μ H zs.dropLast us.dropLast := by
            rw [List.dropLast_eq_take, List.dropLast_eq_take, r1.length]
            exact RVs.take _ r1
          obtain ⟨ex, w2⟩ := w.setL ha q rd
          exact ⟨a, us, u, rfl, rfl, h1, by rw [← r1.length]; exact g1, p _ _ _ ex w2 (RV.mono ex _ _ g2)⟩
      | _ => simp only [q] at p; exact p.elim
  · exact p.elim
theorem s_clr : MtSd G rClear clrD := fun W ds μ h H x v xs vs Q w rx rs p => by
  unfold clrD at p
  split at p
  · rename_i n
    cases q : h[n]? with
    | none => simp only [q] at p; exact p.elim
    | some ob =>
      cases ob with
      | lst zs =>
        simp only [q] at p
        obtain ⟨a, us, rfl, ha, h1, r1⟩ := lst_of (x := .non) w rx q
        simp only [RVs] at rs
        subst rs
        obtain ⟨ex, w2⟩ := w.setL (ys := []) ha q RVs.nil
        exact ⟨a, us, rfl, rfl, h1, p _ _ _ ex w2 (by simp only [RV])⟩
      | _ => simp only [q] at p; exact p.elim
  · exact p.elim
theorem RVs.reverse : ∀ {xs : List D} {vs : List V}, RVs G μ H xs vs → RVs G μ H xs.reverse vs.reverse
  | [], vs, r => by simp only [RVs] at r; subst r; exact RVs.nil
  | x :: xs, vs, r => by
    simp only [RVs] at r
    obtain ⟨v, ws, rfl, r1, r2⟩ := r
    rw [List.reverse_cons, List.reverse_cons]
    exact RVs.append (RVs.reverse r2) (RVs.cons r1 RVs.nil)
theorem s_rev : MtSd G rReverse revD := fun W ds μ h H x v xs vs Q w rx rs p => by
  unfold revD at p
  split at p
  · rename_i n
    cases q : h[n]? with
    | none => simp only [q] at p; exact p.elim
    | some ob =>
      cases ob with
      | lst zs =>
        simp only [q] at p
        obtain ⟨a, us, rfl, ha, h1, r1⟩ := lst_of (x := .non) w rx q
        simp only [RVs] at rs
        subst rs
        obtain ⟨ex, w2⟩ := w.setL ha q (RVs.reverse r1)
        exact ⟨a, us, rfl, rfl, h1, p _ _ _ ex w2 (by simp only [RV])⟩
      | _ => simp only [q] at p; exact p.elim
  · exact p.elim
/-! calls -/
theorem vs1 {x : D} {vs : List V} (r : RVs G μ H [x] vs) : ∃ v, vs = [v] ∧ RV G μ H x v := by
  simp only [RVs] at r
  obtain ⟨v, ws, rfl, r1, rfl⟩ := r
  exact ⟨v, rfl, r1⟩
theorem vs2 {x y : D} {vs : List V} (r : RVs G μ H [x, y] vs) : ∃ v u, vs = [v, u] ∧ RV G μ H x v ∧ RV G μ H y u := by
  simp only [RVs] at r
  obtain ⟨v, ws, rfl, r1, u, ws2, rfl, r2, rfl⟩ := r
  exact ⟨v, u, rfl, r1, r2⟩
def rLen (K : PySem.W.Frag) : List V → Hp → VK → Prop := fun xs H Q => (∃ p ys, xs = [.ref p] ∧ (SqL K H p ys ∨ SqT K H p ys) ∧ Q (.int ys.length) H) ∨ (∃ z, xs = [.str z] ∧ z.length ≤ sizeLine ∧ Q (.int z.length) H)
theorem call_lenA : CallR X (.builtin "len") (rLen X.K) := call_len_seq.or call_len_str
theorem s_len : CallS G (rLen G.K) lenD := fun W ds μ h H xs vs Q w rs p => by
  unfold lenD at p
  split at p
  · rename_i z
    obtain ⟨v, rfl, r⟩ := vs1 rs
    simp only [RV] at r
    by_cases hz : z.length ≤ 16777216
    · rw [if_pos hz] at p
      exact .inr ⟨z, by rw [r], by rw [sizeLine_eq]; exact hz, post_ok p w (by simp only [RV])⟩
    · rw [if_neg hz] at p; exact p.elim
  · rename_i x _
    obtain ⟨v, rfl, r⟩ := vs1 rs
    cases q : itemsD x h with
    | none => simp only [q] at p; exact p.elim
    | some ys =>
      simp only [q] at p
      obtain ⟨a, us, rfl, r1, s⟩ := items_ok w r q
      refine .inl ⟨a, us, rfl, ?_, by rw [← r1.length]; exact post_ok p w (by simp only [RV])⟩
      rcases s with ⟨_, s⟩ | ⟨_, s⟩
      · exact .inl s
      · exact .inr s
  · exact p.elim
theorem s_int1 : CallS G (fun xs H Q => (∃ i, xs = [.int i] ∧ Q (.int i) H) ∨ ∃ k, xs = [.bl k] ∧ Q (.int (if k then 1 else 0)) H) intD := fun W ds μ h H xs vs Q w rs p => by
  unfold intD at p
  split at p
  · obtain ⟨v, rfl, r⟩ := vs1 rs
    simp only [RV] at r
    exact .inl ⟨_, by rw [r], post_ok p w (by simp only [RV])⟩
  · obtain ⟨v, rfl, r⟩ := vs1 rs
    simp only [RV] at r
    exact .inr ⟨_, by rw [r], post_ok p w (by simp only [RV])⟩
  · exact p.elim
theorem s_abs : CallS G (fun xs H Q => ∃ i, xs = [.int i] ∧ Q (.int (if i < 0 then -i else i)) H) absD := fun W ds μ h H xs vs Q w rs p => by
  unfold absD at p
  split at p
  · obtain ⟨v, rfl, r⟩ := vs1 rs
    simp only [RV] at r
    exact ⟨_, by rw [r], post_ok p w (by simp only [RV])⟩
  · exact p.elim
theorem s_max2 : CallS G (fun xs H Q => ∃ i j, xs = [.int i, .int j] ∧ Q (.int (if j > i then j else i)) H) max2D := fun W ds μ h H xs vs Q w rs p => by
  unfold max2D at p
  split at p
  · obtain ⟨v, u, rfl, r, r2⟩ := vs2 rs
    simp only [RV] at r r2
    exact ⟨_, _, by rw [r, r2], post_ok p w (by simp only [RV])⟩
  · exact p.elim
theorem s_min2 : CallS G (fun xs H Q => ∃ i j, xs = [.int i, .int j] ∧ Q (.int (if j < i then j else i)) H) min2D := fun W ds μ h H xs vs Q w rs p => by
  unfold min2D at p
  split at p
  · obtain ⟨v, u, rfl, r, r2⟩ := vs2 rs
    simp only [RV] at r r2
    exact ⟨_, _, by rw [r, r2], post_ok p w (by simp only [RV])⟩
  · exact p.elim
theorem s_lst : CallS G (fun xs H Q => ∃ p ys, xs = [.ref p] ∧ (SqL G.K H p ys ∨ SqT G.K H p ys) ∧ ∀ l, H l = none → Q (.ref l) (upd H l (.lst ys))) lstD := fun W ds μ h H xs vs Q w rs p => by
  unfold lstD at p
  split at p
  · rename_i x
    obtain ⟨v, rfl, r⟩ := vs1 rs
    cases q : itemsD x h with
    | none => simp only [q] at p; exact p.elim
    | some ys =>
      simp only [q] at p
      obtain ⟨a, us, rfl, r1, s⟩ := items_ok w r q
      refine ⟨a, us, rfl, ?_, new_lst w r1 p⟩
      rcases s with ⟨_, s⟩ | ⟨_, s⟩
      · exact .inl s
      · exact .inr s
  · exact p.elim
theorem s_tup : CallS G (fun xs H Q => ∃ p ys, xs = [.ref p] ∧ ((SqL G.K H p ys ∧ ∀ l, H l = none → Q (.ref l) (upd H l (.tup ys))) ∨ (SqT G.K H p ys ∧ Q (.ref p) H))) tupD := fun W ds μ h H xs vs Q w rs p => by
  unfold tupD at p
  split at p
  · obtain ⟨v, rfl, r⟩ := vs1 rs
    have r' := r
    simp only [RV] at r
    obtain ⟨a, us, rfl, ha, hb⟩ := r
    exact ⟨a, us, rfl, .inr ⟨ha, post_ok p w r'⟩⟩
  · rename_i n
    obtain ⟨v, rfl, r⟩ := vs1 rs
    cases q : itemsD (.ref n) h with
    | none => simp only [q] at p; exact p.elim
    | some ys =>
      simp only [q] at p
      obtain ⟨a, us, rfl, r1, s⟩ := items_ok w r q
      rcases s with ⟨_, s⟩ | ⟨s, _⟩
      · exact ⟨a, us, rfl, .inl ⟨s, new_tup w r1 p⟩⟩
      · cases s
  · exact p.elim
/-! isinstance -/
theorem kit_sub : ∀ a b : Ty, kitB a.nm b.nm = some (subTy a b) := by intro a b; cases a <;> cases b <;> decide +kernel
theorem tyD_ok {x : D} {v : V} {T : Ty} (w : Wd G μ h H) (r : RV G μ H x v) (e : tyD x h = some T) : TyX G.K H v (.type T.nm) := by
  cases x with
  | non => cases e; simp only [RV] at r; subst r; exact .base .non
  | bl b => cases e; simp only [RV] at r; subst r; exact .base (.bl b)
  | int i => cases e; simp only [RV] at r; subst r; exact .base (.int i)
  | str s => cases e; simp only [RV] at r; subst r; exact .base (.str s)
  | tup xs =>
    cases e
    simp only [RV] at r
    obtain ⟨a, vs, rfl, s, _⟩ := r
    rcases s with (s | ⟨o, s⟩) | ⟨o, its, n, s1, s2, _⟩
    · exact .base (.tup s)
    · exact .fTuple s
    · exact .kTuple s1 s2
  | ref n =>
    simp only [RV] at r
    obtain ⟨a, rfl, ha⟩ := r
    simp only [tyD] at e
    cases q : h[n]? with
    | none => simp only [q] at e; cases e
    | some o =>
      simp only [q] at e
      cases o with
      | lst ys => cases e; obtain ⟨vs, s, _⟩ := w.ob _ _ _ ha q; exact .base (.lst s)
      | fro ys =>
        cases e
        obtain ⟨vs, s, _⟩ := w.ob _ _ _ ha q
        rcases s with ⟨o, s⟩ | s
        · exact .base (.frz s)
        · rcases s (fun _ => none) with (z | ⟨o, z⟩) | ⟨o, its, n, s1, s2, _⟩
          · cases z
          · cases z
          · exact .kList s1 s2
      | dK kvs => cases e; obtain ⟨vs, s, _⟩ := w.ob _ _ _ ha q; exact .base (.dK s)
      | ins c fs => cases e
theorem pm_isi {e : Expr} {T : Ty} {m : EM} (hK : X.K = G.K) (h : PE X e (tCB (rIsi X.K) (L2.tCons (tE G W m) (L2.tCons (L2.tC (.ty T.nm)) L2.tNil)))) : PE X e (tE G W (mIsi T m)) := h.imp fun σ H Q ⟨μ, ds, h, w, rs, p⟩ =>
  ⟨μ, ds, h, w, rs, post_bind p fun x h1 μ1 v H1 e1 w1 r1 p1 => by
    cases q : tyD x h1 with
    | none => simp only [q] at p1; exact p1.elim
    | some S =>
      simp only [q] at p1
      rw [hK]
      exact ⟨v, .ty T.nm, .type S.nm, .type T.nm, subTy S T, rfl, .ty _, tyD_ok w1 r1 q, kit_ty (kit_sub S T), post_ok p1 w1 (by simp only [RV])⟩⟩
end
end Mi
/-! defs with their number of arguments, constants of the text, the end of a law -/
namespace Mi
open PySem L2
@[irreducible] def runF (ar n : Nat) (b : SM) (xs : List D) (h : DH) : Res D := if xs.length = ar then runB n b xs h else .no
theorem runF_len {ar n : Nat} {b : SM} {xs : List D} {h : DH} (e : runF ar n b xs h ≠ .no) : xs.length = ar := by
  unfold runF at e
  by_cases q : xs.length = ar
  · exact q
  · rw [if_neg q] at e; exact absurd rfl e
def addI (x y : D) (h : DH) : Res D := match x, y with | .int i, .int j => .ok (.int (i + j)) h | _, _ => .no
def subI (x y : D) (h : DH) : Res D := match x, y with | .int i, .int j => .ok (.int (i - j)) h | _, _ => .no
theorem gs_len2 {a b : GM} : ∀ xs ds h, (gsCons a (gsCons b gsNil) xs ds h).isSome = true → xs.length = 2 := by
  intro xs ds h e
  match xs with
  | [] => cases e
  | [x] =>
    simp only [gsCons] at e
    cases q : a x ds h with
    | none => rw [q] at e; cases e
    | some p => rw [q] at e; cases e
  | [x, y] => rfl
  | x :: y :: z :: r =>
    simp only [gsCons] at e
    cases q : a x ds h with
    | none => rw [q] at e; cases e
    | some p =>
      rw [q] at e
      simp only [Option.bind] at e
      cases q2 : b y p.1 p.2 with
      | none => rw [q2] at e; cases e
      | some p2 => rw [q2] at e; cases e
section
variable {G : Cw} {X : Cx} {W : WX} {pos : Pos} {μ : List Addr} {H : Hp} {h : DH}
theorem s_addI : OpS G (ipI fun i j => i + j) addI := s_int2 (gv := fun i j => .int (i + j)) (g := fun i j => .int (i + j)) (fun _ _ _ _ => by simp only [RV]) fun x y h => by cases x <;> cases y <;> first | exact .inr rfl | exact .inl ⟨_, _, rfl, rfl, rfl⟩
theorem s_subI : OpS G (ipI fun i j => i - j) subI := s_int2 (gv := fun i j => .int (i - j)) (g := fun i j => .int (i - j)) (fun _ _ _ _ => by simp only [RV]) fun x y h => by cases x <;> cases y <;> first | exact .inr rfl | exact .inl ⟨_, _, rfl, rfl, rfl⟩
theorem fn_okF {P : Program} {w : World} {K : PySem.W.Frag} {mg : Str → Option Value} {base : Heap} {x qual : Str} {st : Stmt} {f : Addr} {fd : FuncData} {N ps : List Str} {k : Nat} {m : SM} (F : Fun K x qual st f fd) (S : FnScope N ps (defScope st))
    (hb : ∀ (cdv : Value) (A : Around) (outer : List Env) (s : Shared) (H : Hp) (E : XK), Room k (A.deeper (PyProof.Rows.envOfC qual (defScope st) s.heap.objs.size f cdv)) →
      PSs (cxOf (L2.CX P w) P w K mg base N qual (defScope st) f cdv A outer s H E) (defBody st) (tS G (fun c d _ H => E c d H) m)) :
    FnOk P w K mg base (L2.CX P w) (k + 1) f fd ps (spF G ps.length (runF ps.length N.length m)) := (fn_ok (G := G) F S hb).imp fun vs H Q E ⟨hl, μ, xs, h, w, r, p⟩ => ⟨hl, μ, xs, h, w, r, by
  unfold runF at p
  rw [if_pos (by rw [r.length]; exact hl)] at p
  exact p⟩
/-- a tuple of the text's own, of flat values -/
def KTup (K : PySem.W.Frag) (mg : Str → Option Value) (x : Str) (xs : List D) : Prop := ∃ a vs, mg x = some (.ref a) ∧ (∀ H, SqT K H a vs) ∧ ∀ (G : Cw) μ H, RVs G μ H xs vs
theorem ktup_strs {K : PySem.W.Frag} {mg : Str → Option Value} {x : Str} {a : Addr} {od : Option Addr} {its : Array Value} {n : Nat} {sl : Array (Option Value)} {zs : List Str} (hm : mg x = some (.ref a)) (hl : K.lookup a = some ⟨.type "tuple", od, .seq its n, sl⟩)
    (hv : Vals (zs.map V.str) its.toList) (hz : its.size ≤ 1000) : KTup K mg x (zs.map D.str) :=
  ⟨a, zs.map V.str, hm, fun H => .inr ⟨_, its, n, hl, rfl, rfl, Nat.le_trans hz (by decide), hv⟩, fun G μ H => RVs.strs⟩
theorem pm_ktup {x : Str} {xs : List D} (hg : Gl X x) (k : KTup X.K X.mg x xs) (hK : X.K = G.K) (hd : (x == ("__debug__" : Str)) = false := by decide) : PE X (.Name x pos) (tE G W (mC (.tup xs))) := by
  obtain ⟨a, vs, hm, hs, hr⟩ := k
  refine pm_const (pe_glob hg hm (v := .ref a) rfl hd) fun μ H => ?_
  simp only [RV]
  exact ⟨a, vs, rfl, by rw [← hK]; exact hs H, hr G μ H⟩
theorem walk_law {l : PySem.W.OpenLaw} {k : Nat} {q : Program} {loose : List Str} {XP : (Str → Option Value) → Heap → Prop} {YP : World → Heap → Prop} {d : DefRec} {K : Params → PySem.W.Frag} {cad : PySem.W.Frag → Nat → Addr} {F : List D → DH → Res D}
    (hn : l.most = some 63) (hdf : d.params.defaults = []) (hr : Room k callerA)
    (hY : ∀ (w : World) (h : Heap), YP w h → (K w.params).In h)
    (hF : ∀ (w : World) (mg : Str → Option Value) (fa : Addr) (h : Heap), (K w.params).In h → h.Ns mainGlobals mg → mg d.name = some (.ref fa) →
      ∃ fd : FuncData, (∀ (s : Shared) (u : Value), BindsTo s fd ⟨[u], []⟩ [("script", u)]) ∧
        ∀ base : Heap, (K w.params).In base → base.Ns mainGlobals mg → FnOk l.prog w (K w.params) mg base (L2.CX l.prog w) k fa fd ["script"] (spF ⟨K w.params, cad (K w.params)⟩ 1 F))
    (main : ∀ ns : List Int, ns.length ≤ 63 → ∃ h', F [.ref 0] [.fro (ns.map D.int)] = .ok (.bl true) h') :
    PySem.W.WalkO q loose XP YP l.row.toRowW d [] (fun f vs => PySem.call f vs) :=
  L2.walk_of (n := 63) (k := k) (x := "script") (CX := fun w => L2.CX l.prog w) (sp := fun w => spF ⟨K w.params, cad (K w.params)⟩ 1 F) hn (by decide) hdf hr hY hF
    (fun w H a ns hl hO hS => by
      obtain ⟨h', e⟩ := main ns hl
      refine ⟨rfl, [a], [.ref 0], [.fro (ns.map D.int)], ⟨rfl, fun n b o e1 e2 => ?_, fun n m b o o' e1 e2 e3 e4 m1 m2 => ?_⟩, ?_, ?_⟩
      · match n, e1, e2 with
        | 0, e1, e2 =>
          cases e1
          cases e2
          refine ⟨ns.map V.int, ?_, RVs.ints⟩
          rcases hS with (hS | ⟨o, hS⟩) | hS
          · rcases hO a with z | ⟨o, xs, z⟩
            · rw [hS] at z; cases z
            · rw [hS] at z; cases z
          · exact .inl ⟨o, hS⟩
          · exact .inr fun H' => .inr hS
        | n + 1, e1, e2 => cases e1
      · match n, e3 with
        | 0, e3 => cases e3; cases m1
        | n + 1, e3 => cases e3
      · exact RVs.cons (by simp only [RV]; exact ⟨a, rfl, rfl⟩) RVs.nil
      · rw [e]
        intro μ' v H' _ _ r
        simpa only [RV] using r)
    (fun w H s e s' h => by
      obtain ⟨_, _, _, _, _, _, _, _, _, _, _, _, z⟩ := h
      exact z.elim)
end
end Mi
/-! more operations -/
namespace Mi
open PySem L2
def intsOf : List D → Option (List Int)
  | [] => some []
  | .int i :: r => (intsOf r).map (i :: ·)
  | _ :: _ => none
def bolsOf : List D → Option (List Bool)
  | [] => some []
  | .bl i :: r => (bolsOf r).map (i :: ·)
  | _ :: _ => none
def strsOf : List D → Option (List Str)
  | [] => some []
  | .str i :: r => (strsOf r).map (i :: ·)
  | _ :: _ => none
theorem intsOf_some : ∀ {xs : List D} {ns : List Int}, intsOf xs = some ns → xs = ns.map D.int
  | [], ns, e => by cases e; rfl
  | .int i :: r, ns, e => by
    simp only [intsOf] at e
    cases q : intsOf r with
    | none => rw [q] at e; cases e
    | some ms => rw [q] at e; cases e; rw [intsOf_some q]; rfl
theorem intsOf_map (ns : List Int) : intsOf (ns.map D.int) = some ns := by
  induction ns with
  | nil => rfl
  | cons n r ih => simp only [List.map_cons, intsOf, ih, Option.map_some]
theorem bolsOf_some : ∀ {xs : List D} {ns : List Bool}, bolsOf xs = some ns → xs = ns.map D.bl
  | [], ns, e => by cases e; rfl
  | .bl i :: r, ns, e => by
    simp only [bolsOf] at e
    cases q : bolsOf r with
    | none => rw [q] at e; cases e
    | some ms => rw [q] at e; cases e; rw [bolsOf_some q]; rfl
theorem bolsOf_map (ns : List Bool) : bolsOf (ns.map D.bl) = some ns := by
  induction ns with
  | nil => rfl
  | cons n r ih => simp only [List.map_cons, bolsOf, ih, Option.map_some]
theorem strsOf_some : ∀ {xs : List D} {ns : List Str}, strsOf xs = some ns → xs = ns.map D.str
  | [], ns, e => by cases e; rfl
  | .str i :: r, ns, e => by
    simp only [strsOf] at e
    cases q : strsOf r with
    | none => rw [q] at e; cases e
    | some ms => rw [q] at e; cases e; rw [strsOf_some q]; rfl
theorem strsOf_map (ns : List Str) : strsOf (ns.map D.str) = some ns := by
  induction ns with
  | nil => rfl
  | cons n r ih => simp only [List.map_cons, strsOf, ih, Option.map_some]
/-- the ints of a list -/
def lintsD (xs : List D) (h : DH) : Option (List Int) := match xs with
  | [.ref n] => (itemsD (.ref n) h).bind intsOf
  | _ => none
def sumD (xs : List D) (h : DH) : Res D := match lintsD xs h with | some ns => .ok (.int ns.sum) h | none => .no
section
variable {G : Cw} {X : Cx} {W : WX} {pos : Pos} {μ : List Addr} {H : Hp} {h : DH}
theorem lints_ok {xs : List D} {vs : List V} {ns : List Int} (w : Wd G μ h H) (r : RVs G μ H xs vs) (e : lintsD xs h = some ns) : ∃ a, vs = [.ref a] ∧ SqL G.K H a (ns.map V.int) := by
  unfold lintsD at e
  split at e
  · rename_i n
    obtain ⟨v, rfl, r1⟩ := vs1 r
    cases q : itemsD (.ref n) h with
    | none => rw [q] at e; cases e
    | some ys =>
      rw [q] at e
      have e2 : intsOf ys = some ns := e
      obtain ⟨a, us, rfl, r2, s⟩ := items_ok w r1 q
      rw [intsOf_some e2] at r2
      rw [r2.ints_of] at s
      rcases s with ⟨_, s⟩ | ⟨s, _⟩
      · exact ⟨a, rfl, s⟩
      · cases s
  · cases e
theorem s_sum : CallS G (rSum G.K) sumD := fun W ds μ h H xs vs Q w rs p => by
  unfold sumD at p
  cases e : lintsD xs h with
  | none => rw [e] at p; exact p.elim
  | some ns =>
    rw [e] at p
    obtain ⟨a, rfl, s⟩ := lints_ok w rs e
    exact ⟨a, ns, rfl, s, post_ok p w (by simp only [RV])⟩
end
end Mi
/-! starred arguments, tables of the text, deep comparisons -/
namespace Mi
open PySem L2 PyProof.Rows
def aStar (a : EM) (r : AM) : AM := fun ds h => (a ds h).bind fun x h1 => match itemsD x h1 with | some xs => (r ds h1).bind fun ys h2 => .ok (xs ++ ys) h2 | none => .no
/-! a table of the text with text keys -/
def KV (K : PySem.W.Frag) (d : D) (u : Value) : Prop := ∃ v, RelV v u ∧ ∀ (G : Cw), G.K = K → ∀ μ H, RV G μ H d v
def KVs (K : PySem.W.Frag) : List D → List Value → Prop
  | [], [] => True
  | d :: r, u :: us => KV K d u ∧ KVs K r us
  | _, _ => False
def KEnts (K : PySem.W.Frag) : List (Str × D) → List DictEntry → Prop
  | [], [] => True
  | p :: r, e :: es => (∃ t, e.key = .str p.1 t) ∧ KV K p.2 e.val ∧ KEnts K r es
  | _, _ => False
def KDc (K : PySem.W.Frag) (w : World) (mg : Str → Option Value) (x : Str) (tbl : List (Str × D)) : Prop := ∃ a es n, mg x = some (.ref a) ∧ KDict K w a es n ∧ KEnts K tbl es.toList
def lookD : List (Str × D) → Str → Option D
  | [], _ => none
  | p :: r, z => if p.1 = z then some p.2 else lookD r z
def mKD (tbl : List (Str × D)) (e : EM) : EM := fun ds h => (e ds h).bind fun x h1 => match x with
  | .str z => (match lookD tbl z with | some d => .ok d h1 | none => .no)
  | _ => .no
def mKIn (neg : Bool) (tbl : List (Str × D)) (e : EM) : EM := fun ds h => (e ds h).bind fun x h1 => match x with
  | .str z => .ok (.bl (if neg then !(lookD tbl z).isSome else (lookD tbl z).isSome)) h1
  | _ => .no
/-! deep data -/
def pyAll (f : D → Option PyData) : List D → Option (List PyData)
  | [] => some []
  | x :: r => (f x).bind fun d => (pyAll f r).map (d :: ·)
def pyD (h : DH) : Nat → D → Option PyData
  | 0, _ => none
  | _ + 1, .non => some .none
  | _ + 1, .bl b => some (.bool b)
  | _ + 1, .int i => some (.int i)
  | _ + 1, .str z => some (.str z)
  | k + 1, .tup xs => (pyAll (pyD h k) xs).map .tuple
  | k + 1, .ref n => (itemsD (.ref n) h).bind fun xs => (pyAll (pyD h k) xs).map .list
def deepE (x y : D) (h : DH) : Option Bool := match pyD h 70 x, pyD h 70 y with
  | some d, some e => if SeqAt.shaped d && SeqAt.shaped e then some (PyData.eqv d e) else none
  | _, _ => none
def eqA (x y : D) : DH → Option Bool := fun h => match eqS x y with | some b => some b | none => deepE x y h
def eqDD (x y : D) (h : DH) : Res D := match eqA x y h with | some b => .ok (.bl b) h | none => .no
def neDD (x y : D) (h : DH) : Res D := match eqA x y h with | some b => .ok (.bl (!b)) h | none => .no
def deepIn (x y : D) (h : DH) : Option Bool := match pyD h 70 x, pyD h 70 y with
  | some d, some (.list ds) => if SeqAt.shaped d && SeqAt.shaped (.list ds) then some (ds.any fun z => PyData.eqv z d) else none
  | _, _ => none
def flatIn (x : D) (y : D) (h : DH) : Option Bool := match y with
  | .str _ => none
  | _ => (match itemsD y h with
    | some xs => if flatD x && xs.all flatD then some (xs.any fun z => eqF z x) else none
    | none => none)
def inA (x y : D) (h : DH) : Option Bool := match flatIn x y h with | some b => some b | none => deepIn x y h
def inDD (neg : Bool) (x y : D) (h : DH) : Res D := match inA x y h with | some b => .ok (.bl (if neg then !b else b)) h | none => .no
def atF (p : PyData → Bool) : Nat → List PyData → Option Nat
  | _, [] => none
  | i, z :: r => if p z then some i else atF p (i + 1) r
def indexD (x : D) (xs : List D) (h : DH) : Res D := match x, xs with
  | .ref n, [y] => (match pyD h 70 y, pyD h 70 (.ref n) with
    | some d, some (.list ds) => if SeqAt.shaped d && SeqAt.shaped (.list ds) then (match atF (fun z => PyData.eqv z d) 0 ds with | some j => .ok (.int j) h | none => .no) else .no
    | _, _ => .no)
  | _, _ => .no
theorem gs_len0 : ∀ xs ds h, (gsNil xs ds h).isSome = true → xs.length = 0 := by
  intro xs ds h e
  cases xs with
  | nil => rfl
  | cons x r => cases e
theorem gs_lenS {g : GM} {r : List D → DSt → DH → Option (DSt × DH)} {n : Nat} (ih : ∀ xs ds h, (r xs ds h).isSome = true → xs.length = n) : ∀ xs ds h, (gsCons g r xs ds h).isSome = true → xs.length = n + 1 := by
  intro xs ds h e
  cases xs with
  | nil => cases e
  | cons x xs =>
    simp only [gsCons] at e
    cases q : g x ds h with
    | none => rw [q] at e; cases e
    | some p => rw [q] at e; rw [List.length_cons, ih xs p.1 p.2 e]
/-! a comprehension within a comprehension -/
theorem lookup_map {f : Str × NameKind → Str × NameKind} (hf : ∀ p, (f p).1 = p.1) (hk : ∀ p, p.2 = .cell ∨ p.2 = .free → (f p).2 = .cell ∨ (f p).2 = .free) : ∀ {l : List (Str × NameKind)} {x : Str}, l.lookup x = some .cell ∨ l.lookup x = some .free → (l.map f).lookup x = some .cell ∨ (l.map f).lookup x = some .free
  | [], x, h => by rcases h with h | h <;> cases h
  | p :: r, x, h => by
    obtain ⟨n, k⟩ := p
    have e1 : (f (n, k)) = (n, (f (n, k)).2) := by have := hf (n, k); exact Prod.ext this rfl
    rw [List.map_cons, e1]
    simp only [List.lookup] at h ⊢
    cases c : x == n with
    | true =>
      rw [c] at h
      simp only at h ⊢
      have := hk (n, k) (by rcases h with h | h; exact .inl (Option.some.inj h); exact .inr (Option.some.inj h))
      rcases this with q | q <;> rw [q]
      · exact .inl rfl
      · exact .inr rfl
    | false =>
      rw [c] at h
      exact lookup_map hf hk h
theorem blkOk_re {N : List Str} {sc scope : Scope} {own : List (Str × Nat)} {env : Env} (h : blkC N sc scope own = true) : BlkOk N (relabel sc env) scope own := by
  have b := blkOk_by h
  refine ⟨b.kind, b.uniq, b.ix, fun y hy e => ?_, b.own⟩
  unfold relabel
  refine lookup_map (fun p => ?_) (fun p q => ?_) (b.free y hy e)
  · obtain ⟨n, k⟩ := p
    by_cases c : (k == NameKind.free && env.scope.kind == .function && env.kindOf n == some .cell) = true
    · simp only [c, if_true]
    · simp only [c]; rfl
  · obtain ⟨n, k⟩ := p
    by_cases c : (k == NameKind.free && env.scope.kind == .function && env.kindOf n == some .cell) = true
    · simp only [c, if_true]; exact .inl trivial
    · simp only [c]; exact q
section
variable {G : Cw} {X : Cx} {W : WX} {pos : Pos} {μ : List Addr} {H : Hp} {h : DH} {ds : DSt}
theorem am_star {e : Expr} {p : Pos} {es : List Expr} {me : EM} {mr : AM} (hK : X.K = G.K) (ha : PE X e (tE G W me)) (hr : PA X es (tA G W mr)) (hs : starEach (.Starred e p :: es) X.env = (true, eval e X.env) :: starEach es X.env := by rfl) : PA X (.Starred e p :: es) (tA G W (aStar me mr)) :=
  (StX.pa_star ha hr hs).imp fun σ H Q ⟨μ, ds, h, w, rs, p⟩ => ⟨μ, ds, h, w, rs, post_bind p fun x h1 μ1 v H1 e1 w1 r1 p1 => by
    cases q : itemsD x h1 with
    | none => simp only [q] at p1; exact p1.elim
    | some xs =>
      simp only [q] at p1
      obtain ⟨a, vs, rfl, r2, s⟩ := items_ok w1 r1 q
      refine ⟨a, vs, rfl, ?_, μ1, ds, h1, w1, rs.mono e1, post_bind p1 fun ys h2 μ2 us H2 e2 w2 r3 p2 => post_ok p2 w2 (RVs.append (RVs.mono e2 _ _ r2) r3)⟩
      rw [hK]
      rcases s with ⟨_, s⟩ | ⟨_, s⟩
      · exact .inr s
      · exact .inl s⟩
theorem kv_str {K : PySem.W.Frag} {z : Str} {t : Tok} : KV K (.str z) (.str z t) := ⟨.str z, ⟨t, rfl⟩, fun _ _ _ _ => by simp only [RV]⟩
theorem kv_int {K : PySem.W.Frag} {z : Int} {t : Tok} : KV K (.int z) (.int z t) := ⟨.int z, ⟨t, rfl⟩, fun _ _ _ _ => by simp only [RV]⟩
theorem kv_bl {K : PySem.W.Frag} {z : Bool} : KV K (.bl z) (.bool z) := ⟨.bl z, rfl, fun _ _ _ _ => by simp only [RV]⟩
theorem kv_non {K : PySem.W.Frag} : KV K .non .none := ⟨.non, rfl, fun _ _ _ _ => by simp only [RV]⟩
theorem kvs_vals {K : PySem.W.Frag} : ∀ {xs : List D} {us : List Value}, KVs K xs us → ∃ vs, Vals vs us ∧ ∀ (G : Cw), G.K = K → ∀ μ H, RVs G μ H xs vs
  | [], [], _ => ⟨[], .nil, fun _ _ _ _ => RVs.nil⟩
  | d :: r, u :: us, h => by
    obtain ⟨v, h1, h2⟩ := h.1
    obtain ⟨vs, h3, h4⟩ := kvs_vals h.2
    exact ⟨v :: vs, .cons h1 h3, fun G e μ H => RVs.cons (h2 G e μ H) (h4 G e μ H)⟩
  | [], _ :: _, h => h.elim
  | _ :: _, [], h => h.elim
theorem kv_tup {K : PySem.W.Frag} {a : Addr} {od : Option Addr} {its : Array Value} {n : Nat} {sl : Array (Option Value)} {xs : List D} (hl : K.lookup a = some ⟨.type "tuple", od, .seq its n, sl⟩) (hv : KVs K xs its.toList) (hz : its.size ≤ 1000) : KV K (.tup xs) (.ref a) := by
  obtain ⟨vs, h1, h2⟩ := kvs_vals hv
  refine ⟨.ref a, rfl, fun G e μ H => ?_⟩
  simp only [RV]
  exact ⟨a, vs, rfl, .inr ⟨_, its, n, by rw [e]; exact hl, rfl, rfl, Nat.le_trans hz (by decide), h1⟩, h2 G e μ H⟩
theorem kents_look {K : PySem.W.Frag} {z : Str} : ∀ {tbl : List (Str × D)} {es : List DictEntry}, KEnts K tbl es →
    (match es.find? (·.key.isStr z) with | some e => ∃ d, lookD tbl z = some d ∧ KV K d e.val | none => lookD tbl z = none) ∧ es.any (·.refKey) = false
  | [], [], _ => ⟨rfl, rfl⟩
  | p :: r, e :: es, h => by
    obtain ⟨⟨t, h1⟩, h2, h3⟩ := h
    obtain ⟨i1, i2⟩ := kents_look (z := z) h3
    have q : e.key.isStr z = decide (p.1 = z) := by rw [h1]; rfl
    refine ⟨?_, ?_⟩
    · rw [List.find?_cons]
      simp only [q]
      by_cases c : p.1 = z
      · simp only [c, decide_true, lookD, if_true]
        exact ⟨p.2, rfl, h2⟩
      · simp only [c, decide_false, lookD, if_false]
        exact i1
    · rw [List.any_cons, i2, Bool.or_false]
      unfold DictEntry.refKey
      rw [h1]
  | [], _ :: _, h => h.elim
  | _ :: _, [], h => h.elim
theorem kdc_look {K : PySem.W.Frag} {w : World} {a : Addr} {es : Array DictEntry} {n : Nat} {tbl : List (Str × D)} (D : KDict K w a es n) (E : KEnts K tbl es.toList) (z : Str) :
    (∃ d u, lookD tbl z = some d ∧ PySem.W.nsIn K a z = some (some u) ∧ KV K d u) ∨ (lookD tbl z = none ∧ PySem.W.nsIn K a z = some none) := by
  obtain ⟨i1, i2⟩ := kents_look (z := z) E
  unfold PySem.W.nsIn
  rw [D.at_]
  cases q : es.toList.find? (·.key.isStr z) with
  | none =>
    rw [q] at i1
    simp only [q]
    rw [i2]
    exact .inr ⟨i1, rfl⟩
  | some e =>
    rw [q] at i1
    obtain ⟨d, h1, h2⟩ := i1
    simp only [q]
    exact .inl ⟨d, e.val, h1, rfl, h2⟩
theorem pm_kd {x : Str} {p : Pos} {e : Expr} {tbl : List (Str × D)} {m : EM} (hg : Gl X x) (k : KDc X.K X.w X.mg x tbl) (hK : X.K = G.K) (he : PE X e (tE G W m)) (hd : (x == ("__debug__" : Str)) = false := by decide) (hp : PlainIx e := by exact fun _ _ => rfl) :
    PE X (.Subscript (.Name x p) e pos) (tE G W (mKD tbl m)) := by
  obtain ⟨a, es, n, hm, D, E⟩ := k
  refine (pe_ix ix_kdict (pe_glob hg hm (v := .ref a) rfl hd) he hp).imp fun σ H Q ⟨μ, ds, h, w, rs, p⟩ => ?_
  refine ⟨μ, ds, h, w, rs, post_bind p fun x h1 μ1 v H1 e1 w1 r1 p1 => ?_⟩
  cases x with
  | str z =>
    simp only [RV] at r1
    subst r1
    rcases kdc_look D E z with ⟨d, u, q1, q2, v0, q3, q4⟩ | ⟨q1, q2⟩
    · simp only [q1] at p1
      exact ⟨a, z, v0, rfl, rfl, ⟨es, n, u, D.at_, D.lit, q2, q3⟩, post_ok p1 w1 (q4 G hK.symm _ _)⟩
    · simp only [q1] at p1; exact p1.elim
  | _ => exact p1.elim
theorem snd_kin {neg : Bool} {x : Str} {p : Pos} {e : Expr} {tbl : List (Str × D)} {m : EM} {a : Addr} {es : Array DictEntry} {n : Nat} (D : KDict X.K X.w a es n) (E : KEnts X.K tbl es.toList) : ∀ σ H Q, tE G W (mKIn neg tbl m) σ H Q →
    tOp (fun x y H Q => ∃ (z : Str) (r : Option Value), x = .str z ∧ y = .ref a ∧ PySem.W.nsIn X.K a z = some r ∧ Q (.bl (if neg then !r.isSome else r.isSome)) H) (tE G W m) (L2.tC (.ref a)) σ H Q := fun σ H Q ⟨μ, ds, h, w, rs, p⟩ =>
  ⟨μ, ds, h, w, rs, post_bind p fun x h1 μ1 v H1 e1 w1 r1 p1 => by
    cases x with
    | str z =>
      simp only [RV] at r1
      subst r1
      rcases kdc_look D E z with ⟨d, u, q1, q2, _⟩ | ⟨q1, q2⟩
      · simp only [q1] at p1
        exact ⟨z, some u, rfl, rfl, q2, post_ok p1 w1 (by simp only [RV]; rfl)⟩
      · simp only [q1] at p1
        exact ⟨z, none, rfl, rfl, q2, post_ok p1 w1 (by simp only [RV]; rfl)⟩
    | _ => exact p1.elim⟩
theorem pm_kin {x : Str} {p : Pos} {e : Expr} {tbl : List (Str × D)} {m : EM} (hg : Gl X x) (k : KDc X.K X.w X.mg x tbl) (he : PE X e (tE G W m)) (hd : (x == ("__debug__" : Str)) = false := by decide) :
    PE X (.Compare e [.In] [.Name x p] pos) (tE G W (mKIn false tbl m)) := by
  obtain ⟨a, es, n, hm, D, E⟩ := k
  exact (pe_cmpR (op_in_kd D) he (pe_glob hg hm (v := .ref a) rfl hd) rfl).imp (snd_kin (neg := false) (x := x) (p := p) (e := e) D E)
theorem tm_kin {x : Str} {p : Pos} {e : Expr} {tbl : List (Str × D)} {m : EM} (hg : Gl X x) (k : KDc X.K X.w X.mg x tbl) (he : PE X e (tE G W m)) (hd : (x == ("__debug__" : Str)) = false := by decide) :
    PT X (.Compare e [.In] [.Name x p] pos) (tT G W (mTest (mKIn false tbl m))) := by
  obtain ⟨a, es, n, hm, D, E⟩ := k
  exact (pt_cmpR (op_in_kd D) he (pe_glob hg hm (v := .ref a) rfl hd) rfl).imp (snd_test (snd_kin (neg := false) (x := x) (p := p) (e := e) D E))
theorem pm_knin {x : Str} {p : Pos} {e : Expr} {tbl : List (Str × D)} {m : EM} (hg : Gl X x) (k : KDc X.K X.w X.mg x tbl) (he : PE X e (tE G W m)) (hd : (x == ("__debug__" : Str)) = false := by decide) :
    PE X (.Compare e [.NotIn] [.Name x p] pos) (tE G W (mKIn true tbl m)) := by
  obtain ⟨a, es, n, hm, D, E⟩ := k
  exact (pe_cmpR (op_notIn_kd D) he (pe_glob hg hm (v := .ref a) rfl hd) rfl).imp (snd_kin (neg := true) (x := x) (p := p) (e := e) D E)
theorem tm_knin {x : Str} {p : Pos} {e : Expr} {tbl : List (Str × D)} {m : EM} (hg : Gl X x) (k : KDc X.K X.w X.mg x tbl) (he : PE X e (tE G W m)) (hd : (x == ("__debug__" : Str)) = false := by decide) :
    PT X (.Compare e [.NotIn] [.Name x p] pos) (tT G W (mTest (mKIn true tbl m))) := by
  obtain ⟨a, es, n, hm, D, E⟩ := k
  exact (pt_cmpR (op_notIn_kd D) he (pe_glob hg hm (v := .ref a) rfl hd) rfl).imp (snd_test (snd_kin (neg := true) (x := x) (p := p) (e := e) D E))
/-- a constant of the text -/
def KG (K : PySem.W.Frag) (mg : Str → Option Value) (x : Str) (d : D) : Prop := ∃ u, mg x = some u ∧ KV K d u
theorem pm_kg {x : Str} {d : D} (hg : Gl X x) (k : KG X.K X.mg x d) (hK : X.K = G.K) (hd : (x == ("__debug__" : Str)) = false := by decide) : PE X (.Name x pos) (tE G W (mC d)) := by
  obtain ⟨u, hm, v, r, q⟩ := k
  exact pm_const (pe_glob hg hm (v := v) r hd) fun μ H => q G hK.symm μ H
/-! deep data -/
theorem pyAll_ok {f : D → Option PyData} (hf : ∀ x v d, RV G μ H x v → f x = some d → Dp G.K H v d) : ∀ {xs : List D} {vs : List V} {dd : List PyData}, RVs G μ H xs vs → pyAll f xs = some dd → DpAll G.K H vs dd
  | [], vs, dd, r, e => by
    simp only [RVs] at r
    subst r
    cases e
    exact .nil
  | x :: xs, vs, dd, r, e => by
    simp only [RVs] at r
    obtain ⟨v, ws, rfl, r1, r2⟩ := r
    simp only [pyAll] at e
    cases q : f x with
    | none => rw [q] at e; cases e
    | some d =>
      rw [q] at e
      simp only [Option.bind] at e
      cases q2 : pyAll f xs with
      | none => rw [q2] at e; cases e
      | some d2 => rw [q2] at e; cases e; exact .cons (hf _ _ _ r1 q) (pyAll_ok hf r2 q2)
theorem py_ok (w : Wd G μ h H) : ∀ (k : Nat) (x : D) (v : V) (d : PyData), RV G μ H x v → pyD h k x = some d → Dp G.K H v d
  | 0, x, v, d, r, e => by cases e
  | k + 1, .non, v, d, r, e => by cases e; simp only [RV] at r; subst r; exact .non
  | k + 1, .bl b, v, d, r, e => by cases e; simp only [RV] at r; subst r; exact .bl b
  | k + 1, .int b, v, d, r, e => by cases e; simp only [RV] at r; subst r; exact .int b
  | k + 1, .str b, v, d, r, e => by cases e; simp only [RV] at r; subst r; exact .str b
  | k + 1, .tup xs, v, d, r, e => by
    simp only [RV] at r
    obtain ⟨a, vs, rfl, s, r2⟩ := r
    simp only [pyD] at e
    cases q : pyAll (pyD h k) xs with
    | none => rw [q] at e; cases e
    | some dd => rw [q] at e; cases e; exact .tup s (pyAll_ok (fun x v d => py_ok w k x v d) r2 q)
  | k + 1, .ref n, v, d, r, e => by
    simp only [pyD] at e
    cases q0 : itemsD (.ref n) h with
    | none => rw [q0] at e; cases e
    | some xs =>
      rw [q0] at e
      simp only [Option.bind] at e
      obtain ⟨a, vs, rfl, r2, s⟩ := items_ok w r q0
      cases q : pyAll (pyD h k) xs with
      | none => rw [q] at e; cases e
      | some dd =>
        rw [q] at e; cases e
        rcases s with ⟨_, s⟩ | ⟨s, _⟩
        · exact .lst s (pyAll_ok (fun x v d => py_ok w k x v d) r2 q)
        · cases s
theorem deepE_ok {x y : D} {v u : V} {b : Bool} (w : Wd G μ h H) (rx : RV G μ H x v) (ry : RV G μ H y u) (e : deepE x y h = some b) : ∃ d d', Dp G.K H v d ∧ Dp G.K H u d' ∧ SeqAt.shaped d = true ∧ SeqAt.shaped d' = true ∧ PyData.eqv d d' = b := by
  unfold deepE at e
  cases q1 : pyD h 70 x with
  | none => simp only [q1] at e; cases e
  | some d =>
    cases q2 : pyD h 70 y with
    | none => simp only [q1, q2] at e; cases e
    | some d' =>
      simp only [q1, q2] at e
      by_cases c : (SeqAt.shaped d && SeqAt.shaped d') = true
      · rw [if_pos c] at e
        rw [Bool.and_eq_true] at c
        exact ⟨d, d', py_ok w _ _ _ _ rx q1, py_ok w _ _ _ _ ry q2, c.1, c.2, Option.some.inj e⟩
      · rw [if_neg c] at e; cases e
theorem units65 {k : Nat} {A : Around} (r : Room k A) : A.units + 65 < cLine := by have := r.un; omega
theorem op_eqA (hu : X.A.units + 64 < cLine) : OpR X (compareOp .Eq) (fun x y H Q => rEq x y H Q ∨ rEqD X.K x y H Q) := op_eq.or (op_eqD hu)
theorem op_neA (hu : X.A.units + 64 < cLine) : OpR X (compareOp .NotEq) (fun x y H Q => rNe x y H Q ∨ rNeD X.K x y H Q) := op_ne.or (op_neD hu)
theorem s_eqA : OpS G (fun x y H Q => rEq x y H Q ∨ rEqD G.K x y H Q) eqDD := fun W ds μ h H x y v u Q w rx ry p => by
  unfold eqDD eqA at p
  cases e : eqS x y with
  | some b =>
    simp only [e] at p
    obtain ⟨h1, h2⟩ := eqS_ok rx ry e
    exact .inl ⟨h1, post_ok p w (by simp only [RV]; rw [h2])⟩
  | none =>
    simp only [e] at p
    cases e2 : deepE x y h with
    | none => simp only [e2] at p; exact p.elim
    | some b =>
      simp only [e2] at p
      obtain ⟨d, d', h1, h2, h3, h4, h5⟩ := deepE_ok w rx ry e2
      exact .inr ⟨d, d', h1, h2, h3, h4, post_ok p w (by simp only [RV]; rw [h5])⟩
theorem s_neA : OpS G (fun x y H Q => rNe x y H Q ∨ rNeD G.K x y H Q) neDD := fun W ds μ h H x y v u Q w rx ry p => by
  unfold neDD eqA at p
  cases e : eqS x y with
  | some b =>
    simp only [e] at p
    obtain ⟨h1, h2⟩ := eqS_ok rx ry e
    exact .inl ⟨h1, post_ok p w (by simp only [RV]; rw [h2])⟩
  | none =>
    simp only [e] at p
    cases e2 : deepE x y h with
    | none => simp only [e2] at p; exact p.elim
    | some b =>
      simp only [e2] at p
      obtain ⟨d, d', h1, h2, h3, h4, h5⟩ := deepE_ok w rx ry e2
      exact .inr ⟨d, d', h1, h2, h3, h4, post_ok p w (by simp only [RV]; rw [h5])⟩
def rInDD (K : PySem.W.Frag) (neg : Bool) : R2 := fun x y H Q => rIn K neg x y H Q ∨ (if neg then rNotInD K else rInD K) x y H Q
theorem op_inDD (hu : X.A.units + 65 < cLine) : OpR X (compareOp .In) (rInDD X.K false) := op_in_seq.or (op_inD hu)
theorem op_ninDD (hu : X.A.units + 65 < cLine) : OpR X (compareOp .NotIn) (rInDD X.K true) := op_notIn_seq.or (op_notInD hu)
theorem deepIn_ok {x y : D} {v u : V} {b : Bool} (w : Wd G μ h H) (rx : RV G μ H x v) (ry : RV G μ H y u) (e : deepIn x y h = some b) : ∃ d dd, Dp G.K H v d ∧ Dp G.K H u (.list dd) ∧ SeqAt.shaped d = true ∧ SeqAt.shaped (.list dd) = true ∧ (dd.any fun z => PyData.eqv z d) = b := by
  unfold deepIn at e
  cases q1 : pyD h 70 x with
  | none => simp only [q1] at e; cases e
  | some d =>
    cases q2 : pyD h 70 y with
    | none => simp only [q1, q2] at e; cases e
    | some d' =>
      cases d' with
      | list dd =>
        simp only [q1, q2] at e
        by_cases c : (SeqAt.shaped d && SeqAt.shaped (.list dd)) = true
        · rw [if_pos c] at e
          rw [Bool.and_eq_true] at c
          exact ⟨d, dd, py_ok w _ _ _ _ rx q1, py_ok w _ _ _ _ ry q2, c.1, c.2, Option.some.inj e⟩
        · rw [if_neg c] at e; cases e
      | _ => simp only [q1, q2] at e; cases e
theorem s_inDD {neg : Bool} : OpS G (rInDD G.K neg) (inDD neg) := fun W ds μ h H x y v u Q w rx ry p => by
  unfold inDD inA at p
  cases e : flatIn x y h with
  | some b =>
    simp only [e] at p
    refine .inl ?_
    have key : ∀ xs, itemsD y h = some xs → (if flatD x && xs.all flatD then some (xs.any fun z => eqF z x) else none) = some b → rIn G.K neg v u H Q := fun xs q e2 => by
      by_cases hf : (flatD x && xs.all flatD) = true
      · rw [if_pos hf] at e2
        rw [Bool.and_eq_true] at hf
        obtain ⟨a, vs, rfl, r2, s⟩ := items_ok w ry q
        refine ⟨a, vs, rfl, ?_, flat_ok rx hf.1, flats_ok r2 hf.2, ?_⟩
        · rcases s with ⟨_, s⟩ | ⟨_, s⟩
          · exact .inl s
          · exact .inr s
        · rw [any_ok rx hf.1 r2 hf.2]
          have e3 := Option.some.inj e2
          rw [e3]
          exact post_ok p w (by simp only [RV])
      · rw [if_neg hf] at e2; cases e2
    unfold flatIn at e
    cases y with
    | str z => cases e
    | tup xs => exact key xs rfl e
    | ref n =>
      cases q : itemsD (.ref n) h with
      | none => simp only [q] at e; cases e
      | some xs => simp only [q] at e; exact key xs q e
    | _ => cases e
  | none =>
    simp only [e] at p
    cases e2 : deepIn x y h with
    | none => simp only [e2] at p; exact p.elim
    | some b =>
      simp only [e2] at p
      obtain ⟨d, dd, h1, h2, h3, h4, h5⟩ := deepIn_ok w rx ry e2
      refine .inr ?_
      cases neg with
      | true => exact ⟨d, dd, h1, h2, h3, h4, post_ok p w (by simp only [RV]; rw [h5]; rfl)⟩
      | false => exact ⟨d, dd, h1, h2, h3, h4, post_ok p w (by simp only [RV]; rw [h5]; rfl)⟩
theorem atF_ok {p : PyData → Bool} : ∀ {l : List PyData} {i j : Nat}, atF p i l = some j → ∃ m z, j = i + m ∧ l[m]? = some z ∧ p z = true ∧ ∀ (m' : Nat) z', m' < m → l[m']? = some z' → p z' = false
  | [], i, j, e => by cases e
  | z :: r, i, j, e => by
    simp only [atF] at e
    cases q : p z with
    | true => rw [q] at e; cases e; exact ⟨0, z, rfl, rfl, q, fun m' _ l => by omega⟩
    | false =>
      rw [q] at e
      obtain ⟨m, z2, h1, h2, h3, h4⟩ := atF_ok e
      refine ⟨m + 1, z2, by omega, by simpa using h2, h3, fun m' z' l e2 => ?_⟩
      cases m' with
      | zero => simp at e2; subst e2; exact q
      | succ m' => exact h4 m' z' (by omega) (by simpa using e2)
theorem s_index : MtSd G (rIndexD G.K) indexD := fun W ds μ h H x v xs vs Q w rx rs p => by
  unfold indexD at p
  split at p
  · rename_i n y
    obtain ⟨u, rfl, r⟩ := vs1 rs
    split at p
    · rename_i d dd q1 q2
      by_cases c : (SeqAt.shaped d && SeqAt.shaped (.list dd)) = true
      · rw [if_pos c] at p
        rw [Bool.and_eq_true] at c
        cases q3 : atF (fun z => PyData.eqv z d) 0 dd with
        | none => simp only [q3] at p; exact p.elim
        | some j =>
          simp only [q3] at p
          obtain ⟨m, z, h1, h2, h3, h4⟩ := atF_ok q3
          have h1 : j = m := by omega
          subst h1
          have rx' := rx
          simp only [RV] at rx'
          obtain ⟨a, rfl, _⟩ := rx'
          exact ⟨a, u, d, dd, j, z, rfl, rfl, py_ok w _ _ _ _ rx q2, py_ok w _ _ _ _ r q1, c.2, c.1, h2, h3, h4, post_ok p w (by simp only [RV])⟩
      · rw [if_neg c] at p; exact p.elim
    · exact p.elim
  · exact p.elim
end
end Mi
/-! what a run satisfies: a calculus over data alone -/
namespace Mi
open PySem L2
def SatE {α : Type} (r : Res α) (P : α → DH → Prop) : Prop := match r with | .ok a h => P a h | _ => False
/-- next and continue, break, return -/
def SatL (r : RS) (C B : DSt → DH → Prop) (R : D → DH → Prop) : Prop := match r with | .nx s h => C s h | .ct s h => C s h | .bk s h => B s h | .rt d h => R d h | _ => False
abbrev NoB : DSt → DH → Prop := fun _ _ => False
section
variable {α β : Type} {P : α → DH → Prop} {C B : DSt → DH → Prop} {R : D → DH → Prop} {ds : DSt} {h : DH}
theorem satE_ok {a : α} : SatE (.ok a h) P ↔ P a h := Iff.rfl
theorem SatE.of_eq {r : Res α} {a : α} (e : r = .ok a h) (p : P a h) : SatE r P := by rw [e]; exact p
theorem SatE.imp {r : Res α} {Q : α → DH → Prop} (s : SatE r P) (k : ∀ a h, P a h → Q a h) : SatE r Q := by
  cases r with
  | ok a h => exact k a h s
  | exc e h => exact s
  | no => exact s
theorem SatE.eq {r : Res α} (s : SatE r P) : ∃ a h, r = .ok a h ∧ P a h := by
  cases r with
  | ok a h => exact ⟨a, h, rfl, s⟩
  | exc e h => exact s.elim
  | no => exact s.elim
theorem SatL.imp {r : RS} {C' B' : DSt → DH → Prop} {R' : D → DH → Prop} (s : SatL r C B R) (k : ∀ a h, C a h → C' a h) (kb : ∀ a h, B a h → B' a h) (kr : ∀ a h, R a h → R' a h) : SatL r C' B' R' := by
  cases r with
  | nx a h => exact k a h s
  | ct a h => exact k a h s
  | bk a h => exact kb a h s
  | rt a h => exact kr a h s
  | exc e s' h => exact s
  | no => exact s
theorem satE_bind {Q : β → DH → Prop} {r : Res α} {f : α → DH → Res β} : SatE (r.bind f) Q ↔ SatE r fun a h => SatE (f a h) Q := by
  cases r <;> exact Iff.rfl
theorem satE_ite {c : Prop} [Decidable c] {r : Res α} : SatE (if c then r else .no) P ↔ c ∧ SatE r P := by
  by_cases q : c
  · rw [if_pos q]; exact ⟨fun x => ⟨q, x⟩, fun x => x.2⟩
  · rw [if_neg q]; exact ⟨fun x => x.elim, fun x => q x.1⟩
theorem satL_st {r : Res α} {k : α → DH → RS} : SatL (r.st ds k) C B R ↔ SatE r fun a h => SatL (k a h) C B R := by
  cases r <;> exact Iff.rfl
/-! expressions -/
variable {PD : D → DH → Prop} {PB : Bool → DH → Prop} {PL : List D → DH → Prop} {PO : Option Int → DH → Prop}
theorem w_c {d : D} : SatE (mC d ds h) PD ↔ PD d h := Iff.rfl
theorem w_var {i : Nat} : SatE (mVar i ds h) PD ↔ match ds.getD i none with | some d => PD d h | none => False := by
  unfold mVar
  cases ds.getD i none <;> exact Iff.rfl
theorem w_op {f : D → D → DH → Res D} {a b : EM} : SatE (mOp f a b ds h) PD ↔ SatE (a ds h) fun x h1 => SatE (b ds h1) fun y h2 => SatE (f x y h2) PD := by
  unfold mOp
  rw [satE_bind]
  simp only [satE_bind]
theorem w_un {f : D → DH → Res D} {a : EM} : SatE (mUn f a ds h) PD ↔ SatE (a ds h) fun x h1 => SatE (f x h1) PD := satE_bind
theorem w_nil : SatE (aNil ds h) PL ↔ PL [] h := Iff.rfl
theorem w_cons {a : EM} {r : AM} : SatE (aCons a r ds h) PL ↔ SatE (a ds h) fun x h1 => SatE (r ds h1) fun xs h2 => PL (x :: xs) h2 := by
  unfold aCons
  rw [satE_bind]
  simp only [satE_bind, satE_ok]
theorem w_tup {a : AM} : SatE (mTup a ds h) PD ↔ SatE (a ds h) fun xs h1 => xs.length ≤ 16777216 ∧ PD (.tup xs) h1 := by
  unfold mTup
  rw [satE_bind]
  simp only [satE_ite, satE_ok]
theorem w_lst {a : AM} : SatE (mLst a ds h) PD ↔ SatE (a ds h) fun xs h1 => xs.length ≤ 16777216 ∧ PD (.ref h1.length) (h1 ++ [.lst xs]) := by
  unfold mLst
  rw [satE_bind]
  simp only [satE_ite, satE_ok]
theorem w_cb {f : List D → DH → Res D} {a : AM} : SatE (mCB f a ds h) PD ↔ SatE (a ds h) fun xs h1 => SatE (f xs h1) PD := satE_bind
theorem w_test {a : EM} : SatE (mTest a ds h) PB ↔ SatE (a ds h) fun x h1 => ∃ b, x = .bl b ∧ PB b h1 := by
  unfold mTest
  rw [satE_bind]
  cases a ds h with
  | ok x h1 =>
    show SatE (match x with | .bl b => .ok b h1 | _ => .no) PB ↔ ∃ b, x = .bl b ∧ PB b h1
    cases x with
    | bl b => exact ⟨fun p => ⟨b, rfl, p⟩, fun ⟨c, e, p⟩ => by cases e; exact p⟩
    | _ => exact ⟨fun p => p.elim, fun ⟨c, e, p⟩ => by cases e⟩
  | exc e h => exact Iff.rfl
  | no => exact Iff.rfl
theorem w_bl {b : Bool} {Q : Bool → Prop} : (∃ c, D.bl b = D.bl c ∧ Q c) ↔ Q b := ⟨fun ⟨c, e, p⟩ => by cases e; exact p, fun p => ⟨b, rfl, p⟩⟩
theorem w_not {t : TM} : SatE (mNot t ds h) PB ↔ SatE (t ds h) fun b h1 => PB (!b) h1 := by
  unfold mNot; rw [satE_bind]; exact Iff.rfl
theorem w_and {t u : TM} : SatE (mAnd t u ds h) PB ↔ SatE (t ds h) fun b h1 => if b then SatE (u ds h1) PB else PB false h1 := by
  unfold mAnd
  rw [satE_bind]
  cases t ds h with
  | ok b h1 => cases b <;> exact Iff.rfl
  | exc e h => exact Iff.rfl
  | no => exact Iff.rfl
theorem w_or {t u : TM} : SatE (mOr t u ds h) PB ↔ SatE (t ds h) fun b h1 => if b then PB true h1 else SatE (u ds h1) PB := by
  unfold mOr
  rw [satE_bind]
  cases t ds h with
  | ok b h1 => cases b <;> exact Iff.rfl
  | exc e h => exact Iff.rfl
  | no => exact Iff.rfl
theorem w_notV {a : EM} : SatE (mNotV a ds h) PD ↔ SatE (a ds h) fun x h1 => ∃ b, x = .bl b ∧ PD (.bl (!b)) h1 := by
  unfold mNotV
  rw [satE_bind]
  cases a ds h with
  | ok x h1 =>
    cases x with
    | bl b => exact ⟨fun p => ⟨b, rfl, p⟩, fun ⟨c, e, p⟩ => by cases e; exact p⟩
    | _ => exact ⟨fun p => p.elim, fun ⟨c, e, p⟩ => by cases e⟩
  | exc e h => exact Iff.rfl
  | no => exact Iff.rfl
theorem w_andV {a b : EM} : SatE (mAndV a b ds h) PD ↔ SatE (a ds h) fun x h1 => ∃ c, x = .bl c ∧ if c then SatE (b ds h1) PD else PD (.bl false) h1 := by
  unfold mAndV
  rw [satE_bind]
  cases a ds h with
  | ok x h1 =>
    cases x with
    | bl c => cases c <;> exact ⟨fun p => ⟨_, rfl, p⟩, fun ⟨d, e, p⟩ => by cases e; exact p⟩
    | _ => exact ⟨fun p => p.elim, fun ⟨c, e, p⟩ => by cases e⟩
  | exc e h => exact Iff.rfl
  | no => exact Iff.rfl
theorem w_orV {a b : EM} : SatE (mOrV a b ds h) PD ↔ SatE (a ds h) fun x h1 => ∃ c, x = .bl c ∧ if c then PD (.bl true) h1 else SatE (b ds h1) PD := by
  unfold mOrV
  rw [satE_bind]
  cases a ds h with
  | ok x h1 =>
    cases x with
    | bl c => cases c <;> exact ⟨fun p => ⟨_, rfl, p⟩, fun ⟨d, e, p⟩ => by cases e; exact p⟩
    | _ => exact ⟨fun p => p.elim, fun ⟨c, e, p⟩ => by cases e⟩
  | exc e h => exact Iff.rfl
  | no => exact Iff.rfl
theorem w_if {t : TM} {a b : EM} : SatE (mIf t a b ds h) PD ↔ SatE (t ds h) fun c h1 => if c then SatE (a ds h1) PD else SatE (b ds h1) PD := by
  unfold mIf
  rw [satE_bind]
  cases t ds h with
  | ok c h1 => cases c <;> exact Iff.rfl
  | exc e h => exact Iff.rfl
  | no => exact Iff.rfl
theorem w_yes : SatE (mYes ds h) PB ↔ PB true h := Iff.rfl
theorem w_oN : SatE (oNone ds h) PO ↔ PO none h := Iff.rfl
theorem w_oS {a : EM} : SatE (oSome a ds h) PO ↔ SatE (a ds h) fun x h1 => ∃ i, x = .int i ∧ PO (some i) h1 := by
  unfold oSome
  rw [satE_bind]
  cases a ds h with
  | ok x h1 =>
    cases x with
    | int i => exact ⟨fun p => ⟨i, rfl, p⟩, fun ⟨c, e, p⟩ => by cases e; exact p⟩
    | _ => exact ⟨fun p => p.elim, fun ⟨c, e, p⟩ => by cases e⟩
  | exc e h => exact Iff.rfl
  | no => exact Iff.rfl
theorem w_ie {i : Int} {Q : Int → Prop} : (∃ j, D.int i = D.int j ∧ Q j) ↔ Q i := ⟨fun ⟨c, e, p⟩ => by cases e; exact p, fun p => ⟨i, rfl, p⟩⟩
theorem w_sl {f : D → Option Int → Option Int → DH → Res D} {a : EM} {lo hi : DSt → DH → Res (Option Int)} : SatE (mSl f a lo hi ds h) PD ↔ SatE (a ds h) fun x h1 => SatE (lo ds h1) fun l h2 => SatE (hi ds h2) fun u h3 => SatE (f x l u h3) PD := by
  unfold mSl
  rw [satE_bind]
  simp only [satE_bind]
theorem w_mt {T : String} {f : D → List D → DH → Res D} {o : EM} {a : AM} : SatE (mMt T f o a ds h) PD ↔ SatE (o ds h) fun x h1 => isTy T x h1 = true ∧ SatE (a ds h1) fun xs h2 => SatE (f x xs h2) PD := by
  unfold mMt
  rw [satE_bind]
  simp only [satE_ite, satE_bind]
theorem w_isi {T : Ty} {a : EM} : SatE (mIsi T a ds h) PD ↔ SatE (a ds h) fun x h1 => ∃ S, tyD x h1 = some S ∧ PD (.bl (subTy S T)) h1 := by
  unfold mIsi
  rw [satE_bind]
  cases a ds h with
  | ok x h1 =>
    show SatE (match tyD x h1 with | some S => .ok (.bl (subTy S T)) h1 | none => .no) PD ↔ _
    cases q : tyD x h1 with
    | none => exact ⟨fun p => p.elim, fun ⟨S, e, p⟩ => by rw [q] at e; cases e⟩
    | some S => exact ⟨fun p => ⟨S, q, p⟩, fun ⟨S', e, p⟩ => by rw [q] at e; cases e; exact p⟩
  | exc e h => exact Iff.rfl
  | no => exact Iff.rfl
theorem w_chain {f g : D → D → DH → Res D} {a b c : EM} : SatE (mChain f g a b c ds h) PD ↔ SatE (a ds h) fun x h1 => SatE (b ds h1) fun y h2 => SatE (f x y h2) fun z h3 => ∃ k, z = .bl k ∧ if k then SatE (c ds h3) fun w h4 => SatE (g y w h4) PD else PD (.bl false) h3 := by
  unfold mChain
  rw [satE_bind]
  cases a ds h with
  | ok x h1 =>
    show SatE ((b ds h1).bind _) PD ↔ SatE (b ds h1) _
    rw [satE_bind]
    cases b ds h1 with
    | ok y h2 =>
      show SatE ((f x y h2).bind _) PD ↔ SatE (f x y h2) _
      rw [satE_bind]
      cases f x y h2 with
      | ok z h3 =>
        cases z with
        | bl k =>
          cases k with
          | true =>
            show SatE ((c ds h3).bind fun w h4 => g y w h4) PD ↔ ∃ k, D.bl true = D.bl k ∧ _
            rw [satE_bind]
            exact ⟨fun p => ⟨true, rfl, p⟩, fun ⟨k, e, p⟩ => by cases e; exact p⟩
          | false => exact ⟨fun p => ⟨false, rfl, p⟩, fun ⟨k, e, p⟩ => by cases e; exact p⟩
        | _ => exact ⟨fun p => p.elim, fun ⟨c, e, p⟩ => by cases e⟩
      | exc e h => exact Iff.rfl
      | no => exact Iff.rfl
    | exc e h => exact Iff.rfl
    | no => exact Iff.rfl
  | exc e h => exact Iff.rfl
  | no => exact Iff.rfl
/-! statements -/
theorem w_next : SatL (sNext ds h) C B R ↔ C ds h := Iff.rfl
theorem w_seq {a b : SM} : SatL (sSeq a b ds h) C B R ↔ match a ds h with | .nx ds' h' => SatL (b ds' h') C B R | r => SatL r C B R := by
  unfold sSeq
  cases a ds h <;> exact Iff.rfl
/-- a sequence, where the first part neither breaks nor goes on with the next turn -/
def SatN (r : RS) (N : DSt → DH → Prop) (C B : DSt → DH → Prop) (R : D → DH → Prop) : Prop := match r with | .nx s h => N s h | .ct s h => C s h | .bk s h => B s h | .rt d h => R d h | _ => False
variable {N : DSt → DH → Prop}
theorem n_of : SatL (r : RS) C B R ↔ SatN r C C B R := by cases r <;> exact Iff.rfl
theorem n_next : SatN (sNext ds h) N C B R ↔ N ds h := Iff.rfl
theorem n_seq {a b : SM} : SatN (sSeq a b ds h) N C B R ↔ SatN (a ds h) (fun ds' h' => SatN (b ds' h') N C B R) C B R := by
  unfold sSeq
  cases a ds h <;> exact Iff.rfl
theorem n_st {r : Res α} {k : α → DH → RS} : SatN (r.st ds k) N C B R ↔ SatE r fun a h => SatN (k a h) N C B R := by
  cases r <;> exact Iff.rfl
theorem n_set {e : EM} {i : Nat} : SatN (sAsg e (gNm i) ds h) N C B R ↔ SatE (e ds h) fun d h1 => N (ds.set i (some d)) h1 := by
  unfold sAsg; rw [n_st]; exact Iff.rfl
theorem n_asg {e : EM} {g : GM} : SatN (sAsg e g ds h) N C B R ↔ SatE (e ds h) fun d h1 => match g d ds h1 with | some p => N p.1 p.2 | none => False := by
  unfold sAsg
  rw [n_st]
  cases e ds h with
  | ok d h1 =>
    show SatN (match g d ds h1 with | some p => .nx p.1 p.2 | none => .no) N C B R ↔ match g d ds h1 with | some p => N p.1 p.2 | none => False
    cases g d ds h1 <;> exact Iff.rfl
  | exc e h => exact Iff.rfl
  | no => exact Iff.rfl
theorem n_drop {e : EM} : SatN (sDrop e ds h) N C B R ↔ SatE (e ds h) fun _ h1 => N ds h1 := by unfold sDrop; rw [n_st]; exact Iff.rfl
theorem n_ret {e : EM} : SatN (sRet e ds h) N C B R ↔ SatE (e ds h) fun d h1 => R d h1 := by unfold sRet; rw [n_st]; exact Iff.rfl
theorem n_retN : SatN (sRetN ds h) N C B R ↔ R .non h := Iff.rfl
theorem n_brk : SatN (sBrk ds h) N C B R ↔ B ds h := Iff.rfl
theorem n_cnt : SatN (sCnt ds h) N C B R ↔ C ds h := Iff.rfl
theorem n_if {t : TM} {a b : SM} : SatN (sIf t a b ds h) N C B R ↔ SatE (t ds h) fun c h1 => if c then SatN (a ds h1) N C B R else SatN (b ds h1) N C B R := by
  unfold sIf
  rw [n_st]
  cases t ds h with
  | ok c h1 => cases c <;> exact Iff.rfl
  | exc e h => exact Iff.rfl
  | no => exact Iff.rfl
theorem n_aug {i : Nat} {f : D → D → DH → Res D} {e : EM} : SatN (sAug i f e ds h) N C B R ↔ match ds.getD i none with | some x => SatE (e ds h) fun y h1 => SatE (f x y h1) fun z h2 => N (ds.set i (some z)) h2 | none => False := by
  unfold sAug
  cases ds.getD i none with
  | none => exact Iff.rfl
  | some x =>
    show SatN ((e ds h).st ds _) N C B R ↔ SatE (e ds h) _
    rw [n_st]
    cases e ds h with
    | ok y h1 => show SatN ((f x y h1).st ds _) N C B R ↔ SatE (f x y h1) _; rw [n_st]; exact Iff.rfl
    | exc e h => exact Iff.rfl
    | no => exact Iff.rfl
theorem SatN.imp {r : RS} {N' C' B' : DSt → DH → Prop} {R' : D → DH → Prop} (s : SatN r N C B R) (kn : ∀ a h, N a h → N' a h) (k : ∀ a h, C a h → C' a h) (kb : ∀ a h, B a h → B' a h) (kr : ∀ a h, R a h → R' a h) : SatN r N' C' B' R' := by
  cases r with
  | nx a h => exact kn a h s
  | ct a h => exact k a h s
  | bk a h => exact kb a h s
  | rt a h => exact kr a h s
  | exc e s' h => exact s
  | no => exact s
/-- a def -/
theorem w_def {ar n : Nat} {b : SM} {xs : List D} (hl : xs.length = ar) (s : SatN (b (xs.map some ++ List.replicate (n - xs.length) none) h) (fun _ h' => PD .non h') NoB NoB PD) : SatE (runF ar n b xs h) PD := by
  unfold runF runB
  rw [if_pos hl]
  cases q : b (xs.map some ++ List.replicate (n - xs.length) none) h with
  | nx ds' h' => rw [q] at s; exact s
  | rt d h' => rw [q] at s; exact s
  | ct ds' h' => rw [q] at s; exact s.elim
  | bk ds' h' => rw [q] at s; exact s.elim
  | exc e ds' h' => rw [q] at s; exact s.elim
  | no => rw [q] at s; exact s.elim
/-! loops -/
theorem for_items {it : Itd} {g : GM} {b : SM} {xs : List D} (I : Nat → DSt → DH → Prop) (hit : ∀ i ds h, i ≤ xs.length → I i ds h → it.at_ i h = some xs[i]?)
    (turn : ∀ i x ds h, xs[i]? = some x → I i ds h → match g x ds h with | some p => SatN (b p.1 p.2) (I (i + 1)) (I (i + 1)) N R | none => False)
    (done : ∀ ds h, I xs.length ds h → N ds h) : ∀ (k i : Nat) (ds : DSt) (h : DH), k + i = xs.length + 1 → i ≤ xs.length → I i ds h → SatN (forN it g b k i ds h) N C B R := by
  intro k
  induction k with
  | zero => intro i ds h e l p; omega
  | succ k ih =>
    intro i ds h e l p
    simp only [forN]
    rw [hit i ds h l p]
    cases q : xs[i]? with
    | none =>
      have : xs.length ≤ i := List.getElem?_eq_none_iff.mp q
      have e2 : i = xs.length := by omega
      subst e2
      exact done ds h p
    | some x =>
      have hl : i < xs.length := (List.getElem?_eq_some_iff.mp q).1
      have t := turn i x ds h q p
      cases q2 : g x ds h with
      | none => rw [q2] at t; exact t.elim
      | some p2 =>
        rw [q2] at t
        have t : SatN (b p2.1 p2.2) (I (i + 1)) (I (i + 1)) N R := t
        simp only [q2]
        cases q3 : b p2.1 p2.2 with
        | nx ds' h' => rw [q3] at t; exact ih (i + 1) ds' h' (by omega) hl t
        | ct ds' h' => rw [q3] at t; exact ih (i + 1) ds' h' (by omega) hl t
        | bk ds' h' => rw [q3] at t; exact t
        | rt d h' => rw [q3] at t; exact t
        | exc e2 s h' => rw [q3] at t; exact t.elim
        | no => rw [q3] at t; exact t.elim
theorem n_for {mi : IM} {g : GM} {b : SM} : SatN (sFor mi g b ds h) N C B R ↔ SatE (mi ds h) fun it h1 => SatN (forN it g b (it.len h1 + 1) 0 ds h1) N C B R := by unfold sFor; exact n_st
theorem w_r1 {e : EM} {P : Itd → DH → Prop} : SatE (iR1 e ds h) P ↔ SatE (e ds h) fun d h1 => ∃ j, d = .int j ∧ (-(2 ^ 62) ≤ j ∧ j < 2 ^ 62) ∧ P (.rng 0 j.toNat) h1 := by
  unfold iR1
  rw [satE_bind]
  cases e ds h with
  | ok d h1 =>
    cases d with
    | int j =>
      show SatE (if -(2 ^ 62) ≤ j ∧ j < 2 ^ 62 then Res.ok (Itd.rng 0 j.toNat) h1 else .no) P ↔ _
      rw [satE_ite]
      exact ⟨fun p => ⟨j, rfl, p.1, p.2⟩, fun ⟨i, e, p1, p2⟩ => by cases e; exact ⟨p1, p2⟩⟩
    | _ => exact ⟨fun p => p.elim, fun ⟨c, e, p⟩ => by cases e⟩
  | exc e h => exact Iff.rfl
  | no => exact Iff.rfl
theorem w_r2 {e f : EM} {P : Itd → DH → Prop} : SatE (iR2 e f ds h) P ↔ SatE (e ds h) fun d h1 => SatE (f ds h1) fun u h2 => ∃ i j, d = .int i ∧ u = .int j ∧ (-(2 ^ 62) ≤ i ∧ i < 2 ^ 62 ∧ -(2 ^ 62) ≤ j ∧ j < 2 ^ 62) ∧ P (.rng i (j - i).toNat) h2 := by
  unfold iR2
  rw [satE_bind]
  cases e ds h with
  | ok d h1 =>
    show SatE ((f ds h1).bind _) P ↔ SatE (f ds h1) _
    rw [satE_bind]
    cases f ds h1 with
    | ok u h2 =>
      cases d with
      | int i =>
        cases u with
        | int j =>
          show SatE (if -(2 ^ 62) ≤ i ∧ i < 2 ^ 62 ∧ -(2 ^ 62) ≤ j ∧ j < 2 ^ 62 then Res.ok (Itd.rng i (j - i).toNat) h2 else .no) P ↔ ∃ i' j', D.int i = D.int i' ∧ D.int j = D.int j' ∧ _
          rw [satE_ite]
          exact ⟨fun p => ⟨i, j, rfl, rfl, p.1, p.2⟩, fun ⟨i, j, e1, e2, p1, p2⟩ => by cases e1; cases e2; exact ⟨p1, p2⟩⟩
        | _ => exact ⟨fun p => p.elim, fun ⟨_, _, _, e, _⟩ => by cases e⟩
      | _ => exact ⟨fun p => by cases u <;> exact p.elim, fun ⟨_, _, e, _⟩ => by cases e⟩
    | exc e h => exact Iff.rfl
    | no => exact Iff.rfl
  | exc e h => exact Iff.rfl
  | no => exact Iff.rfl
theorem w_seqT {e : EM} {P : Itd → DH → Prop} {xs : List D} (s : SatE (e ds h) fun d h1 => d = .tup xs ∧ P (.tup xs) h1) : SatE (iSeq e ds h) P := by
  unfold iSeq
  rw [satE_bind]
  exact s.imp fun d h1 ⟨e1, p⟩ => by subst e1; exact p
theorem w_seqL {e : EM} {P : Itd → DH → Prop} {n : Nat} {xs : List D} (s : SatE (e ds h) fun d h1 => d = .ref n ∧ itemsD (.ref n) h1 = some xs ∧ P (.lst n) h1) : SatE (iSeq e ds h) P := by
  unfold iSeq
  rw [satE_bind]
  refine s.imp fun d h1 ⟨e1, e2, p⟩ => ?_
  subst e1
  show SatE (match h1[n]? with | some (.lst _) => .ok (.lst n) h1 | some (.fro _) => .ok (.lst n) h1 | _ => .no) P
  simp only [itemsD] at e2
  cases q : h1[n]? with
  | none => simp only [q] at e2; cases e2
  | some o =>
    cases o with
    | lst ys => exact p
    | fro ys => exact p
    | dK ys => simp only [q] at e2; cases e2
    | ins c ys => simp only [q] at e2; cases e2
theorem at_lst {n i : Nat} {xs : List D} (e : itemsD (.ref n) h = some xs) : (Itd.lst n).at_ i h = some xs[i]? ∧ (Itd.lst n).len h = xs.length := by
  simp only [itemsD] at e
  simp only [Itd.at_, Itd.len]
  cases q : h[n]? with
  | none => simp only [q] at e; cases e
  | some o =>
    simp only [q] at e
    cases o <;> first | (cases e; exact ⟨rfl, rfl⟩) | cases e
/-- over lo, lo + 1, .. -/
theorem for_rng {lo : Int} {n : Nat} {g : GM} {b : SM} (I : Nat → DSt → DH → Prop) (start : I 0 ds h)
    (turn : ∀ i ds h, i < n → I i ds h → match g (.int (lo + (i : Nat))) ds h with | some p => SatN (b p.1 p.2) (I (i + 1)) (I (i + 1)) N R | none => False)
    (done : ∀ ds h, I n ds h → N ds h) : SatN (forN (.rng lo n) g b ((Itd.rng lo n).len h + 1) 0 ds h) N C B R := by
  have hx : ∀ i, ((List.range n).map fun i : Nat => D.int (lo + (i : Nat)))[i]? = if i < n then some (.int (lo + (i : Nat))) else none := fun i => by
    rw [List.getElem?_map]
    by_cases q : i < n
    · rw [List.getElem?_range q, if_pos q]; rfl
    · rw [if_neg q, List.getElem?_eq_none (by simpa using q)]; rfl
  have hl : ((List.range n).map fun i : Nat => D.int (lo + (i : Nat))).length = n := by simp
  refine for_items (xs := (List.range n).map fun i : Nat => D.int (lo + (i : Nat))) I (fun i ds h _ _ => ?_) (fun i x ds h e p => ?_) (fun ds h p => done ds h (by rw [hl] at p; exact p)) _ 0 ds h (by rw [hl]; rfl) (Nat.zero_le _) start
  · rw [hx]
    simp only [Itd.at_]
    by_cases q : i < n
    · rw [if_pos q, if_pos q]
    · rw [if_neg q, if_neg q]
  · rw [hx] at e
    by_cases q : i < n
    · rw [if_pos q] at e; cases e; exact turn i ds h q p
    · rw [if_neg q] at e; cases e
theorem for_tup {xs : List D} {g : GM} {b : SM} (I : Nat → DSt → DH → Prop) (start : I 0 ds h)
    (turn : ∀ i x ds h, xs[i]? = some x → I i ds h → match g x ds h with | some p => SatN (b p.1 p.2) (I (i + 1)) (I (i + 1)) N R | none => False)
    (done : ∀ ds h, I xs.length ds h → N ds h) : SatN (forN (.tup xs) g b ((Itd.tup xs).len h + 1) 0 ds h) N C B R :=
  for_items I (fun _ _ _ _ _ => rfl) turn done _ 0 ds h rfl (Nat.zero_le _) start
theorem for_lst {n : Nat} {xs : List D} {g : GM} {b : SM} (I : Nat → DSt → DH → Prop) (start : I 0 ds h) (stay : ∀ i ds h, I i ds h → itemsD (.ref n) h = some xs)
    (turn : ∀ i x ds h, xs[i]? = some x → I i ds h → match g x ds h with | some p => SatN (b p.1 p.2) (I (i + 1)) (I (i + 1)) N R | none => False)
    (done : ∀ ds h, I xs.length ds h → N ds h) : SatN (forN (.lst n) g b ((Itd.lst n).len h + 1) 0 ds h) N C B R := by
  refine for_items I (fun i ds h _ p => (at_lst (stay i ds h p)).1) turn done _ 0 ds h ?_ (Nat.zero_le _) start
  rw [(at_lst (i := 0) (stay 0 ds h start)).2]
theorem while_n {t : TM} {b : SM} (I : Nat → DSt → DH → Prop)
    (turn : ∀ m ds h, I m ds h → SatE (t ds h) fun c h1 => if c then SatN (b ds h1) (fun ds' h' => ∃ m', m' < m ∧ I m' ds' h') (fun ds' h' => ∃ m', m' < m ∧ I m' ds' h') N R else N ds h1) :
    ∀ (k m : Nat) (ds : DSt) (h : DH), m < k → I m ds h → SatN (whileN t b k ds h) N C B R := by
  intro k
  induction k with
  | zero => intro m ds h l; omega
  | succ k ih =>
    intro m ds h l p
    show SatN ((t ds h).st ds _) N C B R
    rw [n_st]
    refine (turn m ds h p).imp fun c h1 q => ?_
    cases c with
    | false => exact q
    | true =>
      have q : SatN (b ds h1) (fun ds' h' => ∃ m', m' < m ∧ I m' ds' h') (fun ds' h' => ∃ m', m' < m ∧ I m' ds' h') N R := q
      show SatN (match b ds h1 with | .nx ds' h' => whileN t b k ds' h' | .ct ds' h' => whileN t b k ds' h' | .bk ds' h' => .nx ds' h' | r => r) N C B R
      cases q3 : b ds h1 with
      | nx ds' h' => rw [q3] at q; obtain ⟨m', l', p'⟩ := q; exact ih m' ds' h' (by omega) p'
      | ct ds' h' => rw [q3] at q; obtain ⟨m', l', p'⟩ := q; exact ih m' ds' h' (by omega) p'
      | bk ds' h' => rw [q3] at q; exact q
      | rt d h' => rw [q3] at q; exact q
      | exc e2 s h' => rw [q3] at q; exact q.elim
      | no => rw [q3] at q; exact q.elim
/-! heaps -/
def Keep (h h' : DH) : Prop := ∀ (n : Nat) o, h[n]? = some o → h'[n]? = some o
theorem Keep.refl (h : DH) : Keep h h := fun _ _ e => e
theorem Keep.trans {h1 h2 h3 : DH} (a : Keep h1 h2) (b : Keep h2 h3) : Keep h1 h3 := fun n o e => b n o (a n o e)
theorem Keep.app (h l : DH) : Keep h (h ++ l) := fun n o e => by
  rw [List.getElem?_append_left (List.getElem?_eq_some_iff.mp e).1]; exact e
theorem Keep.len {h h' : DH} (k : Keep h h') : h.length ≤ h'.length := by
  cases hl : h.length with
  | zero => exact Nat.zero_le _
  | succ n =>
    have : n < h.length := by omega
    have q := k n h[n] (by simp [this])
    have := (List.getElem?_eq_some_iff.mp q).1
    omega
theorem Keep.set {h h' : DH} (k : Keep h h') {n : Nat} {o : DO} (hn : h.length ≤ n) : Keep h (h'.set n o) := fun m u e => by
  have : m < h.length := (List.getElem?_eq_some_iff.mp e).1
  rw [List.getElem?_set_ne (by omega)]
  exact k m u e
theorem Keep.items {h h' : DH} (k : Keep h h') {d : D} {xs : List D} (e : itemsD d h = some xs) : itemsD d h' = some xs := by
  cases d with
  | ref n =>
    simp only [itemsD] at e ⊢
    cases q : h[n]? with
    | none => simp only [q] at e; cases e
    | some o => rw [k n o q]; simp only [q] at e; exact e
  | _ => exact e
theorem set_same {h : DH} {n : Nat} {o u : DO} (e : h[n]? = some u) : (h.set n o)[n]? = some o := by
  rw [List.getElem?_set_self (List.getElem?_eq_some_iff.mp e).1]
theorem items_lst {h : DH} {n : Nat} {xs : List D} (e : h[n]? = some (.lst xs)) : itemsD (.ref n) h = some xs := by simp only [itemsD, e]
/-! comprehensions -/
theorem w_lc {mi : IM} {j : Nat} {t : TM} {e : EM} {vs : List Nat} : SatE (mLc mi j t e vs ds h) PD ↔ SatE (mi ds h) fun it h1 => SatE (lcN it j t e h1.length (wipeD ds vs) (it.len h1 + 1) 0 (h1 ++ [.lst []])) PD := by unfold mLc; exact satE_bind
theorem lc_items {it : Itd} {j : Nat} {t : TM} {e : EM} {n : Nat} {xs : List D} (I : Nat → List D → DH → Prop) (hit : ∀ i acc h, i ≤ xs.length → I i acc h → it.at_ i h = some xs[i]?)
    (turn : ∀ i x acc h, xs[i]? = some x → h[n]? = some (.lst acc) → I i acc h → SatE (t (ds.set j (some x)) h) fun b h1 => if b then SatE (e (ds.set j (some x)) h1) fun d h2 => h2[n]? = some (.lst acc) ∧ I (i + 1) (acc ++ [d]) (h2.set n (.lst (acc ++ [d]))) else h1[n]? = some (.lst acc) ∧ I (i + 1) acc h1)
    (done : ∀ acc h, h[n]? = some (.lst acc) → I xs.length acc h → PD (.ref n) h) (hz : xs.length ≤ 16777216) : ∀ (k i : Nat) (acc : List D) (h : DH), k + i = xs.length + 1 → i ≤ xs.length → acc.length ≤ i → h[n]? = some (.lst acc) → I i acc h → SatE (lcN it j t e n ds k i h) PD := by
  intro k
  induction k with
  | zero => intro i acc h e l; omega
  | succ k ih =>
    intro i acc h e1 l la hn p
    simp only [lcN]
    rw [hit i acc h l p]
    cases q : xs[i]? with
    | none =>
      have : xs.length ≤ i := List.getElem?_eq_none_iff.mp q
      have e2 : i = xs.length := by omega
      subst e2
      exact done acc h hn p
    | some x =>
      have hl : i < xs.length := (List.getElem?_eq_some_iff.mp q).1
      obtain ⟨b, h1, q1, t1⟩ := (turn i x acc h q hn p).eq
      simp only [q1]
      cases b with
      | false => exact ih (i + 1) acc h1 (by omega) hl (by omega) t1.1 t1.2
      | true =>
        have t1 : SatE (e (ds.set j (some x)) h1) fun d h2 => h2[n]? = some (.lst acc) ∧ I (i + 1) (acc ++ [d]) (h2.set n (.lst (acc ++ [d]))) := t1
        obtain ⟨d, h2, q2, t2, t3⟩ := t1.eq
        simp only [q2, t2]
        rw [if_pos (by omega)]
        exact ih (i + 1) (acc ++ [d]) _ (by omega) hl (by rw [List.length_append, List.length_singleton]; omega) (set_same t2) t3
/-! operations on what is known -/
section
variable {i j : Int} {a b : Str} {p q : Bool}
theorem addD_ii : addD (.int i) (.int j) h = .ok (.int (i + j)) h := rfl
theorem addD_ss : addD (.str a) (.str b) h = if a.length + b.length ≤ 16777216 then .ok (.str (a ++ b)) h else .no := rfl
theorem subD_ii : subD (.int i) (.int j) h = .ok (.int (i - j)) h := rfl
theorem mulD_ii : mulD (.int i) (.int j) h = if mulC i j then .ok (.int (i * j)) h else .no := rfl
theorem mulD_si : mulD (.str a) (.int j) h = if 0 ≤ j ∧ j ≤ 1000 ∧ a.length ≤ 10000 then .ok (.str (strRep a j.toNat)) h else .no := rfl
theorem fdivD_ii : fdivD (.int i) (.int j) h = if 0 < j ∧ j < 1073741824 then .ok (.int (i / j)) h else .no := rfl
theorem modD_ii : modD (.int i) (.int j) h = if 0 < j then .ok (.int (i % j)) h else .no := rfl
theorem powD_ii : powD (.int i) (.int j) h = if 0 ≤ j ∧ j ≤ 1000000 ∧ i.natAbs < 2 ^ 64 then .ok (.int (i ^ j.toNat)) h else .no := rfl
theorem negD_i : negD (.int i) h = .ok (.int (-i)) h := rfl
theorem eqD_ii : eqD (.int i) (.int j) h = .ok (.bl (decide (i = j))) h := rfl
theorem eqD_ss : eqD (.str a) (.str b) h = .ok (.bl (decide (a = b))) h := rfl
theorem eqD_bb : eqD (.bl p) (.bl q) h = .ok (.bl (decide (p = q))) h := rfl
theorem neD_ii : neD (.int i) (.int j) h = .ok (.bl (!decide (i = j))) h := rfl
theorem neD_ss : neD (.str a) (.str b) h = .ok (.bl (!decide (a = b))) h := rfl
theorem neD_bb : neD (.bl p) (.bl q) h = .ok (.bl (!decide (p = q))) h := rfl
theorem ltD_ii : ltD (.int i) (.int j) h = .ok (.bl (decide (i < j))) h := rfl
theorem leD_ii : leD (.int i) (.int j) h = .ok (.bl (decide (i ≤ j))) h := rfl
theorem gtD_ii : gtD (.int i) (.int j) h = .ok (.bl (decide (j < i))) h := rfl
theorem geD_ii : geD (.int i) (.int j) h = .ok (.bl (decide (j ≤ i))) h := rfl
theorem intD_i : intD [.int i] h = .ok (.int i) h := rfl
theorem absD_i : absD [.int i] h = .ok (.int (if i < 0 then -i else i)) h := rfl
theorem max2_ii : max2D [.int i, .int j] h = .ok (.int (if j > i then j else i)) h := rfl
theorem min2_ii : min2D [.int i, .int j] h = .ok (.int (if j < i then j else i)) h := rfl
theorem addI_ii : addI (.int i) (.int j) h = .ok (.int (i + j)) h := rfl
theorem subI_ii : subI (.int i) (.int j) h = .ok (.int (i - j)) h := rfl
end
theorem n_cut {a b : SM} (Mid : DSt → DH → Prop) (s : SatN (a ds h) Mid C B R) (k : ∀ ds' h', Mid ds' h' → SatN (b ds' h') N C B R) : SatN (sSeq a b ds h) N C B R := by
  rw [n_seq]
  exact s.imp k (fun _ _ x => x) (fun _ _ x => x) fun _ _ x => x
/-- all but one object is kept -/
def Fr (s : Nat) (h h' : DH) : Prop := ∀ (n : Nat) o, n ≠ s → h[n]? = some o → h'[n]? = some o
theorem Fr.refl (s : Nat) (h : DH) : Fr s h h := fun _ _ _ e => e
theorem Fr.trans {s : Nat} {h1 h2 h3 : DH} (a : Fr s h1 h2) (b : Fr s h2 h3) : Fr s h1 h3 := fun n o z e => b n o z (a n o z e)
theorem Keep.fr {h h' : DH} (k : Keep h h') (s : Nat) : Fr s h h' := fun n o _ e => k n o e
theorem Fr.set {s : Nat} {h h' : DH} (f : Fr s h h') (o : DO) : Fr s h (h'.set s o) := fun n u z e => by
  rw [List.getElem?_set_ne (Ne.symm z)]
  exact f n u z e
theorem Fr.keep {s : Nat} {h0 h h' : DH} (f : Fr s h h') (k : Keep h0 h) (l : h0.length ≤ s) : Keep h0 h' := fun n o e => by
  have : n < h0.length := (List.getElem?_eq_some_iff.mp e).1
  exact f n o (by omega) (k n o e)
theorem lt_of_get {h : DH} {n : Nat} {o : DO} (e : h[n]? = some o) : n < h.length := (List.getElem?_eq_some_iff.mp e).1
/-! lists at hand -/
theorem isTy_lst {n : Nat} {xs : List D} (e : h[n]? = some (.lst xs)) : isTy "list" (.ref n) h = true := by simp only [isTy, e]; rfl
theorem w_app {n : Nat} {zs : List D} {y : D} (e : h[n]? = some (.lst zs)) : SatE (appD (.ref n) [y] h) PD ↔ zs.length < 16777216 ∧ PD .non (h.set n (.lst (zs ++ [y]))) := by
  simp only [appD, e]
  exact satE_ite
theorem w_pop {n : Nat} {zs : List D} {y : D} (e : h[n]? = some (.lst (zs ++ [y]))) : SatE (popD (.ref n) [] h) PD ↔ PD y (h.set n (.lst zs)) := by
  simp only [popD, e]
  have : (zs ++ [y])[(zs ++ [y]).length - 1]? = some y := by simp
  simp only [this, List.dropLast_concat]
  exact Iff.rfl
theorem w_len {d : D} {zs : List D} (e : itemsD d h = some zs) : SatE (lenD [d] h) PD ↔ PD (.int zs.length) h := by
  cases d with
  | str z => cases e
  | tup xs => cases e; exact Iff.rfl
  | ref n => simp only [lenD, e]; exact Iff.rfl
  | _ => cases e
theorem w_ixs {d x : D} {zs : List D} {i : Int} (e : itemsD d h = some zs) (e2 : atI zs i = some x) : SatE (ixD d (.int i) h) PD ↔ PD x h := by
  cases d with
  | str z => cases e
  | tup xs => cases e; simp only [ixD, itemsD, e2]; exact Iff.rfl
  | ref n => simp only [ixD, e, e2]; exact Iff.rfl
  | _ => cases e
theorem atI_pos {α : Type} {xs : List α} {i : Int} {d : α} (h0 : 0 ≤ i) (h : xs[i.toNat]? = some d) : atI xs i = some d := by
  have e : (i.toNat : Int) = i := by omega
  have q := L2.atI_nat h
  rw [e] at q
  exact q
theorem get_ints {ns : List Int} {i : Nat} : (ns.map D.int)[i]? = (ns[i]?).map D.int := by simp
theorem w_add_lst {m n : Nat} {xs ys : List D} (e1 : h[m]? = some (.lst xs)) (e2 : h[n]? = some (.lst ys)) : SatE (addD (.ref m) (.ref n) h) PD ↔ xs.length + ys.length ≤ 16777216 ∧ PD (.ref h.length) (h ++ [.lst (xs ++ ys)]) := by
  simp only [addD, e1, e2]
  exact satE_ite
theorem w_ixS {z : Str} {i : Int} (h0 : 0 ≤ i) (h1 : i < z.length) (hz : z.length ≤ 16777216) (p : ∀ c : Nat, c ∈ z.cps.toList → PD (.str ⟨#[c]⟩) h) : SatE (ixD (.str z) (.int i) h) PD := by
  have hl : z.cps.toList.length = z.length := by simp [Str.length]
  have e : z.cps.toList[i.toNat]? = some (z.cps.toList[i.toNat]'(by omega)) := List.getElem?_eq_getElem (by omega)
  simp only [ixD, if_pos hz, atI_pos h0 e]
  exact p _ (List.getElem_mem _)
theorem some_ix {α : Type} {xs : List α} {i : Int} (h0 : 0 ≤ i) (h1 : i < xs.length) : ∃ d, d ∈ xs ∧ xs[i.toNat]? = some d ∧ atI xs i = some d := by
  have e : xs[i.toNat]? = some (xs[i.toNat]'(by omega)) := List.getElem?_eq_getElem (by omega)
  exact ⟨_, List.getElem_mem _, e, atI_pos h0 e⟩
theorem len_rep (z : Str) (n : Nat) : (strRep z n).length = z.length * n := by
  unfold strRep Str.length
  simp [List.length_flatten, List.sum_replicate_nat, Nat.mul_comm]
theorem len_app (a b : Str) : (a ++ b).length = a.length + b.length := by
  show (Str.append a b).length = _
  unfold Str.append Str.length
  simp
theorem len_one (c : Nat) : (⟨#[c]⟩ : Str).length = 1 := rfl
theorem w_in_tup {neg : Bool} {x : D} {xs : List D} (fx : flatD x = true) (fs : xs.all flatD = true) : SatE (inD neg x (.tup xs) h) PD ↔ PD (.bl (if neg then !(xs.any fun z => eqF z x) else xs.any fun z => eqF z x)) h := by
  simp only [inD, itemsD, fx, fs, Bool.and_self, if_true]
  exact Iff.rfl
theorem w_in_lst {neg : Bool} {x : D} {n : Nat} {xs : List D} (e : itemsD (.ref n) h = some xs) (fx : flatD x = true) (fs : xs.all flatD = true) : SatE (inD neg x (.ref n) h) PD ↔ PD (.bl (if neg then !(xs.any fun z => eqF z x) else xs.any fun z => eqF z x)) h := by
  simp only [inD, e, fx, fs, Bool.and_self, if_true]
  exact Iff.rfl
theorem w_tail {x : D} {r : List D} : SatE (slD (.tup (x :: r)) (some 1) none h) PD ↔ PD (.tup r) h := by
  have e1 : HT.sIx (x :: r).length 0 (some 1) = 1 := by
    have := HT.sIx_nat (x :: r).length 0 1
    rw [show ((1 : Nat) : Int) = 1 from rfl] at this
    rw [this, List.length_cons]; omega
  have e2 : cutD (x :: r) (some 1) none = r := by
    unfold cutD
    rw [e1, HT.sIx_none, List.drop_succ_cons, List.drop_zero, List.length_cons]
    simp
  simp only [slD, e1, e2]
  exact Iff.rfl
/-- a comprehension without a test, whose element is a function of the item -/
theorem lc_map {α : Type} {it : Itd} {j : Nat} {e : EM} {n : Nat} (as : List α) (emb g : α → D) (h1 : DH) (hn : h1[n]? = some (.lst [])) (hz : as.length ≤ 16777216) (hit : ∀ i h', Fr n h1 h' → it.at_ i h' = some ((as.map emb)[i]?))
    (el : ∀ x h', x ∈ as → Fr n h1 h' → SatE (e (ds.set j (some (emb x))) h') fun d h2 => Keep h' h2 ∧ d = g x)
    (done : ∀ h', h'[n]? = some (.lst (as.map g)) → Fr n h1 h' → PD (.ref n) h') {k : Nat} (hk : k = as.length + 1) : SatE (lcN it j mYes e n ds k 0 h1) PD := by
  refine lc_items (xs := as.map emb) (fun i acc h' => Fr n h1 h' ∧ acc = (as.take i).map g) (fun i acc h' _ p => hit i h' p.1) (fun i x acc h' ex ea p => ?_) (fun acc h' ea p => done h' (by rw [ea, p.2, List.length_map, List.take_length]) p.1) (by rw [List.length_map]; exact hz) k 0 [] h1 (by rw [List.length_map]; omega) (Nat.zero_le _) (Nat.le_refl _) hn ⟨Fr.refl _ _, by simp⟩
  rw [List.getElem?_map] at ex
  cases q : as[i]? with
  | none => rw [q] at ex; cases ex
  | some a =>
    rw [q] at ex
    cases ex
    have ha : a ∈ as := List.mem_of_getElem? q
    show SatE (e (ds.set j (some (emb a))) h') _
    refine (el a h' ha p.1).imp fun d h2 ⟨kp, ed⟩ => ⟨kp _ _ ea, (p.1.trans (kp.fr n)).set _, ?_⟩
    rw [p.2, ed, List.take_add_one, q]
    simp
/-- a condition told -/
theorem w_ifE {c : Bool} {A B : Prop} (h1 : c = true → A) (h2 : c = false → B) : if c = true then A else B := by
  cases c with
  | true => exact h1 rfl
  | false => exact h2 rfl
theorem mulC_r {i j : Int} (h : -(2 ^ 64) < j ∧ j < 2 ^ 64) : mulC i j = True := eq_true (.inr h)
theorem mulC_l {i j : Int} (h : -(2 ^ 64) < i ∧ i < 2 ^ 64) : mulC i j = True := eq_true (.inl h)
theorem w_star {a : EM} {r : AM} : SatE (aStar a r ds h) PL ↔ SatE (a ds h) fun x h1 => ∃ xs, itemsD x h1 = some xs ∧ SatE (r ds h1) fun ys h2 => PL (xs ++ ys) h2 := by
  unfold aStar
  rw [satE_bind]
  cases a ds h with
  | ok x h1 =>
    show SatE (match itemsD x h1 with | some xs => (r ds h1).bind fun ys h2 => .ok (xs ++ ys) h2 | none => .no) PL ↔ ∃ xs, itemsD x h1 = some xs ∧ _
    cases q : itemsD x h1 with
    | none => exact ⟨fun p => p.elim, fun ⟨_, e, _⟩ => by cases e⟩
    | some xs =>
      show SatE ((r ds h1).bind fun ys h2 => .ok (xs ++ ys) h2) PL ↔ _
      rw [satE_bind]
      exact ⟨fun p => ⟨xs, rfl, p⟩, fun ⟨_, e, p⟩ => by cases e; exact p⟩
  | exc e h => exact Iff.rfl
  | no => exact Iff.rfl
theorem w_kd {tbl : List (Str × D)} {e : EM} : SatE (mKD tbl e ds h) PD ↔ SatE (e ds h) fun x h1 => match x with | .str z => (match lookD tbl z with | some d => PD d h1 | none => False) | _ => False := by
  unfold mKD
  rw [satE_bind]
  cases e ds h with
  | ok x h1 =>
    cases x with
    | str z =>
      show SatE (match lookD tbl z with | some d => .ok d h1 | none => .no) PD ↔ match lookD tbl z with | some d => PD d h1 | none => False
      cases q : lookD tbl z <;> exact Iff.rfl
    | _ => exact Iff.rfl
  | exc e h => exact Iff.rfl
  | no => exact Iff.rfl
theorem w_kin {neg : Bool} {tbl : List (Str × D)} {e : EM} : SatE (mKIn neg tbl e ds h) PD ↔ SatE (e ds h) fun x h1 => match x with | .str z => PD (.bl (if neg then !(lookD tbl z).isSome else (lookD tbl z).isSome)) h1 | _ => False := by
  unfold mKIn
  rw [satE_bind]
  cases e ds h with
  | ok x h1 => cases x <;> exact Iff.rfl
  | exc e h => exact Iff.rfl
  | no => exact Iff.rfl
section
variable {i j : Int} {a b : Str} {p q : Bool}
theorem eqDD_ii : eqDD (.int i) (.int j) h = .ok (.bl (decide (i = j))) h := rfl
theorem eqDD_ss : eqDD (.str a) (.str b) h = .ok (.bl (decide (a = b))) h := rfl
theorem eqDD_bb : eqDD (.bl p) (.bl q) h = .ok (.bl (decide (p = q))) h := rfl
theorem neDD_ii : neDD (.int i) (.int j) h = .ok (.bl (!decide (i = j))) h := rfl
theorem neDD_ss : neDD (.str a) (.str b) h = .ok (.bl (!decide (a = b))) h := rfl
theorem neDD_bb : neDD (.bl p) (.bl q) h = .ok (.bl (!decide (p = q))) h := rfl
end
theorem w_ixT0 {x : D} {r : List D} : SatE (ixD (.tup (x :: r)) (.int 0) h) PD ↔ PD x h := by rw [w_ixs (zs := x :: r) rfl (x := x) (atI_pos (by decide) rfl)]
theorem w_ixT1 {x y : D} {r : List D} : SatE (ixD (.tup (x :: y :: r)) (.int 1) h) PD ↔ PD y h := by rw [w_ixs (zs := x :: y :: r) rfl (x := y) (atI_pos (by decide) rfl)]
theorem w_ixT2 {x y z : D} {r : List D} : SatE (ixD (.tup (x :: y :: z :: r)) (.int 2) h) PD ↔ PD z h := by rw [w_ixs (zs := x :: y :: z :: r) rfl (x := z) (atI_pos (by decide) rfl)]
theorem w_inT {z : Str} {xs : List D} {neg : Bool} : SatE (inD neg (.str z) (.tup xs) h) PD ↔ xs.all flatD = true ∧ PD (.bl (if neg then !(xs.any fun y => eqF y (.str z)) else xs.any fun y => eqF y (.str z))) h := by
  simp only [inD, itemsD, flatD, Bool.true_and]
  exact satE_ite
theorem eqF_ss {a b : Str} : eqF (.str a) (.str b) = decide (a = b) := rfl
theorem w_lenT {xs : List D} : SatE (lenD [.tup xs] h) PD ↔ PD (.int xs.length) h := w_len rfl
theorem pyAll_strs {k : Nat} {zs : List Str} : pyAll (pyD h (k + 1)) (zs.map D.str) = some (zs.map PyData.str) := by
  induction zs with
  | nil => rfl
  | cons z r ih => simp only [List.map_cons, pyAll, pyD, Option.bind, ih, Option.map_some]
theorem w_indexS {n : Nat} {zs : List Str} {z : Str} {j : Nat} (e : itemsD (.ref n) h = some (zs.map D.str)) (c : (SeqAt.shaped (.str z) && SeqAt.shaped (.list (zs.map .str))) = true) (hj : atF (fun y => PyData.eqv y (.str z)) 0 (zs.map .str) = some j) : SatE (indexD (.ref n) [.str z] h) PD ↔ PD (.int j) h := by
  have e1 : pyD h 70 (.ref n) = some (.list (zs.map .str)) := by
    simp only [pyD, e, Option.bind, pyAll_strs, Option.map_some]
  have e2 : pyD h 70 (.str z) = some (.str z) := rfl
  simp only [indexD, e1, e2, c, if_true, hj]
  exact Iff.rfl
theorem intD_b {b : Bool} : intD [.bl b] h = .ok (.int (if b = true then 1 else 0)) h := by cases b <;> rfl
theorem w_ixNew {xs : List D} {i : Int} : SatE (ixD (.ref h.length) (.int i) (h ++ [.lst xs])) PD ↔ match atI xs i with | some d => PD d (h ++ [.lst xs]) | none => False := by
  have e : itemsD (.ref h.length) (h ++ [DO.lst xs]) = some xs := items_lst (get_last _ _)
  simp only [ixD, e]
  cases q : atI xs i <;> exact Iff.rfl
theorem atI_0 {α : Type} {x : α} {r : List α} : atI (x :: r) 0 = some x := atI_pos (by decide) rfl
theorem atI_1 {α : Type} {x y : α} {r : List α} : atI (x :: y :: r) 1 = some y := atI_pos (by decide) rfl
theorem atI_2 {α : Type} {x y z : α} {r : List α} : atI (x :: y :: z :: r) 2 = some z := atI_pos (by decide) rfl
theorem tyS {z : Str} : tyD (.str z) h = some .str := rfl
theorem tyI {z : Int} : tyD (.int z) h = some .int := rfl
theorem tyB {z : Bool} : tyD (.bl z) h = some .bool := rfl
theorem tyT {z : List D} : tyD (.tup z) h = some .tuple := rfl
theorem w_ty {S : Ty} {Q : Ty → Prop} : (∃ T, some S = some T ∧ Q T) ↔ Q S := ⟨fun ⟨T, e, p⟩ => by cases e; exact p, fun p => ⟨S, rfl, p⟩⟩
end
end Mi
namespace GA
open PySem L2 Mi
local macro_rules | `(tactic| walk_at "w1") => `(tactic| try simp (decide := true) only [n_next, n_set, n_drop, n_ret, n_retN, n_brk, n_cnt, n_if, n_for, n_aug, w_r1, w_r2, w_c, w_var, w_op, w_un, w_nil, w_cons, w_tup, w_lst, w_cb, w_test, w_bl, w_not, w_and, w_or, w_notV, w_andV, w_orV, w_if, w_yes, w_oN, w_oS, w_ie, w_sl, w_mt, w_isi, w_chain, satE_ok, satE_ite,
  List.getD_cons_zero, List.getD_cons_succ, List.set_cons_zero, List.set_cons_succ, List.map_cons, List.map_nil, List.replicate, List.append_nil, List.cons_append, List.nil_append, List.length_cons, List.length_nil, Nat.reduceAdd, Nat.reduceSub, Nat.zero_add, Int.reduceToNat, Int.reducePow, Int.reduceNeg,
  addD_ii, subD_ii, mulD_ii, mulD_si, fdivD_ii, modD_ii, powD_ii, negD_i, eqD_ii, eqD_ss, eqD_bb, neD_ii, neD_ss, neD_bb, ltD_ii, leD_ii, gtD_ii, geD_ii, intD_i, absD_i, max2_ii, min2_ii, addI_ii, subI_ii, mulC_r, true_and, and_true, and_self, if_true, if_false, ite_true, ite_false])
local macro_rules | `(tactic| walk_at "s") => `(tactic| (rw [n_seq]; walk_at "w1"))
local macro_rules | `(tactic| walk_at "wp") => `(tactic| try simp (decide := true) only [n_next, n_seq, n_set, n_drop, n_ret, n_retN, n_brk, n_cnt, n_if, n_for, n_aug, w_r1, w_r2, w_c, w_var, w_op, w_un, w_nil, w_cons, w_tup, w_lst, w_cb, w_test, w_bl, w_not, w_and, w_or, w_notV, w_andV, w_orV, w_if, w_yes, w_oN, w_oS, w_ie, w_sl, w_mt, w_isi, w_chain, satE_ok, satE_ite,
  List.getD_cons_zero, List.getD_cons_succ, List.set_cons_zero, List.set_cons_succ, List.map_cons, List.map_nil, List.replicate, List.append_nil, List.cons_append, List.nil_append, List.length_cons, List.length_nil, Nat.reduceAdd, Nat.reduceSub, Nat.zero_add, Int.reduceToNat, Int.reducePow, Int.reduceNeg,
  addD_ii, subD_ii, mulD_ii, mulD_si, fdivD_ii, modD_ii, powD_ii, negD_i, eqD_ii, eqD_ss, eqD_bb, neD_ii, neD_ss, neD_bb, ltD_ii, leD_ii, gtD_ii, geD_ii, intD_i, absD_i, max2_ii, min2_ii, addI_ii, subI_ii, mulC_r, true_and, and_true, and_self, if_true, if_false, ite_true, ite_false])
-- slots of _law_cell: 0 script 1 k
def B_law_cell : SM :=
  (sSeq (sIf (mTest (mOp ltD (mVar 1) (mCB lenD (aCons (mVar 0) aNil))))
      (sRet (mOp ixD (mVar 0) (mVar 1)))
      sNext)
      (sRet (mC (.int 0))))
abbrev R_law_cell : List D → DH → Res D := runF 2 2 (B_law_cell)
-- slots of _law_draws: 0 script 1 first 2 count 3 cell 4 rest 5 draws 6 k 7 other 8 mixed
def B_law_draws (F_law_cell : List D → DH → Res D) : SM :=
  (sSeq (sAsg (mCB F_law_cell (aCons (mVar 0) (aCons (mVar 1) aNil))) (gNm 3))
      (sSeq (sAsg (mC (.int 0)) (gNm 4))
      (sSeq (sIf (mTest (mOp geD (mVar 3) (mOp powD (mC (.int 10)) (mC (.int 18)))))
      (sAsg (mOp subD (mVar 3) (mOp powD (mC (.int 10)) (mC (.int 18)))) (gNm 4))
      sNext)
      (sSeq (sAsg (mLst aNil) (gNm 5))
      (sSeq (sFor (iR1 (mVar 2)) (gNm 6)
      (sIf (mTest (mOp gtD (mVar 4) (mC (.int 0))))
      (sSeq (sDrop (mMt "list" appD (mVar 5) (aCons (mOp modD (mCB intD (aCons (mVar 4) aNil)) (mC (.int 1000))) aNil)))
      (sAsg (mOp fdivD (mVar 4) (mC (.int 1000))) (gNm 4)))
      (sSeq (sAsg (mCB F_law_cell (aCons (mVar 0) (aCons (mOp modD (mCB intD (aCons (mOp addD (mOp mulD (mVar 6) (mC (.int 7))) (mVar 1)) aNil)) (mC (.int 63))) aNil))) (gNm 7))
      (sSeq (sAsg (mOp modD (mCB intD (aCons (mOp addD (mOp addD (mOp mulD (mVar 3) (mC (.int 48271))) (mOp mulD (mVar 7) (mC (.int 16807)))) (mOp mulD (mOp addD (mVar 6) (mC (.int 1))) (mC (.int 69621)))) aNil)) (mC (.int 2147483647))) (gNm 8))
      (sDrop (mMt "list" appD (mVar 5) (aCons (mOp modD (mOp fdivD (mOp modD (mCB intD (aCons (mOp addD (mOp mulD (mVar 8) (mVar 8)) (mOp mulD (mVar 6) (mC (.int 40692)))) aNil)) (mC (.int 2147483399))) (mC (.int 64))) (mC (.int 1000))) aNil)))))))
      (sRet (mVar 5)))))))
abbrev R_law_draws (F_law_cell : List D → DH → Res D) : List D → DH → Res D := runF 3 9 (B_law_draws F_law_cell)
-- slots of _law_many: 0 cell
def B_law_many : SM :=
  (sSeq (sIf (mTest (mOp eqD (mOp modD (mOp fdivD (mCB intD (aCons (mVar 0) aNil)) (mC (.int 12))) (mC (.int 8))) (mC (.int 1))))
      (sRet (mOp addD (mC (.int 13)) (mOp modD (mOp fdivD (mCB intD (aCons (mVar 0) aNil)) (mC (.int 96))) (mC (.int 12)))))
      sNext)
      (sRet (mOp addD (mC (.int 1)) (mOp modD (mCB intD (aCons (mVar 0) aNil)) (mC (.int 12))))))
abbrev R_law_many : List D → DH → Res D := runF 1 1 (B_law_many)
-- slots of _law_names: 0 cell 1 many 2 letter 3 style 4 names 5 k
def B_law_names : SM :=
  (sSeq (sAsg (mOp ixD (mC (.str "abcdefghijklmnopqrstuvwxyz")) (mOp modD (mCB intD (aCons (mVar 0) aNil)) (mC (.int 26)))) (gNm 2))
      (sSeq (sAsg (mOp modD (mOp fdivD (mCB intD (aCons (mVar 0) aNil)) (mC (.int 26))) (mC (.int 4))) (gNm 3))
      (sSeq (sAsg (mLst aNil) (gNm 4))
      (sSeq (sFor (iR1 (mVar 1)) (gNm 5)
      (sIf (mTest (mOp eqD (mVar 3) (mC (.int 0))))
      (sDrop (mMt "list" appD (mVar 4) (aCons (mOp addD (mVar 2) (mOp mulD (mC (.str "0")) (mVar 5))) aNil)))
      (sIf (mTest (mOp eqD (mVar 3) (mC (.int 1))))
      (sDrop (mMt "list" appD (mVar 4) (aCons (mOp addD (mOp addD (mVar 2) (mC (.str "_"))) (mOp ixD (mC (.str "zyxw")) (mVar 5))) aNil)))
      (sIf (mTest (mOp eqD (mVar 3) (mC (.int 2))))
      (sDrop (mMt "list" appD (mVar 4) (aCons (mOp addD (mOp addD (mOp ixD (mC (.str "dcba")) (mVar 5)) (mVar 2)) (mC (.str "7"))) aNil)))
      (sDrop (mMt "list" appD (mVar 4) (aCons (mOp addD (mOp addD (mVar 2) (mC (.str "Q"))) (mOp ixD (mC (.str "DBCA")) (mVar 5))) aNil)))))))
      (sRet (mVar 4))))))
abbrev R_law_names : List D → DH → Res D := runF 2 6 (B_law_names)
-- slots of _law_term: 0 draw 1 names 2 great 3 name 4 other 5 small 6 count 7 terms
def B_law_term : SM :=
  (sSeq (sAsg (mTup (aCons (mC (.str "name")) (aCons (mOp ixD (mVar 1) (mOp modD (mOp fdivD (mCB intD (aCons (mVar 0) aNil)) (mC (.int 16))) (mCB lenD (aCons (mVar 1) aNil)))) aNil))) (gNm 3))
      (sSeq (sAsg (mTup (aCons (mC (.str "name")) (aCons (mOp ixD (mVar 1) (mOp modD (mOp fdivD (mCB intD (aCons (mVar 0) aNil)) (mC (.int 48))) (mCB lenD (aCons (mVar 1) aNil)))) aNil))) (gNm 4))
      (sSeq (sAsg (mTup (aCons (mC (.str "number")) (aCons (mOp modD (mOp fdivD (mCB intD (aCons (mVar 0) aNil)) (mC (.int 48))) (mC (.int 5))) aNil))) (gNm 5))
      (sSeq (sAsg (mOp addD (mC (.int 1)) (mOp modD (mOp fdivD (mCB intD (aCons (mVar 0) aNil)) (mC (.int 48))) (mC (.int 5)))) (gNm 6))
      (sSeq (sAsg (mLst (aCons (mVar 3) (aCons (mVar 3) (aCons (mVar 3) (aCons (mVar 3) (aCons (mVar 5) (aCons (mVar 5) (aCons (mVar 5) (aCons (mTup (aCons (mC (.str "number")) (aCons (mVar 2) aNil))) (aCons (mTup (aCons (mC (.str "plus")) (aCons (mVar 3) (aCons (mVar 5) aNil)))) aNil)))))))))) (gNm 7))
      (sSeq (sAsg (mOp addD (mVar 7) (mLst (aCons (mTup (aCons (mC (.str "minus")) (aCons (mVar 3) (aCons (mVar 4) aNil)))) (aCons (mTup (aCons (mC (.str "times")) (aCons (mVar 3) (aCons (mVar 4) aNil)))) (aCons (mTup (aCons (mC (.str "negative")) (aCons (mVar 3) aNil))) (aCons (mTup (aCons (mC (.str "quotient")) (aCons (mVar 3) (aCons (mVar 6) aNil)))) aNil)))))) (gNm 7))
      (sSeq (sAsg (mOp addD (mVar 7) (mLst (aCons (mTup (aCons (mC (.str "remainder")) (aCons (mVar 4) (aCons (mVar 6) aNil)))) (aCons (mTup (aCons (mC (.str "least")) (aCons (mVar 3) (aCons (mVar 5) aNil)))) (aCons (mTup (aCons (mC (.str "most")) (aCons (mTup (aCons (mC (.str "negative")) (aCons (mVar 3) aNil))) (aCons (mVar 4) aNil)))) aNil))))) (gNm 7))
      (sRet (mOp ixD (mVar 7) (mOp modD (mCB intD (aCons (mVar 0) aNil)) (mC (.int 16))))))))))))
abbrev R_law_term : List D → DH → Res D := runF 3 8 (B_law_term)
-- slots of _law_leaf: 0 one 1 two 2 names 3 great 4 few 5 plain 6 word
def B_law_leaf (F_law_term : List D → DH → Res D) : SM :=
  (sSeq (sIf (mTest (mOp ltD (mOp modD (mCB intD (aCons (mVar 0) aNil)) (mC (.int 8))) (mVar 5)))
      (sRet (mOp ixD (mLst (aCons (mTup (aCons (mC (.str "true")) aNil)) (aCons (mTup (aCons (mC (.str "false")) aNil)) aNil))) (mOp modD (mCB intD (aCons (mVar 1) aNil)) (mC (.int 2)))))
      sNext)
      (sSeq (sAsg (mOp ixD (mLst (aCons (mC (.str "equal")) (aCons (mC (.str "below")) (aCons (mC (.str "upto")) aNil)))) (mOp modD (mOp fdivD (mCB intD (aCons (mVar 0) aNil)) (mC (.int 8))) (mC (.int 3)))) (gNm 6))
      (sSeq (sIf (mTest (mVar 4))
      (sRet (mTup (aCons (mVar 6) (aCons (mTup (aCons (mC (.str "name")) (aCons (mOp ixD (mVar 2) (mOp modD (mOp fdivD (mCB intD (aCons (mVar 0) aNil)) (mC (.int 24))) (mCB lenD (aCons (mVar 2) aNil)))) aNil))) (aCons (mTup (aCons (mC (.str "number")) (aCons (mOp modD (mCB intD (aCons (mVar 1) aNil)) (mC (.int 3))) aNil))) aNil)))))
      sNext)
      (sRet (mTup (aCons (mVar 6) (aCons (mCB F_law_term (aCons (mOp addD (mOp fdivD (mCB intD (aCons (mVar 0) aNil)) (mC (.int 24))) (mOp mulD (mOp modD (mCB intD (aCons (mVar 1) aNil)) (mC (.int 5))) (mC (.int 48)))) (aCons (mVar 2) (aCons (mVar 3) aNil)))) (aCons (mCB F_law_term (aCons (mVar 1) (aCons (mVar 2) (aCons (mVar 3) aNil)))) aNil))))))))
abbrev R_law_leaf (F_law_term : List D → DH → Res D) : List D → DH → Res D := runF 6 7 (B_law_leaf F_law_term)
-- slots of _law_formula: 0 draws 1 names 2 great 3 few 4 plain 5 unary 6 binary 7 stack 8 k 9 choice 10 second 11 first
def B_law_formula (F_law_leaf : List D → DH → Res D) : SM :=
  (sSeq (sAsg (mLst (aCons (mC (.str "not")) (aCons (mC (.str "next")) (aCons (mC (.str "eventually")) (aCons (mC (.str "always")) (aCons (mC (.str "not")) (aCons (mC (.str "next")) aNil))))))) (gNm 5))
      (sSeq (sAsg (mLst (aCons (mC (.str "and")) (aCons (mC (.str "or")) (aCons (mC (.str "implies")) (aCons (mC (.str "same")) (aCons (mC (.str "until")) (aCons (mC (.str "release")) (aCons (mC (.str "unless")) (aCons (mC (.str "strong")) aNil))))))))) (gNm 6))
      (sSeq (sAsg (mLst aNil) (gNm 7))
      (sSeq (sFor (iR1 (mOp fdivD (mCB lenD (aCons (mVar 0) aNil)) (mC (.int 3)))) (gNm 8)
      (sSeq (sAsg (mOp modD (mCB intD (aCons (mOp ixD (mVar 0) (mOp mulD (mC (.int 3)) (mVar 8))) aNil)) (mC (.int 24))) (gNm 9))
      (sIf (mAnd (mTest (mOp geD (mVar 9) (mC (.int 16)))) (mTest (mOp gtD (mCB lenD (aCons (mVar 7) aNil)) (mC (.int 1)))))
      (sSeq (sAsg (mMt "list" popD (mVar 7) aNil) (gNm 10))
      (sSeq (sAsg (mMt "list" popD (mVar 7) aNil) (gNm 11))
      (sDrop (mMt "list" appD (mVar 7) (aCons (mTup (aCons (mOp ixD (mVar 6) (mOp subD (mVar 9) (mC (.int 16)))) (aCons (mVar 11) (aCons (mVar 10) aNil)))) aNil)))))
      (sIf (mAnd (mTest (mOp leD (mC (.int 10)) (mVar 9))) (mAnd (mTest (mOp ltD (mVar 9) (mC (.int 16)))) (mTest (mOp gtD (mCB lenD (aCons (mVar 7) aNil)) (mC (.int 0))))))
      (sSeq (sAsg (mMt "list" popD (mVar 7) aNil) (gNm 11))
      (sDrop (mMt "list" appD (mVar 7) (aCons (mTup (aCons (mOp ixD (mVar 5) (mOp subD (mVar 9) (mC (.int 10)))) (aCons (mVar 11) aNil))) aNil))))
      (sDrop (mMt "list" appD (mVar 7) (aCons (mCB F_law_leaf (aCons (mOp ixD (mVar 0) (mOp addD (mOp mulD (mC (.int 3)) (mVar 8)) (mC (.int 1)))) (aCons (mOp ixD (mVar 0) (mOp addD (mOp mulD (mC (.int 3)) (mVar 8)) (mC (.int 2)))) (aCons (mVar 1) (aCons (mVar 2) (aCons (mVar 3) (aCons (mVar 4) aNil))))))) aNil)))))))
      (sSeq (sFor (iR1 (mOp subD (mCB lenD (aCons (mVar 7) aNil)) (mC (.int 1)))) (gNm 8)
      (sSeq (sAsg (mMt "list" popD (mVar 7) aNil) (gNm 10))
      (sSeq (sAsg (mMt "list" popD (mVar 7) aNil) (gNm 11))
      (sDrop (mMt "list" appD (mVar 7) (aCons (mTup (aCons (mOp ixD (mVar 6) (mOp modD (mCB intD (aCons (mOp ixD (mVar 0) (mVar 8)) aNil)) (mC (.int 8)))) (aCons (mVar 11) (aCons (mVar 10) aNil)))) aNil))))))
      (sRet (mOp ixD (mVar 7) (mC (.int 0)))))))))
abbrev R_law_formula (F_law_leaf : List D → DH → Res D) : List D → DH → Res D := runF 5 12 (B_law_formula F_law_leaf)
-- slots of _law_some: 0 script 1 first 2 names 3 many 4 great 5 choice
def B_law_some (F_law_cell F_law_formula F_law_draws : List D → DH → Res D) : SM :=
  (sSeq (sAsg (mOp modD (mCB intD (aCons (mCB F_law_cell (aCons (mVar 0) (aCons (mOp addD (mVar 1) (mC (.int 1))) aNil))) aNil)) (mOp subD (mOp powD (mC (.int 10)) (mC (.int 18))) (mC (.int 2)))) (gNm 4))
      (sSeq (sAsg (mOp modD (mCB intD (aCons (mCB F_law_cell (aCons (mVar 0) (aCons (mOp addD (mVar 1) (mC (.int 2))) aNil))) aNil)) (mC (.int 8))) (gNm 5))
      (sRet (mCB F_law_formula (aCons (mCB F_law_draws (aCons (mVar 0) (aCons (mVar 1) (aCons (mOp mulD (mC (.int 3)) (mVar 3)) aNil)))) (aCons (mVar 2) (aCons (mVar 4) (aCons (mOp eqD (mOp fdivD (mVar 5) (mC (.int 4))) (mC (.int 0))) (aCons (mOp ixD (mLst (aCons (mC (.int 1)) (aCons (mC (.int 0)) (aCons (mC (.int 2)) (aCons (mC (.int 4)) aNil))))) (mOp modD (mVar 5) (mC (.int 4)))) aNil)))))))))
abbrev R_law_some (F_law_cell F_law_formula F_law_draws : List D → DH → Res D) : List D → DH → Res D := runF 4 6 (B_law_some F_law_cell F_law_formula F_law_draws)
/-! ### the script's cells -/
def cellOf (ns : List Int) (i : Int) : Int := ns.getD i.toNat 0
def Scr (ns : List Int) (h : DH) : Prop := h[0]? = some (.fro (ns.map D.int))
theorem Scr.keep {ns : List Int} {h h' : DH} (s : Scr ns h) (k : Keep h h') : Scr ns h' := k _ _ s
theorem cell_ok {ns : List Int} {h : DH} {i : Int} (hs : Scr ns h) (h0 : 0 ≤ i) {P : D → DH → Prop} (p : P (.int (cellOf ns i)) h) : SatE (R_law_cell [.ref 0, .int i] h) P := by
  refine w_def rfl ?_; unfold B_law_cell
  have e1 : itemsD (.ref 0) h = some (ns.map D.int) := by simp only [itemsD, show h[0]? = _ from hs]
  walk_at "wp"
  rw [w_len e1]
  walk_at "wp"
  rw [List.length_map]
  refine w_ifE (fun c => ?_) fun c => ?_
  · have c := of_decide_eq_true c
    have e : ns[i.toNat]? = some (cellOf ns i) := by
      unfold cellOf
      rw [List.getD_eq_getElem?_getD]
      have : i.toNat < ns.length := by omega
      simp [this]
    rw [w_ixs e1 (atI_pos h0 (by rw [get_ints, e]; rfl))]
    exact p
  · have c := of_decide_eq_false c
    have e : cellOf ns i = 0 := by
      unfold cellOf
      rw [List.getD_eq_getElem?_getD, List.getElem?_eq_none (by omega)]; rfl
    rw [e] at p
    exact p
def CellS (F : List D → DH → Res D) : Prop := ∀ (ns : List Int) (h : DH) (i : Int), Scr ns h → 0 ≤ i → ∀ P : D → DH → Prop, P (.int (cellOf ns i)) h → SatE (F [.ref 0, .int i] h) P
theorem cell_S : CellS R_law_cell := fun ns h i hs h0 P p => cell_ok hs h0 p
/-- a list of ints was made -/
def NewInts (h : DH) (n : Nat) (h' : DH) (xs : List Int) : Prop := Keep h h' ∧ h.length ≤ n ∧ h'[n]? = some (.lst (xs.map D.int))
def DrawsS (F : List D → DH → Res D) : Prop := ∀ (ns : List Int) (h : DH) (first count : Int), Scr ns h → 0 ≤ first → 0 ≤ count ∧ count ≤ 1000 → SatE (F [.ref 0, .int first, .int count] h) fun d h' => ∃ n xs, d = .ref n ∧ NewInts h n h' xs ∧ xs.length = count.toNat ∧ ∀ x ∈ xs, 0 ≤ x ∧ x < 1000
theorem draws_S {F : List D → DH → Res D} (cell : CellS F) : DrawsS (R_law_draws F) := fun ns h first count hs h0 hc => by
  refine w_def rfl ?_; unfold B_law_draws
  walk_at "s"
  refine cell _ _ _ hs h0 _ ?_
  generalize cellOf ns first = c
  walk_at "s"
  refine n_cut (fun ds' h' => ∃ rest : Int, ds' = [some (.ref 0), some (.int first), some (.int count), some (.int c), some (.int rest), none, none, none, none] ∧ h = h') ?_ ?_
  · walk_at "w1"
    exact w_ifE (fun _ => ⟨_, rfl⟩) fun _ => ⟨_, rfl⟩
  rintro _ _ ⟨rest, rfl, rfl⟩
  walk_at "s"
  rw [n_seq]
  walk_at "w1"
  refine ⟨by omega, ?_⟩
  refine for_rng (fun i ds' h' => ∃ (rest : Int) (o6 o7 o8 : Option D) (xs : List Int), ds' = [some (.ref 0), some (.int first), some (.int count), some (.int c), some (.int rest), some (.ref h.length), o6, o7, o8] ∧ NewInts h h.length h' xs ∧ xs.length = i ∧ ∀ x ∈ xs, 0 ≤ x ∧ x < 1000) ⟨rest, _, _, _, [], rfl, ⟨Keep.app _ _, Nat.le_refl _, get_last _ _⟩, rfl, fun x hx => nomatch hx⟩ ?_ ?_
  · rintro i _ h' hi ⟨rest, o6, o7, o8, xs, rfl, ⟨kp, kl, hn⟩, hl, hx⟩
    have fin : ∀ (y : Int), 0 ≤ y ∧ y < 1000 → xs.length < 16777216 ∧ (NewInts h h.length (h'.set h.length (.lst (xs.map D.int ++ [.int y]))) (xs ++ [y]) ∧ (xs ++ [y]).length = i + 1 ∧ ∀ x ∈ xs ++ [y], 0 ≤ x ∧ x < 1000) := fun y hy => by
      refine ⟨by omega, ⟨kp.set (Nat.le_refl _), Nat.le_refl _, by rw [List.map_append]; exact set_same hn⟩, by rw [List.length_append, hl]; rfl, fun x h => ?_⟩
      rcases List.mem_append.mp h with h | h
      · exact hx x h
      · have e : x = y := by simpa using h
        rw [e]; exact hy
    show SatN _ _ _ _ _
    simp only [gNm, List.set_cons_succ, List.set_cons_zero]
    rw [n_if]
    walk_at "w1"
    refine w_ifE (fun _ => ?_) fun _ => ?_
    · walk_at "s"
      rw [isTy_lst hn, w_app hn, List.length_map]
      obtain ⟨f1, f2⟩ := fin (rest % 1000) (by omega)
      exact ⟨rfl, f1, _, _, _, _, _, rfl, f2⟩
    · walk_at "s"
      refine cell _ _ _ (hs.keep kp) (Int.emod_nonneg _ (by decide)) _ ?_
      walk_at "s"
      rw [isTy_lst hn]
      generalize hm : (c * 48271 + cellOf ns (((0 + (i : Int)) * 7 + first) % 63) * 16807 + (0 + (i : Int) + 1) * 69621) % 2147483647 = m
      refine ⟨rfl, .inl ⟨by omega, by omega⟩, ?_⟩
      rw [w_app hn, List.length_map]
      generalize hy : (m * m + (0 + (i : Int)) * 40692) % 2147483399 / 64 % 1000 = y
      obtain ⟨f1, f2⟩ := fin y (by omega)
      exact ⟨f1, _, _, _, _, _, rfl, f2⟩
  · rintro _ h' ⟨rest, o6, o7, o8, xs, rfl, kp, hl, hx⟩
    walk_at "w1"
    exact ⟨_, xs, rfl, kp, hl, hx⟩
theorem many_S {c : Int} {h : DH} {P : D → DH → Prop} (p : ∀ m : Int, 1 ≤ m ∧ m ≤ 24 → P (.int m) h) : SatE (R_law_many [.int c] h) P := by
  refine w_def rfl ?_; unfold B_law_many
  walk_at "wp"
  exact w_ifE (fun _ => p _ (by omega)) fun _ => p _ (by omega)
/-! ### names -/
/-- all code points are such -/
def ChOk (z : Str) : Prop := ∀ c ∈ z.cps.toList, c < 1114112
theorem chOk_app {a b : Str} (h1 : ChOk a) (h2 : ChOk b) : ChOk (a ++ b) := fun c hc => by
  have e : (a ++ b).cps.toList = a.cps.toList ++ b.cps.toList := by show (Str.append a b).cps.toList = _; unfold Str.append; simp
  rw [e] at hc
  rcases List.mem_append.mp hc with q | q
  · exact h1 c q
  · exact h2 c q
theorem chOk_rep {a : Str} {n : Nat} (h1 : ChOk a) : ChOk (strRep a n) := fun c hc => by
  unfold strRep at hc
  simp only [List.mem_flatten, List.mem_replicate] at hc
  obtain ⟨l, ⟨_, rfl⟩, q⟩ := hc
  exact h1 c q
theorem chOk_one {c : Nat} (h : c < 1114112) : ChOk ⟨#[c]⟩ := fun d hd => by
  have e : d = c := by simpa using hd
  rw [e]; exact h
def NewStrs (h : DH) (n : Nat) (h' : DH) (xs : List Str) : Prop := Keep h h' ∧ h.length ≤ n ∧ h'[n]? = some (.lst (xs.map D.str))
def NamesS (F : List D → DH → Res D) : Prop := ∀ (h : DH) (c m : Int), 0 ≤ m ∧ m ≤ 4 → SatE (F [.int c, .int m] h) fun d h' => ∃ n xs, d = .ref n ∧ NewStrs h n h' xs ∧ xs.length = m.toNat ∧ ∀ z ∈ xs, ChOk z
theorem names_S : NamesS R_law_names := fun h c m hm => by
  refine w_def rfl ?_; unfold B_law_names
  walk_at "s"
  refine w_ixS (by omega) (by rw [show Str.length _ = 26 by decide +kernel]; omega) (by decide +kernel) fun l hlm => ?_
  have lok : ChOk ⟨#[l]⟩ := chOk_one ((by decide +kernel : ∀ c ∈ ("abcdefghijklmnopqrstuvwxyz" : Str).cps.toList, c < 1114112) l hlm)
  walk_at "s"
  walk_at "s"
  rw [n_seq]
  walk_at "w1"
  refine ⟨by omega, ?_⟩
  generalize c / 26 % 4 = st
  refine for_rng (fun i ds' h' => ∃ (o5 : Option D) (xs : List Str), ds' = [some (.int c), some (.int m), some (.str ⟨#[l]⟩), some (.int st), some (.ref h.length), o5] ∧ NewStrs h h.length h' xs ∧ xs.length = i ∧ ∀ z ∈ xs, ChOk z) ⟨_, [], rfl, ⟨Keep.app _ _, Nat.le_refl _, get_last _ _⟩, rfl, fun z hz => nomatch hz⟩ ?_ ?_
  · rintro i _ h' hi ⟨o5, xs, rfl, ⟨kp, kl, hn⟩, hl, hok⟩
    have fin : ∀ (y : Str), ChOk y → xs.length < 16777216 ∧ ∃ (o5 : Option D) (zs : List Str), [some (D.int c), some (.int m), some (.str ⟨#[l]⟩), some (.int st), some (.ref h.length), some (.int (0 + (i : Int)))] = [some (.int c), some (.int m), some (.str ⟨#[l]⟩), some (.int st), some (.ref h.length), o5] ∧ NewStrs h h.length (h'.set h.length (.lst (xs.map D.str ++ [.str y]))) zs ∧ zs.length = i + 1 ∧ ∀ z ∈ zs, ChOk z := fun y hy => by
      exact ⟨by omega, _, xs ++ [y], rfl, ⟨kp.set (Nat.le_refl _), Nat.le_refl _, by rw [List.map_append]; exact set_same hn⟩, by rw [List.length_append, hl]; rfl, fun z hz => by
        rcases List.mem_append.mp hz with q | q
        · exact hok z q
        · rw [List.mem_singleton] at q; rw [q]; exact hy⟩
    show SatN _ _ _ _ _
    simp only [gNm, List.set_cons_succ, List.set_cons_zero]
    have l1 : (⟨#[l]⟩ : Str).length = 1 := rfl
    walk_at "w1"
    simp only [isTy_lst hn, true_and, addD_ss, satE_ite, satE_ok, w_app hn, List.length_map]
    refine w_ifE (fun _ => ?_) fun _ => w_ifE (fun _ => ⟨by rw [l1]; decide +kernel, ?_⟩) fun _ => w_ifE (fun _ => ?_) fun _ => ⟨by rw [l1]; decide +kernel, ?_⟩
    · refine ⟨⟨by omega, by omega⟩, ?_, fin _ (chOk_app lok (chOk_rep (by decide +kernel : ∀ c ∈ ("0" : Str).cps.toList, c < 1114112)))⟩
      rw [len_rep, l1]
      have : (Str.ofString "0").length = 1 := by decide +kernel
      rw [this]; omega
    · refine w_ixS (by omega) (by rw [show Str.length _ = 4 by decide +kernel]; omega) (by decide +kernel) fun z hz4 => ?_
      simp only [addD_ss, satE_ite, satE_ok, w_app hn, List.length_map]
      exact ⟨by rw [len_app, len_one, len_one]; decide +kernel, fin _ (chOk_app (chOk_app lok (by decide +kernel : ∀ c ∈ ("_" : Str).cps.toList, c < 1114112)) (chOk_one ((by decide +kernel : ∀ c ∈ ("zyxw" : Str).cps.toList, c < 1114112) z hz4)))⟩
    · refine w_ixS (by omega) (by rw [show Str.length _ = 4 by decide +kernel]; omega) (by decide +kernel) fun z hz4 => ?_
      simp only [addD_ss, satE_ite, satE_ok, w_app hn, List.length_map]
      exact ⟨by rw [len_one, len_one]; decide, by rw [len_app, len_one, len_one]; decide +kernel, fin _ (chOk_app (chOk_app (chOk_one ((by decide +kernel : ∀ c ∈ ("dcba" : Str).cps.toList, c < 1114112) z hz4)) lok) (by decide +kernel : ∀ c ∈ ("7" : Str).cps.toList, c < 1114112))⟩
    · refine w_ixS (by omega) (by rw [show Str.length _ = 4 by decide +kernel]; omega) (by decide +kernel) fun z hz4 => ?_
      simp only [addD_ss, satE_ite, satE_ok, w_app hn, List.length_map]
      exact ⟨by rw [len_app, len_one, len_one]; decide +kernel, fin _ (chOk_app (chOk_app lok (by decide +kernel : ∀ c ∈ ("Q" : Str).cps.toList, c < 1114112)) (chOk_one ((by decide +kernel : ∀ c ∈ ("DBCA" : Str).cps.toList, c < 1114112) z hz4)))⟩
  · rintro _ h' ⟨o5, xs, rfl, kp, hl, hok⟩
    walk_at "w1"
    exact ⟨_, xs, rfl, kp, hl, hok⟩
/-! ### terms and formulas -/
inductive CmpW where | equal | below | upto
  deriving DecidableEq
inductive UnW where | not | next | eventually | always
  deriving DecidableEq
inductive BiW where | and | or | implies | same | until | release | unless | strong
  deriving DecidableEq
inductive TmW where | plus | minus | times | least | most
  deriving DecidableEq
inductive DvW where | quotient | remainder
  deriving DecidableEq
def CmpW.s : CmpW → Str
  | .equal => "equal" | .below => "below" | .upto => "upto"
def UnW.s : UnW → Str
  | .not => "not" | .next => "next" | .eventually => "eventually" | .always => "always"
def BiW.s : BiW → Str
  | .and => "and" | .or => "or" | .implies => "implies" | .same => "same" | .until => "until" | .release => "release" | .unless => "unless" | .strong => "strong"
def TmW.s : TmW → Str
  | .plus => "plus" | .minus => "minus" | .times => "times" | .least => "least" | .most => "most"
def DvW.s : DvW → Str
  | .quotient => "quotient" | .remainder => "remainder"
inductive Tm where
  | num (n : Int) | nam (x : Str) | bi (w : TmW) (t u : Tm) | neg (t : Tm) | dv (w : DvW) (t : Tm) (k : Int)
  deriving DecidableEq
inductive Fm where
  | tt | ff | cmp (w : CmpW) (t u : Tm) | un (w : UnW) (f : Fm) | bi (w : BiW) (f g : Fm)
  deriving DecidableEq
def Tm.d : Tm → D
  | .num n => .tup [.str "number", .int n]
  | .nam x => .tup [.str "name", .str x]
  | .bi w t u => .tup [.str w.s, t.d, u.d]
  | .neg t => .tup [.str "negative", t.d]
  | .dv w t k => .tup [.str w.s, t.d, .int k]
def Fm.d : Fm → D
  | .tt => .tup [.str "true"]
  | .ff => .tup [.str "false"]
  | .cmp w t u => .tup [.str w.s, t.d, u.d]
  | .un w f => .tup [.str w.s, f.d]
  | .bi w f g => .tup [.str w.s, f.d, g.d]
/-- numbers, names from a list, a depth -/
def Tm.Good (zs : List Str) : Tm → Nat → Prop
  | .num n, k => 1 ≤ k ∧ 0 ≤ n ∧ n < 10 ^ 18
  | .nam x, k => 1 ≤ k ∧ x ∈ zs
  | .bi _ t u, k + 1 => t.Good zs k ∧ u.Good zs k
  | .neg t, k + 1 => t.Good zs k
  | .dv _ t j, k + 1 => t.Good zs k ∧ 1 ≤ j ∧ j < 10 ^ 18
  | _, 0 => False
/-- the nodes of a formula, its comparisons as one each -/
def Fm.sz : Fm → Nat
  | .tt => 1
  | .ff => 1
  | .cmp _ _ _ => 1
  | .un _ f => f.sz + 1
  | .bi _ f g => f.sz + g.sz + 1
/-- all terms are good -/
def Fm.Ok (zs : List Str) : Fm → Prop
  | .cmp _ t u => t.Good zs 3 ∧ u.Good zs 3
  | .un _ f => f.Ok zs
  | .bi _ f g => f.Ok zs ∧ g.Ok zs
  | _ => True
def Fm.Good (zs : List Str) (f : Fm) (k : Nat) : Prop := f.Ok zs ∧ f.sz ≤ k
theorem Fm.Good.mono {zs : List Str} {f : Fm} {j k : Nat} (g : f.Good zs j) (l : j ≤ k) : f.Good zs k := ⟨g.1, Nat.le_trans g.2 l⟩
def TermS (F : List D → DH → Res D) : Prop := ∀ (h : DH) (draw great : Int) (m : Nat) (zs : List Str), 0 ≤ draw → 0 ≤ great ∧ great < 10 ^ 18 → h[m]? = some (.lst (zs.map D.str)) → 0 < zs.length → SatE (F [.int draw, .ref m, .int great] h) fun d h' => Keep h h' ∧ ∃ t : Tm, d = t.d ∧ t.Good zs 3
theorem str_ix {zs : List Str} {i : Int} (h0 : 0 ≤ i) (h1 : i < zs.length) : ∃ z, z ∈ zs ∧ atI (zs.map D.str) i = some (.str z) := by
  obtain ⟨z, h2, h3, h4⟩ := some_ix h0 h1
  exact ⟨z, h2, atI_pos h0 (by rw [List.getElem?_map, h3]; rfl)⟩
theorem term_S : TermS R_law_term := fun h draw great m zs hd hg hz hl => by
  refine w_def rfl ?_; unfold B_law_term
  have ez : itemsD (.ref m) h = some (zs.map D.str) := items_lst hz
  rw [n_seq]
  walk_at "w1"
  rw [w_len ez]
  walk_at "w1"
  rw [List.length_map]
  obtain ⟨x, hx, ex⟩ := str_ix (zs := zs) (i := draw / 16 % zs.length) (Int.emod_nonneg _ (by omega)) (Int.emod_lt_of_pos _ (by omega))
  refine ⟨by omega, ?_⟩
  rw [w_ixs ez ex, n_seq]
  walk_at "w1"
  rw [w_len ez]
  walk_at "w1"
  rw [List.length_map]
  obtain ⟨y, hy, ey⟩ := str_ix (zs := zs) (i := draw / 48 % zs.length) (Int.emod_nonneg _ (by omega)) (Int.emod_lt_of_pos _ (by omega))
  refine ⟨by omega, ?_⟩
  rw [w_ixs ez ey]
  walk_at "wp"
  generalize hs : draw / 48 % 5 = s
  have s0 : 0 ≤ s ∧ s < 5 := by omega
  simp only [w_add_lst (h := _ ++ [DO.lst _] ++ [DO.lst _]) (Keep.app _ _ _ _ (get_last _ _)) (get_last _ _)]
  refine ⟨by show (13 : Nat) ≤ 16777216; decide, by show (16 : Nat) ≤ 16777216; decide, ?_⟩
  refine (show ∀ (xs : List D) (H : DH), Keep h H → (∀ d ∈ xs, ∃ t : Tm, d = t.d ∧ t.Good zs 3) → xs.length = 16 → SatE (ixD (.ref H.length) (.int (draw % 16)) (H ++ [.lst xs])) (fun d h' => Keep h h' ∧ ∃ t : Tm, d = t.d ∧ t.Good zs 3) from fun xs H kp g len => ?_) _ _ ?_ ?_ rfl
  · obtain ⟨d, h1, h2, h3⟩ := some_ix (xs := xs) (i := draw % 16) (by omega) (by omega)
    rw [w_ixs (items_lst (get_last _ _)) h3]
    exact ⟨kp.trans (Keep.app _ _), g d h1⟩
  · exact (Keep.app _ _).trans ((Keep.app _ _).trans ((Keep.app _ _).trans (Keep.app _ _)))
  · have N : ∀ k, 1 ≤ k → (Tm.nam x).Good zs k := fun k hk => by cases k with | zero => omega | succ k => exact ⟨hk, hx⟩
    have N2 : ∀ k, 1 ≤ k → (Tm.nam y).Good zs k := fun k hk => by cases k with | zero => omega | succ k => exact ⟨hk, hy⟩
    have S : ∀ k, 1 ≤ k → (Tm.num s).Good zs k := fun k hk => by cases k with | zero => omega | succ k => exact ⟨hk, by omega, by omega⟩
    have Gr : (Tm.num great).Good zs 3 := ⟨by decide, hg⟩
    have j1 : 1 ≤ 1 + s := by omega
    have j2 : 1 + s < 10 ^ 18 := by omega
    intro d hd
    simp only [List.cons_append, List.nil_append, List.mem_cons, List.not_mem_nil, or_false] at hd
    rcases hd with rfl | rfl | rfl | rfl | rfl | rfl | rfl | rfl | rfl | rfl | rfl | rfl | rfl | rfl | rfl | rfl
    · exact ⟨.nam x, rfl, N _ (by decide)⟩
    · exact ⟨.nam x, rfl, N _ (by decide)⟩
    · exact ⟨.nam x, rfl, N _ (by decide)⟩
    · exact ⟨.nam x, rfl, N _ (by decide)⟩
    · exact ⟨.num s, rfl, S _ (by decide)⟩
    · exact ⟨.num s, rfl, S _ (by decide)⟩
    · exact ⟨.num s, rfl, S _ (by decide)⟩
    · exact ⟨.num great, rfl, Gr⟩
    · exact ⟨.bi .plus (.nam x) (.num s), rfl, N _ (by decide), S _ (by decide)⟩
    · exact ⟨.bi .minus (.nam x) (.nam y), rfl, N _ (by decide), N2 _ (by decide)⟩
    · exact ⟨.bi .times (.nam x) (.nam y), rfl, N _ (by decide), N2 _ (by decide)⟩
    · exact ⟨.neg (.nam x), rfl, N _ (by decide)⟩
    · exact ⟨.dv .quotient (.nam x) (1 + s), rfl, N _ (by decide), j1, j2⟩
    · exact ⟨.dv .remainder (.nam y) (1 + s), rfl, N2 _ (by decide), j1, j2⟩
    · exact ⟨.bi .least (.nam x) (.num s), rfl, N _ (by decide), S _ (by decide)⟩
    · exact ⟨.bi .most (.neg (.nam x)) (.nam y), rfl, N _ (by decide), N2 _ (by decide)⟩
def LeafS (F : List D → DH → Res D) : Prop := ∀ (h : DH) (one two great plain : Int) (few : Bool) (m : Nat) (zs : List Str), 0 ≤ one → 0 ≤ two → 0 ≤ great ∧ great < 10 ^ 18 → h[m]? = some (.lst (zs.map D.str)) → 0 < zs.length →
  SatE (F [.int one, .int two, .ref m, .int great, .bl few, .int plain] h) fun d h' => Keep h h' ∧ ∃ f : Fm, d = f.d ∧ f.Good zs 1
theorem leaf_S {F : List D → DH → Res D} (term : TermS F) : LeafS (R_law_leaf F) := fun h one two great plain few m zs h1 h2 hg hz hl => by
  refine w_def rfl ?_; unfold B_law_leaf
  have ez : itemsD (.ref m) h = some (zs.map D.str) := items_lst hz
  refine n_cut (fun ds' h' => ds' = [some (.int one), some (.int two), some (.ref m), some (.int great), some (.bl few), some (.int plain), none] ∧ h = h') ?_ ?_
  · walk_at "w1"
    refine w_ifE (fun _ => ?_) fun _ => trivial
    obtain ⟨d, q1, q2, q3⟩ := some_ix (xs := [D.tup [.str "true"], .tup [.str "false"]]) (i := two % 2) (by omega) (by show two % 2 < 2; omega)
    rw [w_ixs (items_lst (get_last _ _)) q3]
    refine ⟨Keep.app _ _, ?_⟩
    simp only [List.mem_cons, List.not_mem_nil, or_false] at q1
    rcases q1 with rfl | rfl
    · exact ⟨.tt, rfl, trivial, Nat.le_refl _⟩
    · exact ⟨.ff, rfl, trivial, Nat.le_refl _⟩
  rintro _ _ ⟨rfl, rfl⟩
  rw [n_seq]
  walk_at "w1"
  obtain ⟨d, q1, q2, q3⟩ := some_ix (xs := [D.str "equal", .str "below", .str "upto"]) (i := one / 8 % 3) (by omega) (by show one / 8 % 3 < 3; omega)
  rw [w_ixs (items_lst (get_last _ _)) q3]
  obtain ⟨w, rfl⟩ : ∃ w : CmpW, d = .str w.s := by
    simp only [List.mem_cons, List.not_mem_nil, or_false] at q1
    rcases q1 with rfl | rfl | rfl
    · exact ⟨.equal, rfl⟩
    · exact ⟨.below, rfl⟩
    · exact ⟨.upto, rfl⟩
  generalize hH : h ++ [DO.lst [D.str "equal", .str "below", .str "upto"]] = H
  have kH : Keep h H := by rw [← hH]; exact Keep.app _ _
  have hzH := kH _ _ hz
  have ezH : itemsD (.ref m) H = some (zs.map D.str) := items_lst hzH
  rw [n_seq, n_if]
  walk_at "w1"
  refine w_ifE (fun _ => ?_) fun _ => ?_
  · rw [w_len ezH]
    walk_at "w1"
    rw [List.length_map]
    obtain ⟨x, hx, ex⟩ := str_ix (zs := zs) (i := one / 24 % zs.length) (Int.emod_nonneg _ (by omega)) (Int.emod_lt_of_pos _ (by omega))
    refine ⟨by omega, ?_⟩
    rw [w_ixs ezH ex]
    walk_at "w1"
    exact ⟨kH, .cmp w (.nam x) (.num (two % 3)), rfl, ⟨⟨by decide, hx⟩, ⟨by decide, by omega, by omega⟩⟩, Nat.le_refl _⟩
  · refine (term H (one / 24 + two % 5 * 48) great m zs (by omega) hg hzH hl).imp fun d1 H1 ⟨k1, t1, e1, g1⟩ => ?_
    subst e1
    refine (term H1 two great m zs h2 hg (k1 _ _ hzH) hl).imp fun d2 H2 ⟨k2, t2, e2, g2⟩ => ?_
    subst e2
    exact ⟨kH.trans (k1.trans k2), .cmp w t1 t2, rfl, ⟨g1, g2⟩, Nat.le_refl _⟩
def szL (fs : List Fm) : Nat := (fs.map Fm.sz).sum
theorem szL_app {fs gs : List Fm} : szL (fs ++ gs) = szL fs + szL gs := by unfold szL; rw [List.map_append, List.sum_append]
theorem szL_one {f : Fm} : szL [f] = f.sz := by simp [szL]
def GoodL (zs : List Str) (fs : List Fm) (k : Nat) : Prop := (∀ f ∈ fs, f.Ok zs) ∧ szL fs ≤ k
theorem GoodL.snoc {zs : List Str} {fs : List Fm} {f : Fm} {j : Nat} (g : ∀ x ∈ fs, x.Ok zs) (q : f.Ok zs) (l : szL fs + f.sz ≤ j) : GoodL zs (fs ++ [f]) j := ⟨fun x hx => by
  rcases List.mem_append.mp hx with h | h
  · exact g x h
  · have e : x = f := by simpa using h
    rw [e]; exact q, by rw [szL_app, szL_one]; exact l⟩
theorem int_ix {xs : List Int} {i : Int} (h0 : 0 ≤ i) (h1 : i < xs.length) : ∃ z, z ∈ xs ∧ atI (xs.map D.int) i = some (.int z) := by
  obtain ⟨z, h2, h3, h4⟩ := some_ix h0 h1
  exact ⟨z, h2, atI_pos h0 (by rw [List.getElem?_map, h3]; rfl)⟩
theorem two_last {α : Type} {xs : List α} (h : 1 < xs.length) : ∃ r a b, xs = r ++ [a] ++ [b] := by
  have e1 : xs ≠ [] := fun e => by subst e; simp at h
  have e2 : xs.dropLast ≠ [] := fun e => by
    have : xs.dropLast.length = 0 := by rw [e]; rfl
    rw [List.length_dropLast] at this; omega
  exact ⟨xs.dropLast.dropLast, xs.dropLast.getLast e2, xs.getLast e1, by rw [List.dropLast_concat_getLast, List.dropLast_concat_getLast]⟩
theorem one_last {α : Type} {xs : List α} (h : 0 < xs.length) : ∃ r b, xs = r ++ [b] := by
  have e1 : xs ≠ [] := fun e => by subst e; simp at h
  exact ⟨xs.dropLast, xs.getLast e1, by rw [List.dropLast_concat_getLast]⟩
def uns : List D := [.str "not", .str "next", .str "eventually", .str "always", .str "not", .str "next"]
def bis : List D := [.str "and", .str "or", .str "implies", .str "same", .str "until", .str "release", .str "unless", .str "strong"]
theorem un_ix {i : Int} (h0 : 0 ≤ i) (h1 : i < 6) : ∃ w : UnW, atI uns i = some (.str w.s) := by
  obtain ⟨d, q1, q2, q3⟩ := some_ix (xs := uns) h0 (by show i < 6; exact h1)
  simp only [uns, List.mem_cons, List.not_mem_nil, or_false] at q1
  rcases q1 with rfl | rfl | rfl | rfl | rfl | rfl
  · exact ⟨.not, q3⟩
  · exact ⟨.next, q3⟩
  · exact ⟨.eventually, q3⟩
  · exact ⟨.always, q3⟩
  · exact ⟨.not, q3⟩
  · exact ⟨.next, q3⟩
theorem bi_ix {i : Int} (h0 : 0 ≤ i) (h1 : i < 8) : ∃ w : BiW, atI bis i = some (.str w.s) := by
  obtain ⟨d, q1, q2, q3⟩ := some_ix (xs := bis) h0 (by show i < 8; exact h1)
  simp only [bis, List.mem_cons, List.not_mem_nil, or_false] at q1
  rcases q1 with rfl | rfl | rfl | rfl | rfl | rfl | rfl | rfl
  · exact ⟨.and, q3⟩
  · exact ⟨.or, q3⟩
  · exact ⟨.implies, q3⟩
  · exact ⟨.same, q3⟩
  · exact ⟨.until, q3⟩
  · exact ⟨.release, q3⟩
  · exact ⟨.unless, q3⟩
  · exact ⟨.strong, q3⟩
def FormS (F : List D → DH → Res D) : Prop := ∀ (h : DH) (a m : Nat) (xs : List Int) (zs : List Str) (great plain : Int) (few : Bool) (n : Nat), h[a]? = some (.lst (xs.map D.int)) → xs.length = 3 * n → 1 ≤ n ∧ n ≤ 300 → (∀ x ∈ xs, 0 ≤ x ∧ x < 1000) →
  0 ≤ great ∧ great < 10 ^ 18 → h[m]? = some (.lst (zs.map D.str)) → 0 < zs.length → SatE (F [.ref a, .ref m, .int great, .bl few, .int plain] h) fun d h' => Keep h h' ∧ ∃ f : Fm, d = f.d ∧ f.Good zs (2 * n)
theorem form_S {F : List D → DH → Res D} (leaf : LeafS F) : FormS (R_law_formula F) := fun h a m xs zs great plain few n ha hl hn hx hg hz hzl => by
  refine w_def rfl ?_; unfold B_law_formula
  rw [n_seq]; walk_at "w1"; rw [n_seq]; walk_at "w1"; rw [n_seq]; walk_at "w1"; rw [n_seq]
  generalize hU : h.length = u
  generalize hH1 : h ++ [DO.lst [D.str "not", D.str "next", D.str "eventually", D.str "always", D.str "not", D.str "next"]] = H1
  have k1 : Keep h H1 := by rw [← hH1]; exact Keep.app _ _
  have hu1 : H1[u]? = some (.lst uns) := by rw [← hH1, ← hU]; exact get_last _ _
  generalize hBi : H1.length = b
  generalize hH2 : H1 ++ [DO.lst [D.str "and", D.str "or", D.str "implies", D.str "same", D.str "until", D.str "release", D.str "unless", D.str "strong"]] = H2
  have k2 : Keep H1 H2 := by rw [← hH2]; exact Keep.app _ _
  have hb2 : H2[b]? = some (.lst bis) := by rw [← hH2, ← hBi]; exact get_last _ _
  generalize hS : H2.length = s
  generalize hH3 : H2 ++ [DO.lst []] = H3
  have k3 : Keep H2 H3 := by rw [← hH3]; exact Keep.app _ _
  have hs3 : H3[s]? = some (.lst []) := by rw [← hH3, ← hS]; exact get_last _ _
  have us : u ≠ s := by have := lt_of_get hu1; have := k2.len; omega
  have bs : b ≠ s := by have := lt_of_get hb2; omega
  have as_ : a ≠ s := by have := lt_of_get ha; have := k1.len; have := k2.len; omega
  have ms : m ≠ s := by have := lt_of_get hz; have := k1.len; have := k2.len; omega
  have ls : h.length ≤ s := by have := k1.len; have := k2.len; omega
  have kh : Keep h H3 := k1.trans (k2.trans k3)
  walk_at "w1"
  rw [w_len (items_lst (kh _ _ ha))]
  walk_at "w1"
  rw [List.length_map, hl]
  have e3 : ((3 * n : Nat) : Int) / 3 = n := by omega
  rw [e3]
  refine ⟨by omega, ?_⟩
  refine for_rng (fun i ds' h' => ∃ (o8 o9 o10 o11 : Option D) (fs : List Fm), ds' = [some (.ref a), some (.ref m), some (.int great), some (.bl few), some (.int plain), some (.ref u), some (.ref b), some (.ref s), o8, o9, o10, o11] ∧
    Fr s H3 h' ∧ h'[s]? = some (.lst (fs.map Fm.d)) ∧ fs.length ≤ i ∧ (1 ≤ i → 1 ≤ fs.length) ∧ GoodL zs fs i) ⟨none, none, none, none, [], rfl, Fr.refl _ _, hs3, Nat.le_refl _, fun z => absurd z (by omega), fun f hf => (nomatch hf), Nat.le_refl _⟩ ?_ ?_
  · rintro i _ h' hi ⟨o8, o9, o10, o11, fs, rfl, fr, hsf, hfl, hf1, hfg⟩
    have ha' := fr _ _ as_ (kh _ _ ha)
    have hm' := fr _ _ ms (kh _ _ hz)
    have hu' := fr _ _ us (k3 _ _ (k2 _ _ hu1))
    have hb' := fr _ _ bs (k3 _ _ hb2)
    have push : ∀ (gs : List Fm) (f : Fm) (h1 : DH) (o9 o10 o11 : Option D), gs.length ≤ i → (∀ x ∈ gs, x.Ok zs) → f.Ok zs → szL gs + f.sz ≤ i + 1 → Fr s H3 h1 → (∃ o, h1[s]? = some o) → ∃ (o8' o9' o10' o11' : Option D) (fs : List Fm),
        [some (D.ref a), some (.ref m), some (.int great), some (.bl few), some (.int plain), some (.ref u), some (.ref b), some (.ref s), some (.int (0 + (i : Int))), o9, o10, o11] = [some (.ref a), some (.ref m), some (.int great), some (.bl few), some (.int plain), some (.ref u), some (.ref b), some (.ref s), o8', o9', o10', o11'] ∧
        Fr s H3 (h1.set s (.lst (gs.map Fm.d ++ [f.d]))) ∧ (h1.set s (.lst (gs.map Fm.d ++ [f.d])))[s]? = some (.lst (fs.map Fm.d)) ∧ fs.length ≤ i + 1 ∧ (1 ≤ i + 1 → 1 ≤ fs.length) ∧ GoodL zs fs (i + 1) := fun gs f h1 o9 o10 o11 l g q sq fr ⟨o, ho⟩ =>
      ⟨_, _, _, _, gs ++ [f], rfl, fr.set _, by rw [List.map_append]; exact set_same ho, by rw [List.length_append, List.length_singleton]; omega, fun _ => by rw [List.length_append, List.length_singleton]; omega, GoodL.snoc g q sq⟩
    show SatN _ _ _ _ _
    simp only [gNm, List.set_cons_succ, List.set_cons_zero]
    rw [n_seq]
    walk_at "w1"
    obtain ⟨x, hxm, ex⟩ := int_ix (xs := xs) (i := 3 * (0 + (i : Int))) (by omega) (by omega)
    refine ⟨.inl ⟨by decide, by decide⟩, ?_⟩
    rw [w_ixs (items_lst ha') ex]
    walk_at "w1"
    have hx0 := (hx x hxm).1
    generalize hc : x % 24 = c
    by_cases c1 : 16 ≤ c
    · rw [decide_eq_true c1, if_pos rfl, w_len (items_lst hsf)]
      walk_at "w1"
      rw [List.length_map]
      by_cases c2 : (1 : Int) < fs.length
      · rw [decide_eq_true c2, if_pos rfl]
        obtain ⟨r, f1, f2, e⟩ := two_last (xs := fs) (by omega)
        subst e
        rw [n_seq]
        walk_at "w1"
        rw [List.map_append, List.map_append] at hsf
        refine ⟨isTy_lst hsf, ?_⟩
        rw [show ([f2].map Fm.d) = [f2.d] from rfl] at hsf
        rw [w_pop hsf, n_seq]
        walk_at "w1"
        have hs1 := set_same (o := .lst (r.map Fm.d ++ [f1].map Fm.d)) hsf
        refine ⟨isTy_lst hs1, ?_⟩
        rw [show ([f1].map Fm.d) = [f1.d] from rfl] at hs1
        rw [w_pop hs1]
        walk_at "w1"
        have hs2 := set_same (o := .lst (r.map Fm.d)) hs1
        refine ⟨isTy_lst hs2, ?_⟩
        obtain ⟨w, hw⟩ := bi_ix (i := c - 16) (by omega) (by omega)
        have hbb : ((h'.set s (.lst (r.map Fm.d ++ [f1.d]))).set s (.lst (r.map Fm.d)))[b]? = some (.lst bis) := by
          rw [List.getElem?_set_ne (Ne.symm bs), List.getElem?_set_ne (Ne.symm bs)]; exact hb'
        rw [w_ixs (items_lst hbb) hw]
        rw [w_app hs2, List.length_map]
        have gl := hfg.1
        have gz := hfg.2
        rw [szL_app, szL_app, szL_one, szL_one] at gz
        refine ⟨by rw [List.length_append, List.length_append] at hfl; omega, push r (.bi w f1 f2) _ _ _ _ (by rw [List.length_append, List.length_append] at hfl; omega) (fun f hf => gl f (by simp [hf])) ⟨gl f1 (by simp), gl f2 (by simp)⟩ (by show szL r + (f1.sz + f2.sz + 1) ≤ i + 1; omega) ((fr.set _).set _) ⟨_, hs2⟩⟩
      · rw [decide_eq_false c2, if_neg (by decide), decide_eq_true (by omega : 10 ≤ c), if_pos rfl, decide_eq_false (by omega : ¬ c < 16), if_neg (by decide)]
        refine ⟨isTy_lst hsf, .inl ⟨by decide, by decide⟩, ?_⟩
        obtain ⟨y, hy, ey⟩ := int_ix (xs := xs) (i := 3 * (0 + (i : Int)) + 1) (by omega) (by omega)
        obtain ⟨z, hz2, ez⟩ := int_ix (xs := xs) (i := 3 * (0 + (i : Int)) + 2) (by omega) (by omega)
        rw [w_ixs (items_lst ha') ey]
        refine ⟨.inl ⟨by decide, by decide⟩, ?_⟩
        rw [w_ixs (items_lst ha') ez]
        refine (leaf h' y z great plain few m zs (hx y hy).1 (hx z hz2).1 hg hm' hzl).imp fun d h1 ⟨kq, f, e, g⟩ => ?_
        subst e
        rw [w_app (kq _ _ hsf), List.length_map]
        exact ⟨by omega, push fs f h1 _ _ _ hfl hfg.1 g.1 (Nat.add_le_add hfg.2 g.2) (fr.trans (kq.fr s)) ⟨_, kq _ _ hsf⟩⟩
    · rw [decide_eq_false c1, if_neg (by decide)]
      by_cases c2 : 10 ≤ c
      · rw [decide_eq_true c2, if_pos rfl, decide_eq_true (by omega : c < 16), if_pos rfl, w_len (items_lst hsf)]
        walk_at "w1"
        rw [List.length_map]
        by_cases c3 : (0 : Int) < fs.length
        · rw [decide_eq_true c3, if_pos rfl]
          obtain ⟨r, f1, e⟩ := one_last (xs := fs) (by omega)
          subst e
          rw [n_seq]
          walk_at "w1"
          rw [List.map_append, show ([f1].map Fm.d) = [f1.d] from rfl] at hsf
          refine ⟨isTy_lst hsf, ?_⟩
          rw [w_pop hsf]
          walk_at "w1"
          have hs2 := set_same (o := .lst (r.map Fm.d)) hsf
          refine ⟨isTy_lst hs2, ?_⟩
          obtain ⟨w, hw⟩ := un_ix (i := c - 10) (by omega) (by omega)
          have huu : (h'.set s (.lst (r.map Fm.d)))[u]? = some (.lst uns) := by
            rw [List.getElem?_set_ne (Ne.symm us)]; exact hu'
          rw [w_ixs (items_lst huu) hw]
          rw [w_app hs2, List.length_map]
          have gl := hfg.1
          have gz := hfg.2
          rw [szL_app, szL_one] at gz
          refine ⟨by rw [List.length_append] at hfl; omega, push r (.un w f1) _ _ _ _ (by rw [List.length_append] at hfl; omega) (fun f hf => gl f (by simp [hf])) (gl f1 (by simp)) (by show szL r + (f1.sz + 1) ≤ i + 1; omega) (fr.set _) ⟨_, hs2⟩⟩
        · rw [decide_eq_false c3, if_neg (by decide)]
          refine ⟨isTy_lst hsf, .inl ⟨by decide, by decide⟩, ?_⟩
          obtain ⟨y, hy, ey⟩ := int_ix (xs := xs) (i := 3 * (0 + (i : Int)) + 1) (by omega) (by omega)
          obtain ⟨z, hz2, ez⟩ := int_ix (xs := xs) (i := 3 * (0 + (i : Int)) + 2) (by omega) (by omega)
          rw [w_ixs (items_lst ha') ey]
          refine ⟨.inl ⟨by decide, by decide⟩, ?_⟩
          rw [w_ixs (items_lst ha') ez]
          refine (leaf h' y z great plain few m zs (hx y hy).1 (hx z hz2).1 hg hm' hzl).imp fun d h1 ⟨kq, f, e, g⟩ => ?_
          subst e
          rw [w_app (kq _ _ hsf), List.length_map]
          exact ⟨by omega, push fs f h1 _ _ _ hfl hfg.1 g.1 (Nat.add_le_add hfg.2 g.2) (fr.trans (kq.fr s)) ⟨_, kq _ _ hsf⟩⟩
      · rw [decide_eq_false c2, if_neg (by decide)]
        refine ⟨isTy_lst hsf, .inl ⟨by decide, by decide⟩, ?_⟩
        obtain ⟨y, hy, ey⟩ := int_ix (xs := xs) (i := 3 * (0 + (i : Int)) + 1) (by omega) (by omega)
        obtain ⟨z, hz2, ez⟩ := int_ix (xs := xs) (i := 3 * (0 + (i : Int)) + 2) (by omega) (by omega)
        rw [w_ixs (items_lst ha') ey]
        refine ⟨.inl ⟨by decide, by decide⟩, ?_⟩
        rw [w_ixs (items_lst ha') ez]
        refine (leaf h' y z great plain few m zs (hx y hy).1 (hx z hz2).1 hg hm' hzl).imp fun d h1 ⟨kq, f, e, g⟩ => ?_
        subst e
        rw [w_app (kq _ _ hsf), List.length_map]
        exact ⟨by omega, push fs f h1 _ _ _ hfl hfg.1 g.1 (Nat.add_le_add hfg.2 g.2) (fr.trans (kq.fr s)) ⟨_, kq _ _ hsf⟩⟩
  · rintro _ h' ⟨o8, o9, o10, o11, fs, rfl, fr, hsf, hfl, hf1, hfg⟩
    have hf1 := hf1 (by omega)
    rw [n_seq]
    walk_at "w1"
    rw [w_len (items_lst hsf)]
    walk_at "w1"
    rw [List.length_map]
    refine ⟨by omega, ?_⟩
    have eL : ((fs.length : Int) - 1).toNat = fs.length - 1 := by omega
    rw [eL]
    refine for_rng (fun i ds' h' => ∃ (o8 o9 o10 o11 : Option D) (gs : List Fm), ds' = [some (.ref a), some (.ref m), some (.int great), some (.bl few), some (.int plain), some (.ref u), some (.ref b), some (.ref s), o8, o9, o10, o11] ∧
      Fr s H3 h' ∧ h'[s]? = some (.lst (gs.map Fm.d)) ∧ gs.length + i = fs.length ∧ GoodL zs gs (n + i)) ⟨_, _, _, _, fs, rfl, fr, hsf, rfl, hfg⟩ ?_ ?_
    · rintro i _ h' hi ⟨o8, o9, o10, o11, gs, rfl, fr, hsf, hgl, hfg⟩
      have ha' := fr _ _ as_ (kh _ _ ha)
      have hb' := fr _ _ bs (k3 _ _ hb2)
      show SatN _ _ _ _ _
      simp only [gNm, List.set_cons_succ, List.set_cons_zero]
      rw [n_seq]
      walk_at "w1"
      obtain ⟨r, f1, f2, e⟩ := two_last (xs := gs) (by omega)
      subst e
      rw [List.map_append, List.map_append] at hsf
      refine ⟨isTy_lst hsf, ?_⟩
      rw [show ([f2].map Fm.d) = [f2.d] from rfl] at hsf
      rw [w_pop hsf, n_seq]
      walk_at "w1"
      have hs1 := set_same (o := .lst (r.map Fm.d ++ [f1].map Fm.d)) hsf
      refine ⟨isTy_lst hs1, ?_⟩
      rw [show ([f1].map Fm.d) = [f1.d] from rfl] at hs1
      rw [w_pop hs1]
      walk_at "w1"
      have hs2 := set_same (o := .lst (r.map Fm.d)) hs1
      refine ⟨isTy_lst hs2, ?_⟩
      have hbb : ((h'.set s (.lst (r.map Fm.d ++ [f1.d]))).set s (.lst (r.map Fm.d)))[b]? = some (.lst bis) := by
        rw [List.getElem?_set_ne (Ne.symm bs), List.getElem?_set_ne (Ne.symm bs)]; exact hb'
      have haa : ((h'.set s (.lst (r.map Fm.d ++ [f1.d]))).set s (.lst (r.map Fm.d)))[a]? = some (.lst (xs.map D.int)) := by
        rw [List.getElem?_set_ne (Ne.symm as_), List.getElem?_set_ne (Ne.symm as_)]; exact ha'
      obtain ⟨x, hxm, ex⟩ := int_ix (xs := xs) (i := 0 + (i : Int)) (by omega) (by omega)
      rw [w_ixs (items_lst haa) ex]
      walk_at "w1"
      obtain ⟨w, hw⟩ := bi_ix (i := x % 8) (by omega) (by omega)
      rw [w_ixs (items_lst hbb) hw]
      rw [w_app hs2, List.length_map]
      have gl := hfg.1
      have gz := hfg.2
      rw [szL_app, szL_app, szL_one, szL_one] at gz
      rw [List.length_append, List.length_append, List.length_singleton, List.length_singleton] at hgl
      refine ⟨by omega, _, _, _, _, r ++ [.bi w f1 f2], rfl, ((fr.set _).set _).set _, by rw [List.map_append]; exact set_same hs2, by rw [List.length_append, List.length_singleton]; omega, ?_⟩
      exact GoodL.snoc (fun f hf => gl f (by simp [hf])) ⟨gl f1 (by simp), gl f2 (by simp)⟩ (by show szL r + (f1.sz + f2.sz + 1) ≤ n + (i + 1); omega)
    · rintro _ h' ⟨o8, o9, o10, o11, gs, rfl, fr, hsf, hgl, hfg⟩
      walk_at "w1"
      match gs, hgl, hsf, hfg with
      | [f], hgl, hsf, hfg =>
        rw [w_ixs (items_lst hsf) (x := f.d) (by rfl)]
        exact ⟨fr.keep kh ls, f, rfl, hfg.1 f (by simp), by have q := hfg.2; rw [szL_one] at q; simp at hgl; omega⟩
      | [], hgl, hsf, hfg => simp at hgl; omega
      | f :: g :: r, hgl, hsf, hfg => simp at hgl; omega
def SomeS (F : List D → DH → Res D) : Prop := ∀ (ns : List Int) (h : DH) (first many : Int) (m : Nat) (zs : List Str), Scr ns h → 0 ≤ first → 1 ≤ many ∧ many ≤ 300 → h[m]? = some (.lst (zs.map D.str)) → 0 < zs.length →
  SatE (F [.ref 0, .int first, .ref m, .int many] h) fun d h' => Keep h h' ∧ ∃ f : Fm, d = f.d ∧ f.Good zs (2 * many.toNat)
theorem some_S {Fc Ff Fd : List D → DH → Res D} (cell : CellS Fc) (form : FormS Ff) (draws : DrawsS Fd) : SomeS (R_law_some Fc Ff Fd) := fun ns h first many m zs hs h0 hm hz hl => by
  refine w_def rfl ?_; unfold B_law_some
  rw [n_seq]; walk_at "w1"
  refine cell _ _ _ hs (by omega) _ ?_
  walk_at "w1"
  generalize hg : cellOf ns (first + 1) % (1000000000000000000 - 2) = g
  have hg : 0 ≤ g ∧ g < 10 ^ 18 := by omega
  rw [n_seq]; walk_at "w1"
  refine cell _ _ _ hs (by omega) _ ?_
  walk_at "w1"
  generalize hc : cellOf ns (first + 2) % 8 = c
  have hc : 0 ≤ c ∧ c < 8 := by omega
  refine ⟨.inl ⟨by decide, by decide⟩, ?_⟩
  refine (draws ns h first (3 * many) hs h0 (by omega)).imp fun d h1 ⟨n, xs, e, ⟨k1, l1, e1⟩, hxl, hx⟩ => ?_
  subst e
  obtain ⟨p, q1, q2, q3⟩ := some_ix (xs := [D.int 1, .int 0, .int 2, .int 4]) (i := c % 4) (by omega) (by show c % 4 < 4; omega)
  rw [w_ixs (items_lst (get_last _ _)) q3]
  obtain ⟨pl, rfl⟩ : ∃ pl, p = .int pl := by
    simp only [List.mem_cons, List.not_mem_nil, or_false] at q1
    rcases q1 with rfl | rfl | rfl | rfl <;> exact ⟨_, rfl⟩
  have k2 : Keep h1 (h1 ++ [DO.lst [D.int 1, .int 0, .int 2, .int 4]]) := Keep.app _ _
  refine (form _ n m xs zs g pl (decide (c / 4 = 0)) many.toNat (k2 _ _ e1) (by omega) (by omega) hx hg (k2 _ _ (k1 _ _ hz)) hl).imp fun d h2 ⟨k3, r⟩ => ⟨k1.trans (k2.trans k3), r⟩
end GA
namespace GA
open PySem L2 Mi
local macro_rules | `(tactic| walk_at "w1") => `(tactic| try simp (decide := true) only [n_next, n_set, n_drop, n_ret, n_retN, n_brk, n_cnt, n_if, n_for, n_aug, w_r1, w_r2, w_c, w_var, w_op, w_un, w_nil, w_cons, w_tup, w_lst, w_cb, w_test, w_bl, w_not, w_and, w_or, w_notV, w_andV, w_orV, w_if, w_yes, w_oN, w_oS, w_ie, w_sl, w_mt, w_isi, w_chain, satE_ok, satE_ite,
  List.getD_cons_zero, List.getD_cons_succ, List.set_cons_zero, List.set_cons_succ, List.map_cons, List.map_nil, List.replicate, List.append_nil, List.cons_append, List.nil_append, List.length_cons, List.length_nil, Nat.reduceAdd, Nat.reduceSub, Nat.zero_add, Int.reduceToNat, Int.reducePow, Int.reduceNeg,
  addD_ii, subD_ii, mulD_ii, mulD_si, fdivD_ii, modD_ii, powD_ii, negD_i, eqD_ii, eqD_ss, eqD_bb, neD_ii, neD_ss, neD_bb, ltD_ii, leD_ii, gtD_ii, geD_ii, intD_i, absD_i, max2_ii, min2_ii, addI_ii, subI_ii, mulC_r, true_and, and_true, and_self, if_true, if_false, ite_true, ite_false])
local macro_rules | `(tactic| walk_at "s") => `(tactic| (rw [n_seq]; walk_at "w1"))
local macro_rules | `(tactic| walk_at "wp") => `(tactic| try simp (decide := true) only [n_next, n_seq, n_set, n_drop, n_ret, n_retN, n_brk, n_cnt, n_if, n_for, n_aug, w_r1, w_r2, w_c, w_var, w_op, w_un, w_nil, w_cons, w_tup, w_lst, w_cb, w_test, w_bl, w_not, w_and, w_or, w_notV, w_andV, w_orV, w_if, w_yes, w_oN, w_oS, w_ie, w_sl, w_mt, w_isi, w_chain, satE_ok, satE_ite,
  List.getD_cons_zero, List.getD_cons_succ, List.set_cons_zero, List.set_cons_succ, List.map_cons, List.map_nil, List.replicate, List.append_nil, List.cons_append, List.nil_append, List.length_cons, List.length_nil, Nat.reduceAdd, Nat.reduceSub, Nat.zero_add, Int.reduceToNat, Int.reducePow, Int.reduceNeg,
  addD_ii, subD_ii, mulD_ii, mulD_si, fdivD_ii, modD_ii, powD_ii, negD_i, eqD_ii, eqD_ss, eqD_bb, neD_ii, neD_ss, neD_bb, ltD_ii, leD_ii, gtD_ii, geD_ii, intD_i, absD_i, max2_ii, min2_ii, addI_ii, subI_ii, mulC_r, true_and, and_true, and_self, if_true, if_false, ite_true, ite_false])
local macro_rules | `(tactic| walk_at "wq") => `(tactic| try simp (decide := true) only [tyS, tyI, tyB, tyT, w_ty, subTy, eq_self, Bool.or_self, intD_b, w_ixNew, atI_0, atI_1, atI_2, lookD, Option.isSome_some, Option.isSome_none, w_ixT0, w_ixT1, w_ixT2, w_inT, w_lenT, w_kd, w_kin, w_star, List.any_cons, List.any_nil, List.all_cons, List.all_nil, eqF_ss, decide_true, decide_false, Bool.or_false, Bool.or_true, Bool.true_or, Bool.false_or, Bool.and_true, Bool.true_and, Bool.and_false, Bool.false_and, Bool.not_true, Bool.not_false, Bool.false_eq_true, Bool.true_eq_false, flatD, eqDD_ii, eqDD_ss, eqDD_bb, neDD_ii, neDD_ss, neDD_bb, n_next, n_seq, n_set, n_drop, n_ret, n_retN, n_brk, n_cnt, n_if, n_for, n_aug, w_r1, w_r2, w_c, w_var, w_op, w_un, w_nil, w_cons, w_tup, w_lst, w_cb, w_test, w_bl, w_not, w_and, w_or, w_notV, w_andV, w_orV, w_if, w_yes, w_oN, w_oS, w_ie, w_sl, w_mt, w_isi, w_chain, satE_ok, satE_ite,
  List.getD_cons_zero, List.getD_cons_succ, List.set_cons_zero, List.set_cons_succ, List.map_cons, List.map_nil, List.replicate, List.append_nil, List.cons_append, List.nil_append, List.length_cons, List.length_nil, Nat.reduceAdd, Nat.reduceSub, Nat.zero_add, Int.reduceToNat, Int.reducePow, Int.reduceNeg,
  addD_ii, subD_ii, mulD_ii, mulD_si, fdivD_ii, modD_ii, powD_ii, negD_i, eqD_ii, eqD_ss, eqD_bb, neD_ii, neD_ss, neD_bb, ltD_ii, leD_ii, gtD_ii, geD_ii, intD_i, absD_i, max2_ii, min2_ii, addI_ii, subI_ii, mulC_r, true_and, and_true, and_self, if_true, if_false, ite_true, ite_false])
def k_COMPARISONS : List D := [("equal" : Str), ("below" : Str), ("upto" : Str)].map D.str
def k_DUALS : List (Str × D) := [("and", .str "or"), ("or", .str "and"), ("next", .str "next"), ("eventually", .str "always"), ("always", .str "eventually"), ("until", .str "release"), ("release", .str "until"), ("unless", .str "strong"), ("strong", .str "unless")]
-- slots of positive: 0 formula 1 word 2 part
def Bpositive (Fnegated Fpositive : List D → DH → Res D) : SM :=
  (sSeq (sAsg (mOp ixD (mVar 0) (mC (.int 0))) (gNm 1))
      (sSeq (sIf (mTest (mOp (inD false) (mVar 1) (mC (.tup k_COMPARISONS))))
      (sRet (mVar 0))
      sNext)
      (sSeq (sIf (mTest (mOp eqD (mVar 1) (mC (.str "not"))))
      (sRet (mCB Fnegated (aCons (mOp ixD (mVar 0) (mC (.int 1))) aNil)))
      sNext)
      (sSeq (sIf (mTest (mOp eqD (mVar 1) (mC (.str "implies"))))
      (sRet (mTup (aCons (mC (.str "or")) (aCons (mCB Fnegated (aCons (mOp ixD (mVar 0) (mC (.int 1))) aNil)) (aCons (mCB Fpositive (aCons (mOp ixD (mVar 0) (mC (.int 2))) aNil)) aNil)))))
      sNext)
      (sRet (mTup (aCons (mVar 1) (aStar (mLc (iSeq (mSl slD (mVar 0) (oSome (mC (.int 1))) oNone)) 2 mYes (mCB Fpositive (aCons (mVar 2) aNil)) [2]) aNil))))))))
abbrev Rpositive (Fnegated Fpositive : List D → DH → Res D) : List D → DH → Res D := runF 1 3 (Bpositive Fnegated Fpositive)
-- slots of negated: 0 formula 1 word 2 part
def Bnegated (Fnegated_comparison Fpositive Fnegated : List D → DH → Res D) : SM :=
  (sSeq (sAsg (mOp ixD (mVar 0) (mC (.int 0))) (gNm 1))
      (sSeq (sIf (mTest (mOp (inD false) (mVar 1) (mC (.tup k_COMPARISONS))))
      (sRet (mCB Fnegated_comparison (aCons (mVar 0) aNil)))
      sNext)
      (sSeq (sIf (mTest (mOp eqD (mVar 1) (mC (.str "true"))))
      (sRet (mTup (aCons (mC (.str "false")) aNil)))
      sNext)
      (sSeq (sIf (mTest (mOp eqD (mVar 1) (mC (.str "false"))))
      (sRet (mTup (aCons (mC (.str "true")) aNil)))
      sNext)
      (sSeq (sIf (mTest (mOp eqD (mVar 1) (mC (.str "not"))))
      (sRet (mCB Fpositive (aCons (mOp ixD (mVar 0) (mC (.int 1))) aNil)))
      sNext)
      (sSeq (sIf (mTest (mOp eqD (mVar 1) (mC (.str "implies"))))
      (sRet (mTup (aCons (mC (.str "and")) (aCons (mCB Fpositive (aCons (mOp ixD (mVar 0) (mC (.int 1))) aNil)) (aCons (mCB Fnegated (aCons (mOp ixD (mVar 0) (mC (.int 2))) aNil)) aNil)))))
      sNext)
      (sSeq (sIf (mTest (mOp eqD (mVar 1) (mC (.str "same"))))
      (sRet (mTup (aCons (mC (.str "same")) (aCons (mCB Fnegated (aCons (mOp ixD (mVar 0) (mC (.int 1))) aNil)) (aCons (mCB Fpositive (aCons (mOp ixD (mVar 0) (mC (.int 2))) aNil)) aNil)))))
      sNext)
      (sRet (mTup (aCons (mKD k_DUALS (mVar 1)) (aStar (mLc (iSeq (mSl slD (mVar 0) (oSome (mC (.int 1))) oNone)) 2 mYes (mCB Fnegated (aCons (mVar 2) aNil)) [2]) aNil)))))))))))
abbrev Rnegated (Fnegated_comparison Fpositive Fnegated : List D → DH → Res D) : List D → DH → Res D := runF 1 3 (Bnegated Fnegated_comparison Fpositive Fnegated)
-- slots of negated_comparison: 0 comparison 1 word 2 left 3 right
def Bnegated_comparison : SM :=
  (sSeq (sAsg (mVar 0) (gTp (gsCons (gNm 1) (gsCons (gNm 2) (gsCons (gNm 3) gsNil)))))
      (sSeq (sIf (mTest (mOp eqD (mVar 1) (mC (.str "below"))))
      (sRet (mTup (aCons (mC (.str "upto")) (aCons (mVar 3) (aCons (mVar 2) aNil)))))
      sNext)
      (sSeq (sIf (mTest (mOp eqD (mVar 1) (mC (.str "upto"))))
      (sRet (mTup (aCons (mC (.str "below")) (aCons (mVar 3) (aCons (mVar 2) aNil)))))
      sNext)
      (sRet (mTup (aCons (mC (.str "not")) (aCons (mVar 0) aNil)))))))
abbrev Rnegated_comparison : List D → DH → Res D := runF 1 4 (Bnegated_comparison)
-- slots of size: 0 formula 1 part
def Bsize (Fsize : List D → DH → Res D) : SM :=
  (sSeq (sIf (mTest (mOp (inD false) (mOp ixD (mVar 0) (mC (.int 0))) (mC (.tup k_COMPARISONS))))
      (sRet (mC (.int 1)))
      sNext)
      (sRet (mOp addD (mC (.int 1)) (mCB sumD (aCons (mLc (iSeq (mSl slD (mVar 0) (oSome (mC (.int 1))) oNone)) 1 mYes (mCB Fsize (aCons (mVar 1) aNil)) [1]) aNil)))))
abbrev Rsize (Fsize : List D → DH → Res D) : List D → DH → Res D := runF 1 2 (Bsize Fsize)
-- slots of _law_same: 0 actual 1 expected 2 k
def B_law_same (F_law_same : List D → DH → Res D) : SM :=
  (sSeq (sIf (mTest (mIsi Ty.str (mVar 1)))
      (sRet (mAndV (mIsi Ty.str (mVar 0)) (mOp eqDD (mVar 0) (mVar 1))))
      sNext)
      (sSeq (sIf (mTest (mIsi Ty.int (mVar 1)))
      (sRet (mAndV (mIsi Ty.int (mVar 0)) (mAndV (mNotV (mIsi Ty.bool (mVar 0))) (mOp eqDD (mVar 0) (mVar 1)))))
      sNext)
      (sSeq (sIf (mAnd (mTest (mIsi Ty.tuple (mVar 1))) (mNot (mTest (mIsi Ty.tuple (mVar 0)))))
      (sRet (mC (.bl false)))
      sNext)
      (sSeq (sIf (mAnd (mTest (mIsi Ty.list (mVar 1))) (mNot (mTest (mIsi Ty.list (mVar 0)))))
      (sRet (mC (.bl false)))
      sNext)
      (sSeq (sIf (mTest (mOp neDD (mCB lenD (aCons (mVar 0) aNil)) (mCB lenD (aCons (mVar 1) aNil))))
      (sRet (mC (.bl false)))
      sNext)
      (sSeq (sFor (iR1 (mCB lenD (aCons (mVar 1) aNil))) (gNm 2)
      (sIf (mNot (mTest (mCB F_law_same (aCons (mOp ixD (mVar 0) (mVar 2)) (aCons (mOp ixD (mVar 1) (mVar 2)) aNil)))))
      (sRet (mC (.bl false)))
      sNext))
      (sRet (mC (.bl true)))))))))
abbrev R_law_same (F_law_same : List D → DH → Res D) : List D → DH → Res D := runF 2 3 (B_law_same F_law_same)
-- slots of _law_size: 0 tree 1 total 2 part
def B_law_size (F_law_size : List D → DH → Res D) : SM :=
  (sSeq (sIf (mTest (mOp (inD false) (mOp ixD (mVar 0) (mC (.int 0))) (mTup (aCons (mC (.str "equal")) (aCons (mC (.str "below")) (aCons (mC (.str "upto")) aNil))))))
      (sRet (mC (.int 1)))
      sNext)
      (sSeq (sAsg (mC (.int 1)) (gNm 1))
      (sSeq (sFor (iSeq (mSl slD (mVar 0) (oSome (mC (.int 1))) oNone)) (gNm 2)
      (sAsg (mOp addD (mVar 1) (mCB F_law_size (aCons (mVar 2) aNil))) (gNm 1)))
      (sRet (mVar 1)))))
abbrev R_law_size (F_law_size : List D → DH → Res D) : List D → DH → Res D := runF 1 3 (B_law_size F_law_size)
-- slots of _law_found: 0 tree 1 found 2 part
def B_law_found (F_law_found : List D → DH → Res D) : SM :=
  (sSeq (sIf (mTest (mOp (inD false) (mOp ixD (mVar 0) (mC (.int 0))) (mTup (aCons (mC (.str "equal")) (aCons (mC (.str "below")) (aCons (mC (.str "upto")) aNil))))))
      (sRet (mLst (aCons (mVar 0) aNil)))
      sNext)
      (sSeq (sAsg (mLst aNil) (gNm 1))
      (sSeq (sFor (iSeq (mSl slD (mVar 0) (oSome (mC (.int 1))) oNone)) (gNm 2)
      (sAsg (mOp addD (mVar 1) (mCB F_law_found (aCons (mVar 2) aNil))) (gNm 1)))
      (sRet (mVar 1)))))
abbrev R_law_found (F_law_found : List D → DH → Res D) : List D → DH → Res D := runF 1 3 (B_law_found F_law_found)
-- slots of _law_good: 0 tree 1 allowed 2 parts 3 part 4 comparison
def B_law_good (F_law_same F_law_good : List D → DH → Res D) : SM :=
  (sSeq (sIf (mOr (mNot (mTest (mIsi Ty.tuple (mVar 0)))) (mOr (mTest (mOp eqD (mCB lenD (aCons (mVar 0) aNil)) (mC (.int 0)))) (mNot (mTest (mIsi Ty.str (mOp ixD (mVar 0) (mC (.int 0))))))))
      (sRet (mC (.bl false)))
      sNext)
      (sSeq (sIf (mTest (mOp (inD false) (mOp ixD (mVar 0) (mC (.int 0))) (mTup (aCons (mC (.str "equal")) (aCons (mC (.str "below")) (aCons (mC (.str "upto")) aNil))))))
      (sSeq (sFor (iSeq (mVar 1)) (gNm 4)
      (sIf (mTest (mCB F_law_same (aCons (mVar 0) (aCons (mVar 4) aNil))))
      (sRet (mC (.bl true)))
      sNext))
      (sRet (mC (.bl false))))
      sNext)
      (sSeq (sAsg (mUn negD (mC (.int 1))) (gNm 2))
      (sSeq (sIf (mTest (mOp (inD false) (mOp ixD (mVar 0) (mC (.int 0))) (mTup (aCons (mC (.str "true")) (aCons (mC (.str "false")) aNil)))))
      (sAsg (mC (.int 0)) (gNm 2))
      (sIf (mTest (mOp (inD false) (mOp ixD (mVar 0) (mC (.int 0))) (mTup (aCons (mC (.str "not")) (aCons (mC (.str "next")) (aCons (mC (.str "eventually")) (aCons (mC (.str "always")) aNil)))))))
      (sAsg (mC (.int 1)) (gNm 2))
      (sIf (mTest (mOp (inD false) (mOp ixD (mVar 0) (mC (.int 0))) (mTup (aCons (mC (.str "and")) (aCons (mC (.str "or")) (aCons (mC (.str "implies")) (aCons (mC (.str "same")) (aCons (mC (.str "until")) (aCons (mC (.str "release")) (aCons (mC (.str "unless")) (aCons (mC (.str "strong")) aNil)))))))))))
      (sAsg (mC (.int 2)) (gNm 2))
      sNext)))
      (sSeq (sIf (mTest (mOp neDD (mCB lenD (aCons (mVar 0) aNil)) (mOp addD (mVar 2) (mC (.int 1)))))
      (sRet (mC (.bl false)))
      sNext)
      (sSeq (sFor (iSeq (mSl slD (mVar 0) (oSome (mC (.int 1))) oNone)) (gNm 3)
      (sIf (mNot (mTest (mCB F_law_good (aCons (mVar 3) (aCons (mVar 1) aNil)))))
      (sRet (mC (.bl false)))
      sNext))
      (sRet (mC (.bl true)))))))))
abbrev R_law_good (F_law_same F_law_good : List D → DH → Res D) : List D → DH → Res D := runF 2 5 (B_law_good F_law_same F_law_good)
-- slots of _law_allowed: 0 formula 1 allowed 2 tree
def B_law_allowed (F_law_found : List D → DH → Res D) : SM :=
  (sSeq (sAsg (mLst aNil) (gNm 1))
      (sSeq (sFor (iSeq (mCB F_law_found (aCons (mVar 0) aNil))) (gNm 2)
      (sSeq (sDrop (mMt "list" appD (mVar 1) (aCons (mVar 2) aNil)))
      (sSeq (sIf (mTest (mOp eqD (mOp ixD (mVar 2) (mC (.int 0))) (mC (.str "below"))))
      (sDrop (mMt "list" appD (mVar 1) (aCons (mTup (aCons (mC (.str "upto")) (aCons (mOp ixD (mVar 2) (mC (.int 2))) (aCons (mOp ixD (mVar 2) (mC (.int 1))) aNil)))) aNil)))
      sNext)
      (sIf (mTest (mOp eqD (mOp ixD (mVar 2) (mC (.int 0))) (mC (.str "upto"))))
      (sDrop (mMt "list" appD (mVar 1) (aCons (mTup (aCons (mC (.str "below")) (aCons (mOp ixD (mVar 2) (mC (.int 2))) (aCons (mOp ixD (mVar 2) (mC (.int 1))) aNil)))) aNil)))
      sNext))))
      (sRet (mVar 1))))
abbrev R_law_allowed (F_law_found : List D → DH → Res D) : List D → DH → Res D := runF 1 3 (B_law_allowed F_law_found)
-- slots of _law_form: 0 tree 1 part
def B_law_form (F_law_form : List D → DH → Res D) : SM :=
  (sSeq (sIf (mTest (mOp (inD false) (mOp ixD (mVar 0) (mC (.int 0))) (mTup (aCons (mC (.str "equal")) (aCons (mC (.str "below")) (aCons (mC (.str "upto")) aNil))))))
      (sRet (mC (.bl true)))
      sNext)
      (sSeq (sIf (mOr (mTest (mOp eqD (mOp ixD (mVar 0) (mC (.int 0))) (mC (.str "implies")))) (mAnd (mTest (mOp eqD (mOp ixD (mVar 0) (mC (.int 0))) (mC (.str "not")))) (mTest (mOp neD (mOp ixD (mOp ixD (mVar 0) (mC (.int 1))) (mC (.int 0))) (mC (.str "equal"))))))
      (sRet (mC (.bl false)))
      sNext)
      (sSeq (sFor (iSeq (mSl slD (mVar 0) (oSome (mC (.int 1))) oNone)) (gNm 1)
      (sIf (mNot (mTest (mCB F_law_form (aCons (mVar 1) aNil))))
      (sRet (mC (.bl false)))
      sNext))
      (sRet (mC (.bl true))))))
abbrev R_law_form (F_law_form : List D → DH → Res D) : List D → DH → Res D := runF 1 2 (B_law_form F_law_form)
/-! ### trees as data -/
inductive Flt : Nat → D → Prop where
  | str {k : Nat} {z : Str} : Flt (k + 1) (.str z)
  | int {k : Nat} {i : Int} : Flt (k + 1) (.int i)
  | tup {k : Nat} {xs : List D} (h : ∀ x ∈ xs, Flt k x) (hl : xs.length ≤ 1000) : Flt (k + 1) (.tup xs)
theorem Flt.mono : ∀ {j k : Nat} {d : D}, Flt j d → j ≤ k → Flt k d
  | _, k, _, .str, l => match k, l with | k + 1, _ => .str
  | _, k, _, .int, l => match k, l with | k + 1, _ => .int
  | j + 1, k, _, .tup h hl, l => match k, l with | k + 1, l => .tup (fun x hx => (h x hx).mono (by omega)) hl
theorem Flt.of2 {k : Nat} {x y : D} (h1 : Flt k x) (h2 : Flt k y) : Flt (k + 1) (.tup [x, y]) := .tup (fun z hz => by
  rcases List.mem_cons.mp hz with rfl | hz
  · exact h1
  · rw [List.mem_singleton] at hz; rw [hz]; exact h2) (by simp)
theorem Flt.of3 {k : Nat} {x y z : D} (h1 : Flt k x) (h2 : Flt k y) (h3 : Flt k z) : Flt (k + 1) (.tup [x, y, z]) := .tup (fun u hu => by
  rcases List.mem_cons.mp hu with rfl | hu
  · exact h1
  · rcases List.mem_cons.mp hu with rfl | hu
    · exact h2
    · rw [List.mem_singleton] at hu; rw [hu]; exact h3) (by simp)
theorem Flt.of1 {k : Nat} {x : D} (h1 : Flt k x) : Flt (k + 1) (.tup [x]) := .tup (fun z hz => by
  rw [List.mem_singleton] at hz; rw [hz]; exact h1) (by simp)
theorem Tm.flt {zs : List Str} : ∀ (t : Tm) (k : Nat), t.Good zs k → Flt (k + 1) t.d
  | .num n, k + 1, g => .of2 .str .int
  | .nam n, k + 1, g => .of2 .str .str
  | .bi w t u, k + 1, g => .of3 .str (t.flt k g.1) (u.flt k g.2)
  | .neg t, k + 1, g => .of2 .str (t.flt k g)
  | .dv w t j, k + 1, g => .of3 .str (t.flt k g.1) .int
  | .num _, 0, g => absurd g.1 (by omega)
  | .nam _, 0, g => absurd g.1 (by omega)
  | .bi _ _ _, 0, g => False.elim g
  | .neg _, 0, g => False.elim g
  | .dv _ _ _, 0, g => False.elim g
/-- any formula is data of some depth -/
def Fm.dep : Fm → Nat
  | .tt => 1
  | .ff => 1
  | .cmp _ _ _ => 1
  | .un _ f => f.dep + 1
  | .bi _ f g => max f.dep g.dep + 1
theorem Fm.dep_sz : ∀ f : Fm, f.dep ≤ f.sz
  | .tt => Nat.le_refl _
  | .ff => Nat.le_refl _
  | .cmp _ _ _ => Nat.le_refl _
  | .un w f => Nat.succ_le_succ f.dep_sz
  | .bi w f g => Nat.succ_le_succ (Nat.max_le.mpr ⟨Nat.le_trans f.dep_sz (Nat.le_add_right _ _), Nat.le_trans g.dep_sz (Nat.le_add_left _ _)⟩)
theorem Fm.Good.ok {zs : List Str} {f : Fm} {k : Nat} (g : f.Good zs k) : f.Ok zs ∧ f.dep ≤ k := ⟨g.1, Nat.le_trans f.dep_sz g.2⟩
theorem Fm.flt {zs : List Str} : ∀ (f : Fm) (k : Nat), f.Ok zs → f.dep ≤ k → Flt (k + 4) f.d
  | .tt, k, g, l => .of1 .str
  | .ff, k, g, l => .of1 .str
  | .cmp w t u, k, g, l => match k, l with | k + 1, _ => .of3 .str ((t.flt 3 g.1).mono (by omega)) ((u.flt 3 g.2).mono (by omega))
  | .un w f, k, g, l => match k, l with | k + 1, l => .of2 .str (f.flt k g (Nat.le_of_succ_le_succ l))
  | .bi w f h, k, g, l => match k, l with | k + 1, l => .of3 .str (f.flt k g.1 (Nat.le_trans (Nat.le_max_left _ _) (Nat.le_of_succ_le_succ l))) (h.flt k g.2 (Nat.le_trans (Nat.le_max_right _ _) (Nat.le_of_succ_le_succ l)))
/-! ### _law_same -/
theorem ite_b {c : Bool} {A B : Prop} : (if c = true then A else B) ↔ (c = true → A) ∧ (c = false → B) := by cases c <;> simp
def SameS (F : Nat → List D → DH → Res D) : Prop := ∀ (j k : Nat) (a e : D) (h : DH), Flt j e → Flt j a → ∀ P : D → DH → Prop, (∀ b : Bool, (b = true ↔ a = e) → P (.bl b) h) → SatE (F (k + j) [a, e] h) P
theorem same_S {F : Nat → List D → DH → Res D} (hF : ∀ k xs h, F (k + 1) xs h = R_law_same (F k) xs h) : SameS F := by
  intro j
  induction j with
  | zero => intro k a e h fe; cases fe
  | succ j ih =>
    intro k a e h fe fa P p
    rw [show k + (j + 1) = (k + j) + 1 from rfl, hF]
    refine w_def rfl ?_; unfold B_law_same
    have no : ∀ {x y : D}, x ≠ y → P (.bl false) h → P (.bl false) h := fun _ q => q
    cases fe with
    | str =>
      rename_i z
      cases fa with
      | str =>
        rename_i y
        walk_at "wp"
        simp only [tyS, w_ty, subTy, w_bl, eqDD_ss, satE_ok]
        simp (decide := true) only [if_true, if_false]
        exact p _ (by simp)
      | int =>
        walk_at "wp"
        simp only [tyS, tyI, w_ty, subTy, w_bl, eqDD_ss, satE_ok]
        simp (decide := true) only [if_true, if_false]
        exact p _ (by simp)
      | tup =>
        walk_at "wp"
        simp only [tyS, tyT, w_ty, subTy, w_bl, eqDD_ss, satE_ok]
        simp (decide := true) only [if_true, if_false]
        exact p _ (by simp)
    | int =>
      rename_i z
      cases fa with
      | str =>
        walk_at "wp"
        simp only [tyS, tyI, w_ty, subTy, w_bl, eqDD_ii, satE_ok]
        simp (decide := true) only [if_true, if_false]
        exact p _ (by simp)
      | int =>
        walk_at "wp"
        simp only [tyI, w_ty, subTy, w_bl, eqDD_ii, satE_ok]
        simp (decide := true) only [if_true, if_false]
        exact p _ (by simp)
      | tup =>
        walk_at "wp"
        simp only [tyI, tyT, w_ty, subTy, w_bl, eqDD_ii, satE_ok]
        simp (decide := true) only [if_true, if_false]
        exact p _ (by simp)
    | tup he hl =>
      rename_i es
      cases fa with
      | str =>
        walk_at "wp"
        simp only [tyS, tyT, w_ty, subTy, w_bl, satE_ok]
        simp (decide := true) only [if_true, if_false, n_ret, w_c]
        exact p _ (by simp)
      | int =>
        walk_at "wp"
        simp only [tyI, tyT, w_ty, subTy, w_bl, satE_ok]
        simp (decide := true) only [if_true, if_false, n_ret, w_c]
        exact p _ (by simp)
      | tup ha hal =>
        rename_i as
        walk_at "wp"
        simp only [tyT, w_ty, subTy, w_bl, satE_ok]
        simp (decide := true) only [if_true, if_false]
        simp only [w_lenT, neDD_ii, satE_ok, w_bl, Bool.not_eq_true', decide_eq_false_iff_not, Int.ofNat_inj]
        by_cases c : as.length = es.length
        · rw [if_neg (by simpa using c)]
          refine ⟨_, rfl, ⟨by omega, by omega⟩, ?_⟩
          refine for_rng (fun i ds' h' => (∃ o, ds' = [some (.tup as), some (.tup es), o]) ∧ h' = h ∧ as.take i = es.take i) ⟨⟨_, rfl⟩, rfl, rfl⟩ ?_ ?_
          · rintro i _ h' hi ⟨⟨o, rfl⟩, hq, ht⟩
            subst hq
            have hi : i < es.length := by simpa using hi
            show SatN _ _ _ _ _
            simp only [gNm, List.set_cons_succ, List.set_cons_zero]
            have ga : as[i]? = some (as[i]'(by omega)) := List.getElem?_eq_getElem (by omega)
            have ge : es[i]? = some (es[i]'(by omega)) := List.getElem?_eq_getElem (by omega)
            walk_at "wp"
            rw [w_ixs (x := as[i]) rfl (atI_pos (by omega) (by simpa using ga)), w_ixs (x := es[i]) rfl (atI_pos (by omega) (by simpa using ge))]
            refine ih k _ _ h' (he _ (List.getElem_mem _)) (ha _ (List.getElem_mem _)) _ fun b hb => ?_
            refine ⟨_, rfl, ?_⟩
            cases b with
            | true =>
              refine ⟨⟨_, rfl⟩, rfl, ?_⟩
              rw [List.take_add_one, List.take_add_one, ht, ga, ge, hb.mp rfl]
            | false =>
              refine p false ⟨(fun q => by cases q), fun q => ?_⟩
              injection q with q
              subst q
              exact absurd (hb.mpr rfl) (by decide)
          · rintro _ _ ⟨⟨o, rfl⟩, rfl, ht⟩
            refine p true ⟨fun _ => ?_, fun _ => rfl⟩
            have e1 : es.take ((es.length : Int).toNat) = es := by simp
            rw [e1] at ht
            rw [← ht]
            have : as.take (es.length : Int).toNat = as := by rw [← c]; simp
            rw [this]
        · rw [if_pos (by simpa using c)]
          refine p false ⟨(fun q => by cases q), fun q => ?_⟩
          injection q with q
          subst q
          exact absurd rfl c
/-! ### formulas by their parts -/
def Fm.hd : Fm → Str
  | .tt => "true"
  | .ff => "false"
  | .cmp w _ _ => w.s
  | .un w _ => w.s
  | .bi w _ _ => w.s
def Fm.parts : Fm → List Fm
  | .un _ f => [f]
  | .bi _ f g => [f, g]
  | _ => []
def Fm.isCmp : Fm → Bool
  | .cmp _ _ _ => true
  | _ => false
theorem d_hd (f : Fm) (h : f.isCmp = false) : f.d = .tup (.str f.hd :: f.parts.map Fm.d) := by
  cases f <;> first | rfl | cases h
theorem d_hd' (f : Fm) : ∃ r, f.d = .tup (.str f.hd :: r) := by cases f <;> exact ⟨_, rfl⟩
theorem cin_c (w : CmpW) : (k_COMPARISONS.any fun z => eqF z (.str w.s)) = true := by cases w <;> decide +kernel
theorem cin_u (w : UnW) : (k_COMPARISONS.any fun z => eqF z (.str w.s)) = false := by cases w <;> decide +kernel
theorem cin_b (w : BiW) : (k_COMPARISONS.any fun z => eqF z (.str w.s)) = false := by cases w <;> decide +kernel
theorem cin_t : (k_COMPARISONS.any fun z => eqF z (.str "true")) = false := by decide +kernel
theorem cin_f : (k_COMPARISONS.any fun z => eqF z (.str "false")) = false := by decide +kernel
theorem cmp_in (f : Fm) : (k_COMPARISONS.any fun z => eqF z (.str f.hd)) = f.isCmp := by
  cases f with
  | tt => exact cin_t
  | ff => exact cin_f
  | cmp w t u => exact cin_c w
  | un w g => exact cin_u w
  | bi w g g' => exact cin_b w
theorem len_parts (f : Fm) : f.parts.length ≤ 2 := by cases f <;> simp [Fm.parts]
theorem dep_parts {f x : Fm} (hx : x ∈ f.parts) : x.dep < f.dep := by
  cases f with
  | tt => cases hx
  | ff => cases hx
  | cmp w t u => cases hx
  | un w f => have e : x = f := by simpa [Fm.parts] using hx
              rw [e]; exact Nat.lt_succ_self _
  | bi w f f' =>
    have e : x = f ∨ x = f' := by simpa [Fm.parts] using hx
    rcases e with e | e
    · rw [e]; exact Nat.lt_succ_of_le (Nat.le_max_left _ _)
    · rw [e]; exact Nat.lt_succ_of_le (Nat.le_max_right _ _)
theorem ok_parts {zs : List Str} {f x : Fm} (g : f.Ok zs) (hx : x ∈ f.parts) : x.Ok zs := by
  cases f with
  | tt => cases hx
  | ff => cases hx
  | cmp w t u => cases hx
  | un w f => have e : x = f := by simpa [Fm.parts] using hx
              rw [e]; exact g
  | bi w f f' =>
    have e : x = f ∨ x = f' := by simpa [Fm.parts] using hx
    rcases e with e | e
    · rw [e]; exact g.1
    · rw [e]; exact g.2
theorem dep_pos (f : Fm) : 0 < f.dep := by cases f <;> simp [Fm.dep]
/-- [F(part) for part in tree[1:]] -/
theorem lc_parts {Φ : List D → DH → Res D} {i0 j0 : Nat} {x : D} (as : List Fm) (gf : Fm → D) {ds : DSt} {h : DH} {P : D → DH → Prop} (e0 : ds.getD i0 none = some (.tup (x :: as.map Fm.d))) (hj : j0 < ds.length) (hl : as.length ≤ 1000)
    (hΦ : ∀ a ∈ as, ∀ h', SatE (Φ [a.d] h') fun d h2 => Keep h' h2 ∧ d = gf a) (p : ∀ h' n, Keep h h' → h'[n]? = some (.lst (as.map gf)) → P (.ref n) h') :
    SatE (mLc (iSeq (mSl slD (mVar i0) (oSome (mC (.int 1))) oNone)) j0 mYes (mCB Φ (aCons (mVar j0) aNil)) [j0] ds h) P := by
  rw [w_lc]
  refine w_seqT (xs := as.map Fm.d) ?_
  rw [w_sl, w_var, e0]
  walk_at "w1"
  rw [w_tail]
  refine ⟨rfl, ?_⟩
  refine lc_map as Fm.d gf _ (get_last _ _) (by omega) (fun i h' _ => rfl) (fun a h' ha _ => ?_) (fun h' e fr => p h' _ (fr.keep (Keep.app _ _) (Nat.le_refl _)) e) (by show (as.map Fm.d).length + 1 = _; rw [List.length_map])
  have e1 : ((wipeD ds [j0]).set j0 (some a.d)).getD j0 none = some a.d := by
    rw [List.getD_eq_getElem?_getD, List.getElem?_set_self (by simp only [wipeD, List.length_set]; exact hj)]; rfl
  walk_at "w1"
  simp only [w_cb, w_cons, w_var, e1, w_nil]
  exact hΦ a ha h'
/-! ### positive and negated -/
def UnW.dual : UnW → UnW
  | .not => .not | .next => .next | .eventually => .always | .always => .eventually
def BiW.dual : BiW → BiW
  | .and => .or | .or => .and | .implies => .implies | .same => .same | .until => .release | .release => .until | .unless => .strong | .strong => .unless
def cmpNeg : CmpW → Tm → Tm → Fm
  | .below, t, u => .cmp .upto u t
  | .upto, t, u => .cmp .below u t
  | .equal, t, u => .un .not (.cmp .equal t u)
mutual
def Fm.pos : Fm → Fm
  | .tt => .tt
  | .ff => .ff
  | .cmp w t u => .cmp w t u
  | .un .not f => f.neg
  | .un w f => .un w f.pos
  | .bi .implies f g => .bi .or f.neg g.pos
  | .bi w f g => .bi w f.pos g.pos
def Fm.neg : Fm → Fm
  | .tt => .ff
  | .ff => .tt
  | .cmp w t u => cmpNeg w t u
  | .un .not f => f.pos
  | .un w f => .un w.dual f.neg
  | .bi .implies f g => .bi .and f.pos g.neg
  | .bi .same f g => .bi .same f.neg g.pos
  | .bi w f g => .bi w.dual f.neg g.neg
end
def PosS (F : Nat → List D → DH → Res D) (g : Fm → Fm) : Prop := ∀ (j k : Nat) (f : Fm) (h : DH), f.dep ≤ j → SatE (F (k + j + 1) [f.d] h) fun d h' => Keep h h' ∧ d = (g f).d
theorem ncmp_S {w : CmpW} {t u : Tm} {h : DH} : SatE (Rnegated_comparison [(Fm.cmp w t u).d] h) fun d h' => Keep h h' ∧ d = (cmpNeg w t u).d := by
  refine w_def rfl ?_; unfold Bnegated_comparison
  cases w <;> (simp only [Fm.d, CmpW.s]; rw [n_seq, n_asg]; walk_at "wq"; simp only [gTp, gsCons, gsNil, gNm, Option.bind]; walk_at "wq"; exact ⟨Keep.refl _, rfl⟩)
theorem lc0 {Φ : List D → DH → Res D} {x z : D} {o1 o2 : Option D} {h : DH} {R : D} (hR : R = .tup [z]) :
    SatE (mLc (iSeq (mSl slD (mVar 0) (oSome (mC (.int 1))) oNone)) 2 mYes (mCB Φ (aCons (mVar 2) aNil)) [2] [some (.tup [x]), o1, o2] h) fun y h1 => ∃ xs, itemsD y h1 = some xs ∧ xs.length + 1 ≤ 16777216 ∧ Keep h h1 ∧ D.tup (z :: xs) = R :=
  lc_parts [] Fm.d rfl (by simp) (by simp) (fun a ha => nomatch ha) fun h' n kp e => ⟨[], items_lst e, by decide, kp, hR.symm⟩
theorem lc1 {Φ : List D → DH → Res D} {f : Fm} {x z : D} {o1 o2 : Option D} {h : DH} {R : D} (G : Fm → Fm) (hf : ∀ h', SatE (Φ [f.d] h') fun d h2 => Keep h' h2 ∧ d = (G f).d) (hR : R = .tup [z, (G f).d]) :
    SatE (mLc (iSeq (mSl slD (mVar 0) (oSome (mC (.int 1))) oNone)) 2 mYes (mCB Φ (aCons (mVar 2) aNil)) [2] [some (.tup [x, f.d]), o1, o2] h) fun y h1 => ∃ xs, itemsD y h1 = some xs ∧ xs.length + 1 ≤ 16777216 ∧ Keep h h1 ∧ D.tup (z :: xs) = R :=
  lc_parts [f] (fun f => (G f).d) rfl (by simp) (by simp) (fun a ha => by rw [List.mem_singleton] at ha; rw [ha]; exact hf) fun h' n kp e => ⟨[(G f).d], items_lst e, by simp, kp, hR.symm⟩
theorem lc2 {Φ : List D → DH → Res D} {f g : Fm} {x z : D} {o1 o2 : Option D} {h : DH} {R : D} (G : Fm → Fm) (hf : ∀ h', SatE (Φ [f.d] h') fun d h2 => Keep h' h2 ∧ d = (G f).d) (hg : ∀ h', SatE (Φ [g.d] h') fun d h2 => Keep h' h2 ∧ d = (G g).d) (hR : R = .tup [z, (G f).d, (G g).d]) :
    SatE (mLc (iSeq (mSl slD (mVar 0) (oSome (mC (.int 1))) oNone)) 2 mYes (mCB Φ (aCons (mVar 2) aNil)) [2] [some (.tup [x, f.d, g.d]), o1, o2] h) fun y h1 => ∃ xs, itemsD y h1 = some xs ∧ xs.length + 1 ≤ 16777216 ∧ Keep h h1 ∧ D.tup (z :: xs) = R :=
  lc_parts [f, g] (fun f => (G f).d) rfl (by simp) (by simp) (fun a ha => by
    rcases List.mem_cons.mp ha with rfl | ha
    · exact hf
    · rw [List.mem_singleton] at ha; rw [ha]; exact hg) fun h' n kp e => ⟨[(G f).d, (G g).d], items_lst e, by simp, kp, hR.symm⟩
theorem tup2_S {F1 F2 : List D → DH → Res D} {as bs : List D} {z : D} {h0 h : DH} {u v R : D} (k0 : Keep h0 h) (h1 : ∀ h', SatE (F1 as h') fun d h2 => Keep h' h2 ∧ d = u) (h2 : ∀ h', SatE (F2 bs h') fun d h2 => Keep h' h2 ∧ d = v) (hR : R = .tup [z, u, v]) :
    SatE (F1 as h) fun a h1 => SatE (F2 bs h1) fun b h2 => Keep h0 h2 ∧ D.tup [z, a, b] = R :=
  (h1 h).imp fun a h' ⟨k1, e1⟩ => (h2 h').imp fun b h'' ⟨k2, e2⟩ => ⟨k0.trans (k1.trans k2), by rw [e1, e2, hR]⟩
theorem tup1_S {F1 : List D → DH → Res D} {as : List D} {z : D} {h0 h : DH} {u R : D} (k0 : Keep h0 h) (h1 : ∀ h', SatE (F1 as h') fun d h2 => Keep h' h2 ∧ d = u) (hR : R = .tup [z, u]) :
    SatE (F1 as h) fun a h1 => Keep h0 h1 ∧ D.tup [z, a] = R :=
  (h1 h).imp fun a h' ⟨k1, e1⟩ => ⟨k0.trans k1, by rw [e1, hR]⟩
theorem pos_S {Fp Fn Fc : Nat → List D → DH → Res D} (hp : ∀ k xs h, Fp (k + 1) xs h = Rpositive (Fn k) (Fp k) xs h) (hn : ∀ k xs h, Fn (k + 1) xs h = Rnegated (Fc k) (Fp k) (Fn k) xs h) (hc : ∀ k xs h, Fc (k + 1) xs h = Rnegated_comparison xs h) :
    PosS Fp Fm.pos ∧ PosS Fn Fm.neg := by
  have key : ∀ (j : Nat), (∀ (k : Nat) (f : Fm) (h : DH), f.dep ≤ j → SatE (Fp (k + j + 1) [f.d] h) fun d h' => Keep h h' ∧ d = f.pos.d) ∧ (∀ (k : Nat) (f : Fm) (h : DH), f.dep ≤ j → SatE (Fn (k + j + 1) [f.d] h) fun d h' => Keep h h' ∧ d = f.neg.d) := by
    intro j
    induction j with
    | zero => exact ⟨fun k f h l => by have := dep_pos f; omega, fun k f h l => by have := dep_pos f; omega⟩
    | succ j ih =>
      obtain ⟨ip, in_⟩ := ih
      refine ⟨fun k f h l => ?_, fun k f h l => ?_⟩
      · rw [hp]
        refine w_def rfl ?_; unfold Bpositive
        cases f with
        | tt => simp only [Fm.d, k_COMPARISONS]; walk_at "wq"; exact lc0 rfl
        | ff => simp only [Fm.d, k_COMPARISONS]; walk_at "wq"; exact lc0 rfl
        | cmp w t u => cases w <;> (simp only [Fm.d, CmpW.s, k_COMPARISONS]; walk_at "wq"; exact ⟨Keep.refl _, rfl⟩)
        | un w f =>
          have l : f.dep ≤ j := Nat.le_of_succ_le_succ l
          have i1 := fun h' => ip k f h' l
          have i2 := fun h' => in_ k f h' l
          cases w <;> (simp only [Fm.d, UnW.s, k_COMPARISONS]; walk_at "wq"; first | exact lc1 Fm.pos i1 rfl | exact i2 h)
        | bi w f g =>
          have l : max f.dep g.dep ≤ j := Nat.le_of_succ_le_succ l
          have i1 := fun h' => ip k f h' (by omega)
          have i2 := fun h' => in_ k f h' (by omega)
          have i3 := fun h' => ip k g h' (by omega)
          cases w <;> (simp only [Fm.d, BiW.s, k_COMPARISONS]; walk_at "wq"; first | exact lc2 Fm.pos i1 i3 rfl | exact tup2_S (Keep.refl _) i2 i3 rfl)
      · rw [hn]
        refine w_def rfl ?_; unfold Bnegated
        cases f with
        | tt => simp only [Fm.d, k_COMPARISONS]; walk_at "wq"; exact ⟨Keep.refl _, rfl⟩
        | ff => simp only [Fm.d, k_COMPARISONS]; walk_at "wq"; exact ⟨Keep.refl _, rfl⟩
        | cmp w t u =>
          have q : SatE (Fc (k + (j + 1)) [(Fm.cmp w t u).d] h) fun d h' => Keep h h' ∧ d = (Fm.cmp w t u).neg.d := by
            rw [show k + (j + 1) = (k + j) + 1 from rfl, hc]
            exact ncmp_S
          cases w <;> (simp only [Fm.d, CmpW.s, k_COMPARISONS]; walk_at "wq"; exact q)
        | un w f =>
          have l : f.dep ≤ j := Nat.le_of_succ_le_succ l
          have i1 := fun h' => ip k f h' l
          have i2 := fun h' => in_ k f h' l
          cases w <;> (simp only [Fm.d, UnW.s, k_COMPARISONS, k_DUALS]; walk_at "wq"; first | exact lc1 Fm.neg i2 rfl | exact i1 h)
        | bi w f g =>
          have l : max f.dep g.dep ≤ j := Nat.le_of_succ_le_succ l
          have i1 := fun h' => ip k f h' (by omega)
          have i2 := fun h' => in_ k f h' (by omega)
          have i3 := fun h' => ip k g h' (by omega)
          have i4 := fun h' => in_ k g h' (by omega)
          cases w <;> (simp only [Fm.d, BiW.s, k_COMPARISONS, k_DUALS]; walk_at "wq"; first | exact lc2 Fm.neg i2 i4 rfl | exact tup2_S (Keep.refl _) i1 i4 rfl | exact tup2_S (Keep.refl _) i2 i3 rfl)
  exact ⟨fun j k f h l => (key j).1 k f h l, fun j k f h l => (key j).2 k f h l⟩
/-! ### size, comparisons, good trees -/
theorem sz_parts (f : Fm) (h : f.isCmp = false) : f.sz = 1 + (f.parts.map Fm.sz).sum := by
  cases f <;> first | rfl | (cases h; done) | (simp [Fm.sz, Fm.parts]; try omega)
def SizeS (F : Nat → List D → DH → Res D) : Prop := ∀ (j k : Nat) (f : Fm) (h : DH), f.dep ≤ j → SatE (F (k + j) [f.d] h) fun d h' => Keep h h' ∧ d = .int f.sz
def LsizeS (F : Nat → List D → DH → Res D) : Prop := ∀ (j k : Nat) (f : Fm) (h : DH), f.dep ≤ j → SatE (F (k + j) [f.d] h) fun d h' => h' = h ∧ d = .int f.sz
theorem cast_sum (l : List Nat) : ((l.sum : Nat) : Int) = (l.map fun n : Nat => (n : Int)).sum := by
  induction l with
  | nil => rfl
  | cons a r ih => rw [List.sum_cons, List.map_cons, List.sum_cons, ← ih]; omega
theorem size_S {F : Nat → List D → DH → Res D} (hF : ∀ k xs h, F (k + 1) xs h = Rsize (F k) xs h) : SizeS F := by
  intro j
  induction j with
  | zero => intro k f h l; have := dep_pos f; omega
  | succ j ih =>
    intro k f h l
    rw [show k + (j + 1) = (k + j) + 1 from rfl, hF]
    refine w_def rfl ?_; unfold Bsize
    obtain ⟨r, er⟩ := d_hd' f
    rw [er]
    rw [n_seq]; walk_at "w1"
    rw [w_ixT0, w_in_tup rfl (by decide +kernel)]
    walk_at "w1"
    try simp only [Bool.false_eq_true, if_false]
    rw [cmp_in]
    refine w_ifE (fun c => ?_) fun c => ?_
    · refine ⟨Keep.refl h, ?_⟩
      cases f <;> first | rfl | cases c
    · have er2 := d_hd f c
      rw [er] at er2
      injection er2 with er2
      injection er2 with _ er2
      subst er2
      refine lc_parts f.parts (fun f => .int f.sz) rfl (by simp) (by have := len_parts f; omega) (fun a ha h' => ih k a h' (by have := dep_parts ha; omega)) fun h' n kp e => ?_
      have e2 : f.parts.map (fun f => D.int f.sz) = (f.parts.map fun f => (f.sz : Int)).map D.int := by rw [List.map_map]; rfl
      rw [e2] at e
      simp only [sumD, lintsD, items_lst e, Option.bind, intsOf_map]
      walk_at "w1"
      refine ⟨kp, ?_⟩
      rw [sz_parts f c, Int.natCast_add, cast_sum, List.map_map]
      rfl
theorem lsize_S {F : Nat → List D → DH → Res D} (hF : ∀ k xs h, F (k + 1) xs h = R_law_size (F k) xs h) : LsizeS F := by
  intro j
  induction j with
  | zero => intro k f h l; have := dep_pos f; omega
  | succ j ih =>
    intro k f h l
    rw [show k + (j + 1) = (k + j) + 1 from rfl, hF]
    refine w_def rfl ?_; unfold B_law_size
    obtain ⟨r, er⟩ := d_hd' f
    rw [er]
    rw [n_seq]; walk_at "w1"
    have e3 : [D.str "equal", .str "below", .str "upto"] = k_COMPARISONS := rfl
    rw [w_ixT0, e3, w_in_tup rfl (by decide +kernel)]
    walk_at "w1"
    try simp only [Bool.false_eq_true, if_false]
    rw [cmp_in]
    refine w_ifE (fun c => ?_) fun c => ?_
    · cases f <;> first | rfl | cases c
    · have er2 := d_hd f c
      rw [er] at er2
      injection er2 with er2
      injection er2 with _ er2
      subst er2
      rw [n_seq]; walk_at "w1"
      rw [n_seq, n_for]
      refine w_seqT (xs := f.parts.map Fm.d) ?_
      walk_at "w1"
      rw [w_tail]
      refine ⟨rfl, ?_⟩
      refine for_tup (fun i ds' h' => ∃ o2, ds' = [some (.tup (.str f.hd :: f.parts.map Fm.d)), some (.int ((1 + ((f.parts.take i).map Fm.sz).sum : Nat))), o2] ∧ h' = h) ⟨_, rfl, rfl⟩ ?_ ?_
      · rintro i x _ h' hx ⟨o2, rfl, rfl⟩
        rw [List.getElem?_map] at hx
        cases q : f.parts[i]? with
        | none => rw [q] at hx; cases hx
        | some a =>
          rw [q] at hx
          cases hx
          have ha := List.mem_of_getElem? q
          show SatN _ _ _ _ _
          simp only [gNm, List.set_cons_succ, List.set_cons_zero]
          walk_at "w1"
          refine (ih k a h' (by have := dep_parts ha; omega)).imp fun d h2 ⟨e1, e2⟩ => ?_
          subst e1; subst e2
          walk_at "w1"
          refine ⟨some a.d, ?_⟩
          rw [List.take_add_one, q]
          simp [List.sum_append, Int.add_assoc]
      · rintro _ h' ⟨o2, rfl, rfl⟩
        walk_at "w1"
        rw [List.length_map, List.take_length, sz_parts f c]
def Fm.fnd : Fm → List Fm
  | .cmp w t u => [.cmp w t u]
  | .un _ f => f.fnd
  | .bi _ f g => f.fnd ++ g.fnd
  | _ => []
theorem fnd_len : ∀ f : Fm, f.fnd.length ≤ f.sz
  | .tt => Nat.zero_le _
  | .ff => Nat.zero_le _
  | .cmp _ _ _ => Nat.le_refl _
  | .un _ f => Nat.le_trans (fnd_len f) (Nat.le_succ _)
  | .bi _ f g => by show (f.fnd ++ g.fnd).length ≤ f.sz + g.sz + 1; rw [List.length_append]; have := fnd_len f; have := fnd_len g; omega
theorem fnd_parts (f : Fm) (h : f.isCmp = false) : f.fnd = f.parts.flatMap Fm.fnd := by
  cases f <;> first | rfl | (cases h; done) | simp [Fm.fnd, Fm.parts]
theorem fnd_ok {zs : List Str} : ∀ {f : Fm}, f.Ok zs → ∀ c ∈ f.fnd, c.Ok zs ∧ c.isCmp = true ∧ c.dep ≤ 1
  | .tt, o, c, h => nomatch h
  | .ff, o, c, h => nomatch h
  | .cmp w t u, o, c, h => by rw [List.mem_singleton.mp h]; exact ⟨o, rfl, Nat.le_refl _⟩
  | .un _ f, o, c, h => fnd_ok (f := f) o c h
  | .bi _ f g, o, c, h => by
    rcases List.mem_append.mp h with q | q
    · exact fnd_ok (f := f) o.1 c q
    · exact fnd_ok (f := g) o.2 c q
theorem sz_part {f x : Fm} (hx : x ∈ f.parts) : x.sz ≤ f.sz := by
  cases f with
  | tt => cases hx
  | ff => cases hx
  | cmp w t u => cases hx
  | un w f => have e : x = f := by simpa [Fm.parts] using hx
              rw [e]; exact Nat.le_succ _
  | bi w f f' =>
    have e : x = f ∨ x = f' := by simpa [Fm.parts] using hx
    show x.sz ≤ f.sz + f'.sz + 1
    rcases e with e | e
    · rw [e]; omega
    · rw [e]; omega
def FoundS (F : Nat → List D → DH → Res D) : Prop := ∀ (j k : Nat) (f : Fm) (h : DH), f.dep ≤ j → f.sz ≤ 1000 → SatE (F (k + j) [f.d] h) fun d h' => ∃ n, d = .ref n ∧ Keep h h' ∧ h.length ≤ n ∧ h'[n]? = some (.lst (f.fnd.map Fm.d))
theorem found_S {F : Nat → List D → DH → Res D} (hF : ∀ k xs h, F (k + 1) xs h = R_law_found (F k) xs h) : FoundS F := by
  intro j
  induction j with
  | zero => intro k f h l; have := dep_pos f; omega
  | succ j ih =>
    intro k f h l hz
    rw [show k + (j + 1) = (k + j) + 1 from rfl, hF]
    refine w_def rfl ?_; unfold B_law_found
    obtain ⟨r, er⟩ := d_hd' f
    rw [er]
    rw [n_seq]; walk_at "w1"
    have e3 : [D.str "equal", .str "below", .str "upto"] = k_COMPARISONS := rfl
    rw [w_ixT0, e3, w_in_tup rfl (by decide +kernel)]
    walk_at "w1"
    try simp only [Bool.false_eq_true, if_false]
    rw [cmp_in]
    refine w_ifE (fun c => ?_) fun c => ?_
    · rw [← er]
      have e4 : f.fnd = [f] := by cases f <;> first | rfl | cases c
      rw [e4]
      exact ⟨_, rfl, Keep.app _ _, Nat.le_refl _, get_last _ _⟩
    · have er2 := d_hd f c
      rw [er] at er2
      injection er2 with er2
      injection er2 with _ er2
      subst er2
      rw [n_seq]; walk_at "w1"
      rw [n_seq, n_for]
      refine w_seqT (xs := f.parts.map Fm.d) ?_
      walk_at "w1"
      rw [w_tail]
      refine ⟨rfl, ?_⟩
      refine for_tup (fun i ds' h' => ∃ o2 n, ds' = [some (.tup (.str f.hd :: f.parts.map Fm.d)), some (.ref n), o2] ∧ Keep h h' ∧ h.length ≤ n ∧ h'[n]? = some (.lst (((f.parts.take i).flatMap Fm.fnd).map Fm.d))) ⟨_, _, rfl, Keep.app _ _, Nat.le_refl _, get_last _ _⟩ ?_ ?_
      · rintro i x _ h' hx ⟨o2, n, rfl, k1, l1, e1⟩
        rw [List.getElem?_map] at hx
        cases q : f.parts[i]? with
        | none => rw [q] at hx; cases hx
        | some a =>
          rw [q] at hx
          cases hx
          have ha := List.mem_of_getElem? q
          show SatN _ _ _ _ _
          simp only [gNm, List.set_cons_succ, List.set_cons_zero]
          walk_at "w1"
          refine (ih k a h' (by have := dep_parts ha; omega) (by have := sz_part ha; omega)).imp ?_
          rintro _ h2 ⟨m, rfl, k2, l2, e2⟩
          have e5 : (f.parts.take (i + 1)).flatMap Fm.fnd = (f.parts.take i).flatMap Fm.fnd ++ a.fnd := by
            rw [List.take_add_one, q, List.flatMap_append]; simp
          have e6 : ((f.parts.take i).flatMap Fm.fnd ++ a.fnd).length ≤ 1000 := by
            rw [← e5]
            have : f.parts = f.parts.take (i + 1) ++ f.parts.drop (i + 1) := (List.take_append_drop _ _).symm
            have q2 := fnd_len f
            rw [fnd_parts f c, this, List.flatMap_append, List.length_append] at q2
            omega
          rw [w_add_lst (k2 _ _ e1) e2]
          rw [List.length_append] at e6
          refine ⟨by rw [List.length_map, List.length_map]; omega, some a.d, _, rfl, k1.trans (k2.trans (Keep.app _ _)), by have := k1.len; have := k2.len; omega, ?_⟩
          rw [e5, List.map_append]
          exact get_last _ _
      · rintro _ h' ⟨o2, n, rfl, k1, l1, e1⟩
        walk_at "w1"
        rw [List.length_map, List.take_length, ← fnd_parts f c] at e1
        exact ⟨n, rfl, k1, l1, e1⟩
/-! ### allowed comparisons, good trees, the form -/
def Fm.alw : Fm → List Fm
  | .cmp .below t u => [.cmp .below t u, .cmp .upto u t]
  | .cmp .upto t u => [.cmp .upto t u, .cmp .below u t]
  | f => [f]
theorem alw_self (f : Fm) : f ∈ f.alw := by
  cases f with
  | cmp w t u => cases w <;> simp [Fm.alw]
  | _ => simp [Fm.alw]
theorem alw_len (f : Fm) : f.alw.length ≤ 2 := by
  cases f with
  | cmp w t u => cases w <;> simp [Fm.alw]
  | _ => simp [Fm.alw]
theorem alws_len (l : List Fm) : (l.flatMap Fm.alw).length ≤ 2 * l.length := by
  induction l with
  | nil => simp
  | cons a r ih => rw [List.flatMap_cons, List.length_append, List.length_cons]; have := alw_len a; omega
theorem alw_ok {zs : List Str} {c a : Fm} (h : c.Ok zs ∧ c.isCmp = true ∧ c.dep ≤ 1) (ha : a ∈ c.alw) : a.Ok zs ∧ a.isCmp = true ∧ a.dep ≤ 1 := by
  cases c with
  | cmp w t u =>
    cases w <;> simp only [Fm.alw, List.mem_cons, List.not_mem_nil, or_false] at ha
    · rw [ha]; exact h
    · rcases ha with e | e <;> rw [e]
      · exact h
      · exact ⟨⟨h.1.2, h.1.1⟩, rfl, Nat.le_refl _⟩
    · rcases ha with e | e <;> rw [e]
      · exact h
      · exact ⟨⟨h.1.2, h.1.1⟩, rfl, Nat.le_refl _⟩
  | _ => have := h.2.1; cases this
def AllowS (F : Nat → List D → DH → Res D) : Prop := ∀ (j k : Nat) (f : Fm) (zs : List Str) (h : DH), f.Ok zs → f.dep ≤ j → f.sz ≤ 1000 → SatE (F (k + j + 1) [f.d] h) fun d h' => ∃ n, d = .ref n ∧ Keep h h' ∧ h'[n]? = some (.lst ((f.fnd.flatMap Fm.alw).map Fm.d))
theorem allow_S {F Ff : Nat → List D → DH → Res D} (found : FoundS Ff) (hF : ∀ k xs h, F (k + 1) xs h = R_law_allowed (Ff k) xs h) : AllowS F := by
  intro j k f zs h ok l hz
  rw [hF]
  refine w_def rfl ?_; unfold B_law_allowed
  rw [n_seq]; walk_at "w1"
  rw [n_seq, n_for]
  generalize hH : h ++ [DO.lst []] = H
  have kH : Keep h H := by rw [← hH]; exact Keep.app _ _
  have hs : H[h.length]? = some (.lst []) := by rw [← hH]; exact get_last _ _
  have hsl := lt_of_get hs
  generalize hS : h.length = s at *
  unfold iSeq
  rw [satE_bind]
  walk_at "w1"
  refine (found j k f H l hz).imp ?_
  rintro _ H1 ⟨m, rfl, k1, l1, e1⟩
  have ms : m ≠ s := by omega
  simp only [e1]
  rw [satE_ok]
  have hlen := fnd_len f
  refine for_lst (xs := f.fnd.map Fm.d) (fun i ds' h' => ∃ o2, ds' = [some f.d, some (.ref s), o2] ∧ Fr s H1 h' ∧ h'[s]? = some (.lst (((f.fnd.take i).flatMap Fm.alw).map Fm.d)) ∧ i ≤ f.fnd.length) ⟨_, rfl, Fr.refl _ _, k1 _ _ hs, Nat.zero_le _⟩ (fun i ds h' ⟨o2, _, fr, _⟩ => items_lst (fr _ _ ms e1)) ?_ ?_
  · rintro i x _ h' hx ⟨o2, rfl, fr, e2, il⟩
    rw [List.getElem?_map] at hx
    cases q : f.fnd[i]? with
    | none => rw [q] at hx; cases hx
    | some a =>
      rw [q] at hx
      cases hx
      have hil := (List.getElem?_eq_some_iff.mp q).1
      obtain ⟨aok, acmp, adep⟩ := fnd_ok ok a (List.mem_of_getElem? q)
      have tk : (f.fnd.take (i + 1)).flatMap Fm.alw = (f.fnd.take i).flatMap Fm.alw ++ a.alw := by
        rw [List.take_add_one, q, List.flatMap_append]; simp
      have len : ((f.fnd.take i).flatMap Fm.alw).length ≤ 2000 := by
        refine Nat.le_trans (alws_len _) ?_
        rw [List.length_take]; omega
      show SatN _ _ _ _ _
      simp only [gNm, List.set_cons_succ, List.set_cons_zero]
      rw [n_seq]
      walk_at "w1"
      refine ⟨isTy_lst e2, ?_⟩
      rw [w_app e2, List.length_map]
      refine ⟨by omega, ?_⟩
      have e3 := set_same (o := .lst (((f.fnd.take i).flatMap Fm.alw).map Fm.d ++ [a.d])) e2
      cases a with
      | cmp w t u =>
        cases w with
        | equal =>
          simp only [Fm.d, CmpW.s]
          walk_at "wq"
          refine ⟨_, rfl, fr.set _, ?_, hil⟩
          rw [tk, List.map_append]
          exact e3
        | below =>
          simp only [Fm.d, CmpW.s]
          walk_at "wq"
          refine ⟨isTy_lst e3, ?_⟩
          have e3' : (h'.set s (.lst (((f.fnd.take i).flatMap Fm.alw).map Fm.d ++ [D.tup [D.str (Str.ofString "below"), t.d, u.d]])))[s]? = _ := e3
          rw [w_app e3', List.length_append, List.length_map]
          refine ⟨by rw [List.length_singleton]; omega, ?_⟩
          walk_at "wq"
          refine ⟨_, rfl, (fr.set _).set _, ?_, hil⟩
          rw [tk, List.map_append]
          have e4 : ((f.fnd.take i).flatMap Fm.alw).map Fm.d ++ (Fm.cmp .below t u).alw.map Fm.d = (((f.fnd.take i).flatMap Fm.alw).map Fm.d ++ [(Fm.cmp .below t u).d]) ++ [(Fm.cmp .upto u t).d] := by rw [List.append_assoc]; rfl
          rw [e4]
          exact set_same e3
        | upto =>
          simp only [Fm.d, CmpW.s]
          walk_at "wq"
          refine ⟨isTy_lst e3, ?_⟩
          have e3' : (h'.set s (.lst (((f.fnd.take i).flatMap Fm.alw).map Fm.d ++ [D.tup [D.str (Str.ofString "upto"), t.d, u.d]])))[s]? = _ := e3
          rw [w_app e3', List.length_append, List.length_map]
          refine ⟨by rw [List.length_singleton]; omega, ?_⟩
          refine ⟨_, rfl, (fr.set _).set _, ?_, hil⟩
          rw [tk, List.map_append]
          have e4 : ((f.fnd.take i).flatMap Fm.alw).map Fm.d ++ (Fm.cmp .upto t u).alw.map Fm.d = (((f.fnd.take i).flatMap Fm.alw).map Fm.d ++ [(Fm.cmp .upto t u).d]) ++ [(Fm.cmp .below u t).d] := by rw [List.append_assoc]; rfl
          rw [e4]
          exact set_same e3
      | _ => cases acmp
  · rintro _ h' ⟨o2, rfl, fr, e2, il⟩
    walk_at "w1"
    rw [List.length_map, List.take_length] at e2
    exact ⟨s, rfl, fr.keep (kH.trans k1) (by omega), e2⟩
/-! the law's good -/
def GoodS (F : Nat → List D → DH → Res D) : Prop := ∀ (j k : Nat) (f : Fm) (zs : List Str) (n : Nat) (as : List Fm) (h : DH), f.Ok zs → f.dep ≤ j → h[n]? = some (.lst (as.map Fm.d)) → (∀ a ∈ as, a.Ok zs ∧ a.isCmp = true ∧ a.dep ≤ 1) → (∀ c ∈ f.fnd, c ∈ as) →
  SatE (F (k + j + 5) [f.d, .ref n] h) fun d h' => h' = h ∧ d = .bl true
theorem tyD_tup {xs : List D} {h : DH} : tyD (.tup xs) h = some .tuple := rfl
theorem good_S {F Fs : Nat → List D → DH → Res D} (same : SameS Fs) (hF : ∀ k xs h, F (k + 1) xs h = R_law_good (Fs k) (F k) xs h) : GoodS F := by
  intro j
  induction j with
  | zero => intro k f zs n as h ok l; have := dep_pos f; omega
  | succ j ih =>
    intro k f zs n as h ok l hn has hc
    rw [show k + (j + 1) + 5 = (k + j + 5) + 1 from rfl, hF]
    refine w_def rfl ?_; unfold B_law_good
    have loop : f.isCmp = true → ∀ {N C B : DSt → DH → Prop} {R : D → DH → Prop} {o2 o3 o4 : Option D}, R (.bl true) h → SatE (iSeq (mVar 1) [some f.d, some (.ref n), o2, o3, o4] h) fun it h1 => SatN (forN it (gNm 4) (sIf (mTest (mCB (Fs (k + j + 5)) (aCons (mVar 0) (aCons (mVar 4) aNil)))) (sRet (mC (.bl true))) sNext) (it.len h1 + 1) 0 [some f.d, some (.ref n), o2, o3, o4] h1) N C B R := fun hcmp N C B R o2 o3 o4 p => by
      have hfd : f.fnd = [f] := by cases f <;> first | rfl | (cases hcmp; done)
      have hf : f ∈ as := hc f (by rw [hfd]; exact List.mem_singleton.mpr rfl)
      refine w_seqL (n := n) (xs := as.map Fm.d) ?_
      walk_at "w1"
      refine ⟨items_lst hn, ?_⟩
      refine for_lst (xs := as.map Fm.d) (fun i ds' h' => (∃ o, ds' = [some f.d, some (.ref n), o2, o3, o]) ∧ h' = h ∧ ∀ x ∈ (as.map Fm.d).take i, x ≠ f.d) ⟨⟨_, rfl⟩, rfl, fun x hx => by simp at hx⟩ (fun i ds h' p => by rw [p.2.1]; exact items_lst hn) ?_ ?_
      · rintro i x _ h' hx ⟨⟨o, rfl⟩, rfl, hno⟩
        have hx' := hx
        rw [List.getElem?_map] at hx
        cases q : as[i]? with
        | none => rw [q] at hx; cases hx
        | some a =>
          rw [q] at hx
          cases hx
          obtain ⟨a1, a2, a3⟩ := has a (List.mem_of_getElem? q)
          show SatN _ _ _ _ _
          simp only [gNm, List.set_cons_succ, List.set_cons_zero]
          walk_at "w1"
          refine same 5 (k + j) f.d a.d h' (a.flt 1 a1 a3) (f.flt 1 ok (by cases f <;> first | exact Nat.le_refl _ | (cases hcmp; done))) _ fun b hb => ⟨_, rfl, ?_⟩
          cases b with
          | true => walk_at "wq"; exact p
          | false =>
            walk_at "wq"
            refine ⟨⟨_, rfl⟩, fun y hy => ?_⟩
            rw [List.take_add_one, hx'] at hy
            rcases List.mem_append.mp hy with q2 | q2
            · exact hno y q2
            · have e : y = a.d := by simpa using q2
              rw [e]
              exact fun q3 => absurd (hb.mpr q3.symm) (by decide)
      · rintro _ h' ⟨⟨o, rfl⟩, rfl, hno⟩
        rw [List.take_length] at hno
        exact absurd rfl (hno f.d (List.mem_map.mpr ⟨f, hf, rfl⟩))
    have parts : f.isCmp = false → ∀ {N C B : DSt → DH → Prop} {R : D → DH → Prop} {o2 o3 o4 : Option D}, (∀ o3, N [some f.d, some (.ref n), o2, o3, o4] h) → SatE (iSeq (mSl slD (mVar 0) (oSome (mC (.int 1))) oNone) [some f.d, some (.ref n), o2, o3, o4] h) fun it h1 => SatN (forN it (gNm 3) (sIf (mNot (mTest (mCB (F (k + j + 5)) (aCons (mVar 3) (aCons (mVar 1) aNil))))) (sRet (mC (.bl false))) sNext) (it.len h1 + 1) 0 [some f.d, some (.ref n), o2, o3, o4] h1) N C B R := fun hcmp N C B R o2 o3 o4 p => by
      have er := d_hd f hcmp
      refine w_seqT (xs := f.parts.map Fm.d) ?_
      rw [er]
      walk_at "w1"
      rw [w_tail]
      refine ⟨rfl, ?_⟩
      rw [← er]
      refine for_tup (fun i ds' h' => (∃ o, ds' = [some f.d, some (.ref n), o2, o, o4]) ∧ h' = h) ⟨⟨_, rfl⟩, rfl⟩ ?_ ?_
      · rintro i x _ h' hx ⟨⟨o, rfl⟩, rfl⟩
        rw [List.getElem?_map] at hx
        cases q : f.parts[i]? with
        | none => rw [q] at hx; cases hx
        | some a =>
          rw [q] at hx
          cases hx
          have ha := List.mem_of_getElem? q
          show SatN _ _ _ _ _
          simp only [gNm, List.set_cons_succ, List.set_cons_zero]
          walk_at "w1"
          refine (ih k a zs n as h' (ok_parts ok ha) (by have := dep_parts ha; omega) hn has (fun c hc2 => hc c (by rw [fnd_parts f hcmp]; exact List.mem_flatMap.mpr ⟨a, ha, hc2⟩))).imp ?_
          rintro _ h2 ⟨rfl, rfl⟩
          walk_at "wq"
          exact ⟨_, rfl⟩
      · rintro _ h' ⟨⟨o, rfl⟩, rfl⟩
        exact p o
    cases f with
    | tt => simp only [Fm.d] at parts ⊢; walk_at "wq"; exact parts rfl fun _ => rfl
    | ff => simp only [Fm.d] at parts ⊢; walk_at "wq"; exact parts rfl fun _ => rfl
    | cmp w t u => cases w <;> (simp only [Fm.d, CmpW.s] at loop ⊢; walk_at "wq"; exact loop rfl ⟨rfl, rfl⟩)
    | un w f => cases w <;> (simp only [Fm.d, UnW.s] at parts ⊢; walk_at "wq"; exact parts rfl fun _ => rfl)
    | bi w f g => cases w <;> (simp only [Fm.d, BiW.s] at parts ⊢; walk_at "wq"; exact parts rfl fun _ => rfl)
/-! ### the form of a positive formula -/
def Fm.form : Fm → Bool
  | .un .not f => f.isCmp && (f.hd == "equal") && f.form
  | .un _ f => f.form
  | .bi .implies _ _ => false
  | .bi _ f g => f.form && g.form
  | _ => true
theorem nf_below {t u : Tm} : ¬ (Fm.un .not (.cmp .below t u)).form = true := by
  have q : (CmpW.below.s == ("equal" : Str)) = false := by decide +kernel
  intro h
  simp [Fm.form, Fm.isCmp, Fm.hd, q] at h
theorem nf_upto {t u : Tm} : ¬ (Fm.un .not (.cmp .upto t u)).form = true := by
  have q : (CmpW.upto.s == ("equal" : Str)) = false := by decide +kernel
  intro h
  simp [Fm.form, Fm.isCmp, Fm.hd, q] at h
theorem bi2 {w : BiW} {a b c d : Fm} (h1 : a = c) (h2 : b = d) : Fm.bi w a b = Fm.bi w c d := by rw [h1, h2]
def LformS (F : Nat → List D → DH → Res D) : Prop := ∀ (j k : Nat) (f : Fm) (h : DH), f.form = true → f.dep ≤ j → SatE (F (k + j) [f.d] h) fun d h' => h' = h ∧ d = .bl true
theorem lform_S {F : Nat → List D → DH → Res D} (hF : ∀ k xs h, F (k + 1) xs h = R_law_form (F k) xs h) : LformS F := by
  intro j
  induction j with
  | zero => intro k f h hf l; have := dep_pos f; omega
  | succ j ih =>
    intro k f h hf l
    rw [show k + (j + 1) = (k + j) + 1 from rfl, hF]
    refine w_def rfl ?_; unfold B_law_form
    have parts : f.isCmp = false → (∀ x ∈ f.parts, x.form = true) → ∀ {N C B : DSt → DH → Prop} {R : D → DH → Prop} {o2 : Option D}, (∀ o3, N [some f.d, o3] h) → SatE (iSeq (mSl slD (mVar 0) (oSome (mC (.int 1))) oNone) [some f.d, o2] h) fun it h1 => SatN (forN it (gNm 1) (sIf (mNot (mTest (mCB (F (k + j)) (aCons (mVar 1) aNil)))) (sRet (mC (.bl false))) sNext) (it.len h1 + 1) 0 [some f.d, o2] h1) N C B R := fun hcmp hp N C B R o2 p => by
      have er := d_hd f hcmp
      refine w_seqT (xs := f.parts.map Fm.d) ?_
      rw [er]
      walk_at "w1"
      rw [w_tail]
      refine ⟨rfl, ?_⟩
      rw [← er]
      refine for_tup (fun i ds' h' => (∃ o, ds' = [some f.d, o]) ∧ h' = h) ⟨⟨_, rfl⟩, rfl⟩ ?_ ?_
      · rintro i x _ h' hx ⟨⟨o, rfl⟩, rfl⟩
        rw [List.getElem?_map] at hx
        cases q : f.parts[i]? with
        | none => rw [q] at hx; cases hx
        | some a =>
          rw [q] at hx
          cases hx
          have ha := List.mem_of_getElem? q
          show SatN _ _ _ _ _
          simp only [gNm, List.set_cons_succ, List.set_cons_zero]
          walk_at "w1"
          refine (ih k a h' (hp a ha) (by have := dep_parts ha; omega)).imp ?_
          rintro _ h2 ⟨rfl, rfl⟩
          walk_at "wq"
          exact ⟨_, rfl⟩
      · rintro _ h' ⟨⟨o, rfl⟩, rfl⟩
        exact p o
    cases f with
    | tt => simp only [Fm.d] at parts ⊢; walk_at "wq"; exact parts rfl (fun x hx => nomatch hx) fun _ => rfl
    | ff => simp only [Fm.d] at parts ⊢; walk_at "wq"; exact parts rfl (fun x hx => nomatch hx) fun _ => rfl
    | cmp w t u => cases w <;> (simp only [Fm.d, CmpW.s]; walk_at "wq")
    | un w f =>
      cases w with
      | not =>
        cases f with
        | cmp v t u =>
          cases v with
          | equal => simp only [Fm.d, UnW.s, CmpW.s] at parts ⊢; walk_at "wq"; exact parts rfl (fun x hx => by rw [List.mem_singleton.mp hx]; rfl) fun _ => rfl
          | below => exact absurd hf nf_below
          | upto => exact absurd hf nf_upto
        | _ => exact absurd hf (by simp [Fm.form, Fm.isCmp])
      | next => simp only [Fm.d, UnW.s] at parts ⊢; walk_at "wq"; exact parts rfl (fun x hx => by rw [List.mem_singleton.mp hx]; exact hf) fun _ => rfl
      | eventually => simp only [Fm.d, UnW.s] at parts ⊢; walk_at "wq"; exact parts rfl (fun x hx => by rw [List.mem_singleton.mp hx]; exact hf) fun _ => rfl
      | always => simp only [Fm.d, UnW.s] at parts ⊢; walk_at "wq"; exact parts rfl (fun x hx => by rw [List.mem_singleton.mp hx]; exact hf) fun _ => rfl
    | bi w f g =>
      have hp : w ≠ .implies → ∀ x ∈ [f, g], x.form = true := fun hw x hx => by
        have h2 : (f.form && g.form) = true := by cases w <;> first | exact absurd rfl hw | exact hf
        rw [Bool.and_eq_true] at h2
        rcases List.mem_cons.mp hx with rfl | hx
        · exact h2.1
        · rw [List.mem_singleton.mp hx]; exact h2.2
      cases w with
      | implies => exact absurd hf (by simp [Fm.form])
      | _ => simp only [Fm.d, BiW.s] at parts ⊢; walk_at "wq"; exact parts rfl (hp (by decide)) fun _ => rfl
theorem form_pn : ∀ f : Fm, f.pos.form = true ∧ f.neg.form = true
  | .tt => ⟨rfl, rfl⟩
  | .ff => ⟨rfl, rfl⟩
  | .cmp w t u => ⟨rfl, by cases w <;> first | rfl | decide +kernel⟩
  | .un w f => by
    obtain ⟨a, b⟩ := form_pn f
    cases w <;> exact ⟨by first | exact a | exact b, by first | exact a | exact b⟩
  | .bi w f g => by
    obtain ⟨a, b⟩ := form_pn f
    obtain ⟨c, d⟩ := form_pn g
    cases w <;> refine ⟨(Bool.and_eq_true _ _).mpr ⟨?_, ?_⟩, (Bool.and_eq_true _ _).mpr ⟨?_, ?_⟩⟩ <;> assumption
/-- on positive formulas nothing changes -/
theorem pos_form : ∀ f : Fm, f.form = true → f.pos = f
  | .tt, _ => rfl
  | .ff, _ => rfl
  | .cmp w t u, _ => rfl
  | .un w f, h => by
    cases w with
    | not =>
      cases f with
      | cmp v t u =>
        cases v with
        | equal => rfl
        | below => exact absurd h nf_below
        | upto => exact absurd h nf_upto
      | _ => exact absurd h (by simp [Fm.form, Fm.isCmp])
    | next => exact congrArg (Fm.un .next) (pos_form f h)
    | eventually => exact congrArg (Fm.un .eventually) (pos_form f h)
    | always => exact congrArg (Fm.un .always) (pos_form f h)
  | .bi w f g, h => by
    have h2 : w ≠ .implies → f.pos = f ∧ g.pos = g := fun hw => by
      have h3 : (f.form && g.form) = true := by cases w <;> first | exact absurd rfl hw | exact h
      rw [Bool.and_eq_true] at h3
      exact ⟨pos_form f h3.1, pos_form g h3.2⟩
    cases w with
    | implies => exact absurd h (by simp [Fm.form])
    | _ => exact bi2 (h2 (by decide)).1 (h2 (by decide)).2
theorem pos_pos (f : Fm) : f.pos.pos = f.pos := pos_form _ (form_pn f).1
theorem pos_neg (f : Fm) : f.neg.pos = f.neg := pos_form _ (form_pn f).2
theorem neg_pn : ∀ f : Fm, f.pos.neg = f.neg ∧ f.neg.neg = f.pos
  | .tt => ⟨rfl, rfl⟩
  | .ff => ⟨rfl, rfl⟩
  | .cmp w t u => ⟨rfl, by cases w <;> rfl⟩
  | .un w f => by
    obtain ⟨a, b⟩ := neg_pn f
    cases w with
    | not => exact ⟨b, a⟩
    | next => exact ⟨congrArg (Fm.un .next) a, congrArg (Fm.un .next) b⟩
    | eventually => exact ⟨congrArg (Fm.un .always) a, congrArg (Fm.un .eventually) b⟩
    | always => exact ⟨congrArg (Fm.un .eventually) a, congrArg (Fm.un .always) b⟩
  | .bi w f g => by
    obtain ⟨a, b⟩ := neg_pn f
    obtain ⟨c, d⟩ := neg_pn g
    have p1 := pos_pos g
    cases w with
    | implies => exact ⟨bi2 b c, bi2 a d⟩
    | same => exact ⟨bi2 a p1, bi2 b p1⟩
    | _ => exact ⟨bi2 a c, bi2 b d⟩
theorem sz_pn : ∀ f : Fm, f.pos.sz ≤ 2 * f.sz ∧ f.neg.sz ≤ 2 * f.sz
  | .tt => ⟨by decide, by decide⟩
  | .ff => ⟨by decide, by decide⟩
  | .cmp w t u => by cases w <;> exact ⟨by simp [Fm.pos, Fm.sz], by simp [Fm.neg, cmpNeg, Fm.sz]⟩
  | .un w f => by
    obtain ⟨a, b⟩ := sz_pn f
    cases w <;> simp only [Fm.pos, Fm.neg, Fm.sz, UnW.dual] <;> refine ⟨?_, ?_⟩ <;> omega
  | .bi w f g => by
    obtain ⟨a, b⟩ := sz_pn f
    obtain ⟨c, d⟩ := sz_pn g
    cases w <;> simp only [Fm.pos, Fm.neg, Fm.sz, BiW.dual] <;> refine ⟨?_, ?_⟩ <;> omega
theorem dep_neg {zs : List Str} : ∀ f : Fm, f.Ok zs → (f.pos.Ok zs ∧ f.pos.dep ≤ f.dep + 1) ∧ (f.neg.Ok zs ∧ f.neg.dep ≤ f.dep + 1)
  | .tt, o => ⟨⟨trivial, by decide⟩, trivial, by decide⟩
  | .ff, o => ⟨⟨trivial, by decide⟩, trivial, by decide⟩
  | .cmp w t u, o => by
    refine ⟨⟨o, by simp [Fm.pos, Fm.dep]⟩, ?_⟩
    cases w with
    | equal => exact ⟨o, Nat.le_refl _⟩
    | below => exact ⟨⟨o.2, o.1⟩, Nat.le_succ _⟩
    | upto => exact ⟨⟨o.2, o.1⟩, Nat.le_succ _⟩
  | .un w f, o => by
    obtain ⟨⟨a1, a2⟩, a3, a4⟩ := dep_neg f o
    cases w <;> simp only [Fm.pos, Fm.neg, Fm.Ok, Fm.dep, UnW.dual] <;> refine ⟨⟨?_, ?_⟩, ?_, ?_⟩ <;> first | assumption | omega
  | .bi w f g, o => by
    obtain ⟨⟨a1, a2⟩, a3, a4⟩ := dep_neg f o.1
    obtain ⟨⟨b1, b2⟩, b3, b4⟩ := dep_neg g o.2
    cases w <;> simp only [Fm.pos, Fm.neg, Fm.Ok, Fm.dep, BiW.dual] <;> refine ⟨⟨⟨?_, ?_⟩, ?_⟩, ⟨?_, ?_⟩, ?_⟩ <;> first | assumption | omega
/-- the comparisons of both are allowed -/
theorem fnd_pn : ∀ f : Fm, (∀ c ∈ f.pos.fnd, c ∈ f.fnd.flatMap Fm.alw) ∧ (∀ c ∈ f.neg.fnd, c ∈ f.fnd.flatMap Fm.alw)
  | .tt => ⟨fun c h => (nomatch h), fun c h => nomatch h⟩
  | .ff => ⟨fun c h => (nomatch h), fun c h => nomatch h⟩
  | .cmp w t u => by cases w <;> exact ⟨fun c h => by simp [Fm.pos, Fm.fnd, Fm.alw] at h ⊢; simp [h], fun c h => by simp [Fm.neg, cmpNeg, Fm.fnd, Fm.alw] at h ⊢; simp [h]⟩
  | .un w f => by
    obtain ⟨a, b⟩ := fnd_pn f
    cases w <;> exact ⟨by first | exact a | exact b, by first | exact a | exact b⟩
  | .bi w f g => by
    obtain ⟨a, b⟩ := fnd_pn f
    obtain ⟨c, d⟩ := fnd_pn g
    have j : ∀ {f' g' : Fm}, (∀ c ∈ f'.fnd, c ∈ f.fnd.flatMap Fm.alw) → (∀ c ∈ g'.fnd, c ∈ g.fnd.flatMap Fm.alw) → ∀ c ∈ f'.fnd ++ g'.fnd, c ∈ (f.fnd ++ g.fnd).flatMap Fm.alw := fun h1 h2 c hc => by
      rw [List.flatMap_append]
      rcases List.mem_append.mp hc with q | q
      · exact List.mem_append.mpr (.inl (h1 c q))
      · exact List.mem_append.mpr (.inr (h2 c q))
    cases w <;> refine ⟨j ?_ ?_, j ?_ ?_⟩ <;> assumption
end GA
namespace GA
open PySem L2 Mi
local macro_rules | `(tactic| walk_at "w1") => `(tactic| try simp (decide := true) only [n_next, n_set, n_drop, n_ret, n_retN, n_brk, n_cnt, n_if, n_for, n_aug, w_r1, w_r2, w_c, w_var, w_op, w_un, w_nil, w_cons, w_tup, w_lst, w_cb, w_test, w_bl, w_not, w_and, w_or, w_notV, w_andV, w_orV, w_if, w_yes, w_oN, w_oS, w_ie, w_sl, w_mt, w_isi, w_chain, satE_ok, satE_ite,
  List.getD_cons_zero, List.getD_cons_succ, List.set_cons_zero, List.set_cons_succ, List.map_cons, List.map_nil, List.replicate, List.append_nil, List.cons_append, List.nil_append, List.length_cons, List.length_nil, Nat.reduceAdd, Nat.reduceSub, Nat.zero_add, Int.reduceToNat, Int.reducePow, Int.reduceNeg,
  addD_ii, subD_ii, mulD_ii, mulD_si, fdivD_ii, modD_ii, powD_ii, negD_i, eqD_ii, eqD_ss, eqD_bb, neD_ii, neD_ss, neD_bb, ltD_ii, leD_ii, gtD_ii, geD_ii, intD_i, absD_i, max2_ii, min2_ii, addI_ii, subI_ii, mulC_r, true_and, and_true, and_self, if_true, if_false, ite_true, ite_false])
local macro_rules | `(tactic| walk_at "s") => `(tactic| (rw [n_seq]; walk_at "w1"))
local macro_rules | `(tactic| walk_at "wp") => `(tactic| try simp (decide := true) only [n_next, n_seq, n_set, n_drop, n_ret, n_retN, n_brk, n_cnt, n_if, n_for, n_aug, w_r1, w_r2, w_c, w_var, w_op, w_un, w_nil, w_cons, w_tup, w_lst, w_cb, w_test, w_bl, w_not, w_and, w_or, w_notV, w_andV, w_orV, w_if, w_yes, w_oN, w_oS, w_ie, w_sl, w_mt, w_isi, w_chain, satE_ok, satE_ite,
  List.getD_cons_zero, List.getD_cons_succ, List.set_cons_zero, List.set_cons_succ, List.map_cons, List.map_nil, List.replicate, List.append_nil, List.cons_append, List.nil_append, List.length_cons, List.length_nil, Nat.reduceAdd, Nat.reduceSub, Nat.zero_add, Int.reduceToNat, Int.reducePow, Int.reduceNeg,
  addD_ii, subD_ii, mulD_ii, mulD_si, fdivD_ii, modD_ii, powD_ii, negD_i, eqD_ii, eqD_ss, eqD_bb, neD_ii, neD_ss, neD_bb, ltD_ii, leD_ii, gtD_ii, geD_ii, intD_i, absD_i, max2_ii, min2_ii, addI_ii, subI_ii, mulC_r, true_and, and_true, and_self, if_true, if_false, ite_true, ite_false])
local macro_rules | `(tactic| walk_at "wq") => `(tactic| try simp (decide := true) only [tyS, tyI, tyB, tyT, w_ty, subTy, eq_self, Bool.or_self, intD_b, w_ixNew, atI_0, atI_1, atI_2, lookD, Option.isSome_some, Option.isSome_none, w_ixT0, w_ixT1, w_ixT2, w_inT, w_lenT, w_kd, w_kin, w_star, List.any_cons, List.any_nil, List.all_cons, List.all_nil, eqF_ss, decide_true, decide_false, Bool.or_false, Bool.or_true, Bool.true_or, Bool.false_or, Bool.and_true, Bool.true_and, Bool.and_false, Bool.false_and, Bool.not_true, Bool.not_false, Bool.false_eq_true, Bool.true_eq_false, flatD, eqDD_ii, eqDD_ss, eqDD_bb, neDD_ii, neDD_ss, neDD_bb, n_next, n_seq, n_set, n_drop, n_ret, n_retN, n_brk, n_cnt, n_if, n_for, n_aug, w_r1, w_r2, w_c, w_var, w_op, w_un, w_nil, w_cons, w_tup, w_lst, w_cb, w_test, w_bl, w_not, w_and, w_or, w_notV, w_andV, w_orV, w_if, w_yes, w_oN, w_oS, w_ie, w_sl, w_mt, w_isi, w_chain, satE_ok, satE_ite,
  List.getD_cons_zero, List.getD_cons_succ, List.set_cons_zero, List.set_cons_succ, List.map_cons, List.map_nil, List.replicate, List.append_nil, List.cons_append, List.nil_append, List.length_cons, List.length_nil, Nat.reduceAdd, Nat.reduceSub, Nat.zero_add, Int.reduceToNat, Int.reducePow, Int.reduceNeg,
  addD_ii, subD_ii, mulD_ii, mulD_si, fdivD_ii, modD_ii, powD_ii, negD_i, eqD_ii, eqD_ss, eqD_bb, neD_ii, neD_ss, neD_bb, ltD_ii, leD_ii, gtD_ii, geD_ii, intD_i, absD_i, max2_ii, min2_ii, addI_ii, subI_ii, mulC_r, true_and, and_true, and_self, if_true, if_false, ite_true, ite_false])
def k_LEFT_TRUE : List (Str × D) := [("and", .str "part"), ("or", .str "true"), ("implies", .str "part"), ("same", .str "part"), ("until", .str "eventually"), ("release", .str "part"), ("unless", .str "true"), ("strong", .str "part")]
def k_LEFT_FALSE : List (Str × D) := [("and", .str "false"), ("or", .str "part"), ("implies", .str "true"), ("same", .str "not"), ("until", .str "part"), ("release", .str "always"), ("unless", .str "part"), ("strong", .str "false")]
def k_RIGHT_TRUE : List (Str × D) := [("and", .str "part"), ("or", .str "true"), ("implies", .str "true"), ("same", .str "part"), ("until", .str "true"), ("release", .str "true"), ("unless", .str "true"), ("strong", .str "eventually")]
def k_RIGHT_FALSE : List (Str × D) := [("and", .str "false"), ("or", .str "part"), ("implies", .str "not"), ("same", .str "not"), ("until", .str "false"), ("release", .str "false"), ("unless", .str "always"), ("strong", .str "false")]
-- slots of _law_value: 0 term 1 names 2 state 3 first 4 second
def B_law_value (F_law_value : List D → DH → Res D) : SM :=
  (sSeq (sIf (mTest (mOp eqD (mOp ixD (mVar 0) (mC (.int 0))) (mC (.str "number"))))
      (sRet (mOp ixD (mVar 0) (mC (.int 1))))
      sNext)
      (sSeq (sIf (mTest (mOp eqD (mOp ixD (mVar 0) (mC (.int 0))) (mC (.str "name"))))
      (sRet (mOp ixD (mVar 2) (mMt "list" indexD (mVar 1) (aCons (mOp ixD (mVar 0) (mC (.int 1))) aNil))))
      sNext)
      (sSeq (sAsg (mCB F_law_value (aCons (mOp ixD (mVar 0) (mC (.int 1))) (aCons (mVar 1) (aCons (mVar 2) aNil)))) (gNm 3))
      (sSeq (sIf (mTest (mOp eqD (mOp ixD (mVar 0) (mC (.int 0))) (mC (.str "negative"))))
      (sRet (mOp subD (mC (.int 0)) (mVar 3)))
      sNext)
      (sSeq (sIf (mTest (mOp eqD (mOp ixD (mVar 0) (mC (.int 0))) (mC (.str "quotient"))))
      (sRet (mOp fdivD (mVar 3) (mOp ixD (mVar 0) (mC (.int 2)))))
      sNext)
      (sSeq (sIf (mTest (mOp eqD (mOp ixD (mVar 0) (mC (.int 0))) (mC (.str "remainder"))))
      (sRet (mOp subD (mVar 3) (mOp mulD (mOp fdivD (mVar 3) (mOp ixD (mVar 0) (mC (.int 2)))) (mOp ixD (mVar 0) (mC (.int 2))))))
      sNext)
      (sSeq (sAsg (mCB F_law_value (aCons (mOp ixD (mVar 0) (mC (.int 2))) (aCons (mVar 1) (aCons (mVar 2) aNil)))) (gNm 4))
      (sSeq (sIf (mTest (mOp eqD (mOp ixD (mVar 0) (mC (.int 0))) (mC (.str "plus"))))
      (sRet (mOp addD (mVar 3) (mVar 4)))
      sNext)
      (sSeq (sIf (mTest (mOp eqD (mOp ixD (mVar 0) (mC (.int 0))) (mC (.str "minus"))))
      (sRet (mOp subD (mVar 3) (mVar 4)))
      sNext)
      (sSeq (sIf (mTest (mOp eqD (mOp ixD (mVar 0) (mC (.int 0))) (mC (.str "times"))))
      (sRet (mOp mulD (mVar 3) (mVar 4)))
      sNext)
      (sSeq (sIf (mTest (mOp eqD (mOp ixD (mVar 0) (mC (.int 0))) (mC (.str "least"))))
      (sRet (mCB min2D (aCons (mVar 3) (aCons (mVar 4) aNil))))
      sNext)
      (sRet (mCB max2D (aCons (mVar 3) (aCons (mVar 4) aNil)))))))))))))))
abbrev R_law_value (F_law_value : List D → DH → Res D) : List D → DH → Res D := runF 3 5 (B_law_value F_law_value)
-- slots of _law_holds: 0 comparison 1 names 2 state 3 first 4 second
def B_law_holds (F_law_value : List D → DH → Res D) : SM :=
  (sSeq (sAsg (mCB F_law_value (aCons (mOp ixD (mVar 0) (mC (.int 1))) (aCons (mVar 1) (aCons (mVar 2) aNil)))) (gNm 3))
      (sSeq (sAsg (mCB F_law_value (aCons (mOp ixD (mVar 0) (mC (.int 2))) (aCons (mVar 1) (aCons (mVar 2) aNil)))) (gNm 4))
      (sSeq (sIf (mTest (mOp eqD (mOp ixD (mVar 0) (mC (.int 0))) (mC (.str "equal"))))
      (sRet (mOp eqDD (mVar 3) (mVar 4)))
      sNext)
      (sSeq (sIf (mTest (mOp eqD (mOp ixD (mVar 0) (mC (.int 0))) (mC (.str "below"))))
      (sRet (mOp ltD (mVar 3) (mVar 4)))
      sNext)
      (sRet (mOp leD (mVar 3) (mVar 4)))))))
abbrev R_law_holds (F_law_value : List D → DH → Res D) : List D → DH → Res D := runF 3 5 (B_law_holds F_law_value)
-- slots of _law_after: 0 place 1 back 2 many
def B_law_after : SM :=
  (sSeq (sIf (mTest (mOp ltD (mOp addD (mVar 0) (mC (.int 1))) (mVar 2)))
      (sRet (mOp addD (mVar 0) (mC (.int 1))))
      sNext)
      (sRet (mVar 1)))
abbrev R_law_after : List D → DH → Res D := runF 3 3 (B_law_after)
-- slots of _law_walk: 0 place 1 back 2 first 3 second 4 end 5 step
def B_law_walk (F_law_after : List D → DH → Res D) : SM :=
  (sSeq (sFor (iR1 (mCB lenD (aCons (mVar 2) aNil))) (gNm 5)
      (sSeq (sIf (mTest (mOp ixD (mVar 3) (mVar 0)))
      (sRet (mC (.bl true)))
      sNext)
      (sSeq (sIf (mNot (mTest (mOp ixD (mVar 2) (mVar 0))))
      (sRet (mC (.bl false)))
      sNext)
      (sAsg (mCB F_law_after (aCons (mVar 0) (aCons (mVar 1) (aCons (mCB lenD (aCons (mVar 2) aNil)) aNil)))) (gNm 0)))))
      (sRet (mVar 4)))
abbrev R_law_walk (F_law_after : List D → DH → Res D) : List D → DH → Res D := runF 5 6 (B_law_walk F_law_after)
-- slots of _law_temporal: 0 word 1 first 2 second 3 back 4 many 5 no_first 6 no_second 7 both 8 bit 9 k
def B_law_temporal (F_law_walk : List D → DH → Res D) : SM :=
  (sSeq (sAsg (mCB lenD (aCons (mVar 1) aNil)) (gNm 4))
      (sSeq (sIf (mTest (mOp eqD (mVar 0) (mC (.str "until"))))
      (sRet (mLc (iR1 (mVar 4)) 9 mYes (mCB F_law_walk (aCons (mVar 9) (aCons (mVar 3) (aCons (mVar 1) (aCons (mVar 2) (aCons (mC (.bl false)) aNil)))))) [9]))
      sNext)
      (sSeq (sIf (mTest (mOp eqD (mVar 0) (mC (.str "unless"))))
      (sRet (mLc (iR1 (mVar 4)) 9 mYes (mCB F_law_walk (aCons (mVar 9) (aCons (mVar 3) (aCons (mVar 1) (aCons (mVar 2) (aCons (mC (.bl true)) aNil)))))) [9]))
      sNext)
      (sSeq (sIf (mTest (mOp eqD (mVar 0) (mC (.str "strong"))))
      (sSeq (sAsg (mLc (iR1 (mVar 4)) 9 mYes (mAndV (mOp ixD (mVar 1) (mVar 9)) (mOp ixD (mVar 2) (mVar 9))) [9]) (gNm 7))
      (sRet (mLc (iR1 (mVar 4)) 9 mYes (mCB F_law_walk (aCons (mVar 9) (aCons (mVar 3) (aCons (mVar 2) (aCons (mVar 7) (aCons (mC (.bl false)) aNil)))))) [9])))
      sNext)
      (sSeq (sAsg (mLc (iSeq (mVar 1)) 8 mYes (mNotV (mVar 8)) [8]) (gNm 5))
      (sSeq (sAsg (mLc (iSeq (mVar 2)) 8 mYes (mNotV (mVar 8)) [8]) (gNm 6))
      (sRet (mLc (iR1 (mVar 4)) 9 mYes (mNotV (mCB F_law_walk (aCons (mVar 9) (aCons (mVar 3) (aCons (mVar 5) (aCons (mVar 6) (aCons (mC (.bl false)) aNil))))))) [9]))))))))
abbrev R_law_temporal (F_law_walk : List D → DH → Res D) : List D → DH → Res D := runF 4 10 (B_law_temporal F_law_walk)
-- slots of _law_along: 0 tree 1 names 2 run 3 back 4 word 5 many 6 first 7 second 8 state 9 bit 10 k
def B_law_along (F_law_holds F_law_along F_law_after F_law_walk F_law_temporal : List D → DH → Res D) : SM :=
  (sSeq (sAsg (mOp ixD (mVar 0) (mC (.int 0))) (gNm 4))
      (sSeq (sAsg (mCB lenD (aCons (mVar 2) aNil)) (gNm 5))
      (sSeq (sIf (mOr (mTest (mOp eqD (mVar 4) (mC (.str "true")))) (mTest (mOp eqD (mVar 4) (mC (.str "false")))))
      (sRet (mLc (iSeq (mVar 2)) 8 mYes (mOp eqD (mVar 4) (mC (.str "true"))) [8]))
      sNext)
      (sSeq (sIf (mTest (mOp (inD false) (mVar 4) (mTup (aCons (mC (.str "equal")) (aCons (mC (.str "below")) (aCons (mC (.str "upto")) aNil))))))
      (sRet (mLc (iSeq (mVar 2)) 8 mYes (mCB F_law_holds (aCons (mVar 0) (aCons (mVar 1) (aCons (mVar 8) aNil)))) [8]))
      sNext)
      (sSeq (sAsg (mCB F_law_along (aCons (mOp ixD (mVar 0) (mC (.int 1))) (aCons (mVar 1) (aCons (mVar 2) (aCons (mVar 3) aNil))))) (gNm 6))
      (sSeq (sIf (mTest (mOp eqD (mVar 4) (mC (.str "not"))))
      (sRet (mLc (iSeq (mVar 6)) 9 mYes (mNotV (mVar 9)) [9]))
      sNext)
      (sSeq (sIf (mTest (mOp eqD (mVar 4) (mC (.str "next"))))
      (sRet (mLc (iR1 (mVar 5)) 10 mYes (mOp ixD (mVar 6) (mCB F_law_after (aCons (mVar 10) (aCons (mVar 3) (aCons (mVar 5) aNil))))) [10]))
      sNext)
      (sSeq (sIf (mTest (mOp eqD (mVar 4) (mC (.str "eventually"))))
      (sRet (mLc (iR1 (mVar 5)) 10 mYes (mCB F_law_walk (aCons (mVar 10) (aCons (mVar 3) (aCons (mLc (iSeq (mVar 6)) 9 mYes (mC (.bl true)) [9]) (aCons (mVar 6) (aCons (mC (.bl false)) aNil)))))) [10]))
      sNext)
      (sSeq (sIf (mTest (mOp eqD (mVar 4) (mC (.str "always"))))
      (sRet (mLc (iR1 (mVar 5)) 10 mYes (mCB F_law_walk (aCons (mVar 10) (aCons (mVar 3) (aCons (mVar 6) (aCons (mLc (iSeq (mVar 6)) 9 mYes (mC (.bl false)) [9]) (aCons (mC (.bl true)) aNil)))))) [10]))
      sNext)
      (sSeq (sAsg (mCB F_law_along (aCons (mOp ixD (mVar 0) (mC (.int 2))) (aCons (mVar 1) (aCons (mVar 2) (aCons (mVar 3) aNil))))) (gNm 7))
      (sSeq (sIf (mTest (mOp eqD (mVar 4) (mC (.str "and"))))
      (sRet (mLc (iR1 (mVar 5)) 10 mYes (mAndV (mOp ixD (mVar 6) (mVar 10)) (mOp ixD (mVar 7) (mVar 10))) [10]))
      sNext)
      (sSeq (sIf (mTest (mOp eqD (mVar 4) (mC (.str "or"))))
      (sRet (mLc (iR1 (mVar 5)) 10 mYes (mOrV (mOp ixD (mVar 6) (mVar 10)) (mOp ixD (mVar 7) (mVar 10))) [10]))
      sNext)
      (sSeq (sIf (mTest (mOp eqD (mVar 4) (mC (.str "implies"))))
      (sRet (mLc (iR1 (mVar 5)) 10 mYes (mOrV (mNotV (mOp ixD (mVar 6) (mVar 10))) (mOp ixD (mVar 7) (mVar 10))) [10]))
      sNext)
      (sSeq (sIf (mTest (mOp eqD (mVar 4) (mC (.str "same"))))
      (sRet (mLc (iR1 (mVar 5)) 10 mYes (mOp eqDD (mOp ixD (mVar 6) (mVar 10)) (mOp ixD (mVar 7) (mVar 10))) [10]))
      sNext)
      (sRet (mCB F_law_temporal (aCons (mVar 4) (aCons (mVar 6) (aCons (mVar 7) (aCons (mVar 3) aNil))))))))))))))))))))
abbrev R_law_along (F_law_holds F_law_along F_law_after F_law_walk F_law_temporal : List D → DH → Res D) : List D → DH → Res D := runF 4 11 (B_law_along F_law_holds F_law_along F_law_after F_law_walk F_law_temporal)
-- slots of _law_depth: 0 tree 1 deepest 2 part
def B_law_depth (F_law_depth : List D → DH → Res D) : SM :=
  (sSeq (sAsg (mC (.int 0)) (gNm 1))
      (sSeq (sFor (iSeq (mSl slD (mVar 0) (oSome (mC (.int 1))) oNone)) (gNm 2)
      (sIf (mTest (mIsi Ty.tuple (mVar 2)))
      (sAsg (mCB max2D (aCons (mVar 1) (aCons (mCB F_law_depth (aCons (mVar 2) aNil)) aNil))) (gNm 1))
      sNext))
      (sRet (mOp addD (mVar 1) (mC (.int 1))))))
abbrev R_law_depth (F_law_depth : List D → DH → Res D) : List D → DH → Res D := runF 1 3 (B_law_depth F_law_depth)
-- slots of _law_waits: 0 tree 1 waits 2 part
def B_law_waits (F_law_waits : List D → DH → Res D) : SM :=
  (sSeq (sFor (iSeq (mSl slD (mVar 0) (oSome (mC (.int 1))) oNone)) (gNm 2)
      (sIf (mTest (mIsi Ty.tuple (mVar 2)))
      (sAsg (mCB F_law_waits (aCons (mVar 2) (aCons (mVar 1) aNil))) (gNm 1))
      sNext))
      (sSeq (sIf (mAnd (mTest (mOp (inD false) (mOp ixD (mVar 0) (mC (.int 0))) (mTup (aCons (mC (.str "next")) (aCons (mC (.str "eventually")) (aCons (mC (.str "always")) (aCons (mC (.str "until")) (aCons (mC (.str "release")) (aCons (mC (.str "unless")) (aCons (mC (.str "strong")) aNil)))))))))) (mTest (mOp (inDD true) (mVar 0) (mVar 1))))
      (sRet (mOp addD (mVar 1) (mLst (aCons (mVar 0) aNil))))
      sNext)
      (sRet (mVar 1))))
abbrev R_law_waits (F_law_waits : List D → DH → Res D) : List D → DH → Res D := runF 2 3 (B_law_waits F_law_waits)
-- slots of _law_constants: 0 tree 1 total 2 part
def B_law_constants (F_law_constants : List D → DH → Res D) : SM :=
  (sSeq (sIf (mTest (mOp (inD false) (mOp ixD (mVar 0) (mC (.int 0))) (mTup (aCons (mC (.str "equal")) (aCons (mC (.str "below")) (aCons (mC (.str "upto")) aNil))))))
      (sRet (mC (.int 0)))
      sNext)
      (sSeq (sAsg (mCB intD (aCons (mOp (inD false) (mOp ixD (mVar 0) (mC (.int 0))) (mTup (aCons (mC (.str "true")) (aCons (mC (.str "false")) aNil)))) aNil)) (gNm 1))
      (sSeq (sFor (iSeq (mSl slD (mVar 0) (oSome (mC (.int 1))) oNone)) (gNm 2)
      (sAsg (mOp addD (mVar 1) (mCB F_law_constants (aCons (mVar 2) aNil))) (gNm 1)))
      (sRet (mVar 1)))))
abbrev R_law_constants (F_law_constants : List D → DH → Res D) : List D → DH → Res D := runF 1 3 (B_law_constants F_law_constants)
-- slots of shrink: 0 formula 1 parts 2 part
def Bshrink (Fshrink Fshrunk_one Fshrunk_two : List D → DH → Res D) : SM :=
  (sSeq (sIf (mTest (mOp (inD false) (mOp ixD (mVar 0) (mC (.int 0))) (mC (.tup k_COMPARISONS))))
      (sRet (mVar 0))
      sNext)
      (sSeq (sAsg (mLc (iSeq (mSl slD (mVar 0) (oSome (mC (.int 1))) oNone)) 2 mYes (mCB Fshrink (aCons (mVar 2) aNil)) [2]) (gNm 1))
      (sSeq (sIf (mTest (mOp eqD (mCB lenD (aCons (mVar 1) aNil)) (mC (.int 1))))
      (sRet (mCB Fshrunk_one (aCons (mOp ixD (mVar 0) (mC (.int 0))) (aCons (mOp ixD (mVar 1) (mC (.int 0))) aNil))))
      sNext)
      (sSeq (sIf (mTest (mOp eqD (mCB lenD (aCons (mVar 1) aNil)) (mC (.int 2))))
      (sRet (mCB Fshrunk_two (aCons (mOp ixD (mVar 0) (mC (.int 0))) (aCons (mOp ixD (mVar 1) (mC (.int 0))) (aCons (mOp ixD (mVar 1) (mC (.int 1))) aNil)))))
      sNext)
      (sRet (mVar 0))))))
abbrev Rshrink (Fshrink Fshrunk_one Fshrunk_two : List D → DH → Res D) : List D → DH → Res D := runF 1 3 (Bshrink Fshrink Fshrunk_one Fshrunk_two)
-- slots of shrunk_one: 0 word 1 part
def Bshrunk_one : SM :=
  (sSeq (sIf (mTest (mOp (inD true) (mOp ixD (mVar 1) (mC (.int 0))) (mTup (aCons (mC (.str "true")) (aCons (mC (.str "false")) aNil)))))
      (sRet (mTup (aCons (mVar 0) (aCons (mVar 1) aNil))))
      sNext)
      (sSeq (sIf (mTest (mOp neD (mVar 0) (mC (.str "not"))))
      (sRet (mVar 1))
      sNext)
      (sRet (mIf (mTest (mOp eqD (mOp ixD (mVar 1) (mC (.int 0))) (mC (.str "true")))) (mTup (aCons (mC (.str "false")) aNil)) (mTup (aCons (mC (.str "true")) aNil))))))
abbrev Rshrunk_one : List D → DH → Res D := runF 2 2 (Bshrunk_one)
-- slots of shrunk_two: 0 word 1 left 2 right
def Bshrunk_two (Fshrunk_rest : List D → DH → Res D) : SM :=
  (sSeq (sIf (mTest (mOp eqD (mOp ixD (mVar 1) (mC (.int 0))) (mC (.str "true"))))
      (sRet (mCB Fshrunk_rest (aCons (mKD k_LEFT_TRUE (mVar 0)) (aCons (mVar 2) aNil))))
      sNext)
      (sSeq (sIf (mTest (mOp eqD (mOp ixD (mVar 1) (mC (.int 0))) (mC (.str "false"))))
      (sRet (mCB Fshrunk_rest (aCons (mKD k_LEFT_FALSE (mVar 0)) (aCons (mVar 2) aNil))))
      sNext)
      (sSeq (sIf (mTest (mOp eqD (mOp ixD (mVar 2) (mC (.int 0))) (mC (.str "true"))))
      (sRet (mCB Fshrunk_rest (aCons (mKD k_RIGHT_TRUE (mVar 0)) (aCons (mVar 1) aNil))))
      sNext)
      (sSeq (sIf (mTest (mOp eqD (mOp ixD (mVar 2) (mC (.int 0))) (mC (.str "false"))))
      (sRet (mCB Fshrunk_rest (aCons (mKD k_RIGHT_FALSE (mVar 0)) (aCons (mVar 1) aNil))))
      sNext)
      (sRet (mTup (aCons (mVar 0) (aCons (mVar 1) (aCons (mVar 2) aNil)))))))))
abbrev Rshrunk_two (Fshrunk_rest : List D → DH → Res D) : List D → DH → Res D := runF 3 3 (Bshrunk_two Fshrunk_rest)
-- slots of shrunk_rest: 0 rest 1 part
def Bshrunk_rest (Fshrunk_one : List D → DH → Res D) : SM :=
  (sSeq (sIf (mTest (mOp eqD (mVar 0) (mC (.str "part"))))
      (sRet (mVar 1))
      sNext)
      (sSeq (sIf (mTest (mOp (inD false) (mVar 0) (mTup (aCons (mC (.str "true")) (aCons (mC (.str "false")) aNil)))))
      (sRet (mTup (aCons (mVar 0) aNil)))
      sNext)
      (sRet (mCB Fshrunk_one (aCons (mVar 0) (aCons (mVar 1) aNil))))))
abbrev Rshrunk_rest (Fshrunk_one : List D → DH → Res D) : List D → DH → Res D := runF 2 2 (Bshrunk_rest Fshrunk_one)
/-! ### lists by comprehension -/
theorem wipe1 {ds : DSt} {j : Nat} {v : Option D} : (wipeD ds [j]).set j v = ds.set j v := by
  show (ds.set j none).set j v = ds.set j v
  rw [List.set_set]
theorem lc_rng {er e : EM} {j m : Nat} {ds : DSt} {h : DH} {P : D → DH → Prop} (g : Nat → D) (hm : m ≤ 1000000) (hr : SatE (er ds h) fun d h1 => d = .int m ∧ h1 = h) (el : ∀ (i : Nat) h', i < m → Keep h h' → SatE (e (ds.set j (some (.int i))) h') fun d h2 => Keep h' h2 ∧ d = g i)
    (p : ∀ h' n, Keep h h' → h.length ≤ n → h'[n]? = some (.lst ((List.range m).map g)) → P (.ref n) h') : SatE (mLc (iR1 er) j mYes e [j] ds h) P := by
  rw [w_lc, w_r1]
  refine hr.imp ?_
  rintro _ _ ⟨rfl, rfl⟩
  refine ⟨_, rfl, ⟨by omega, by omega⟩, ?_⟩
  rw [Int.toNat_natCast]
  have kp := Keep.app ‹DH› [DO.lst []]
  refine lc_map (List.range m) (fun i => .int i) g _ (get_last _ _) (by simp; omega) (fun i h' _ => ?_) (fun i h' hi fr => ?_) (fun h' e fr => p h' _ (fr.keep kp (Nat.le_refl _)) (Nat.le_refl _) e) (by show m + 1 = _; simp)
  · simp only [Itd.at_]
    by_cases c : i < m
    · rw [if_pos c, List.getElem?_map, List.getElem?_range c]; simp
    · rw [if_neg c, List.getElem?_eq_none (by simpa using c)]
  · rw [wipe1]
    exact el i h' (by simpa using hi) (fr.keep kp (Nat.le_refl _))
theorem lc_list {α : Type} {ei e : EM} {j n0 : Nat} {ds : DSt} {h : DH} {P : D → DH → Prop} (as : List α) (emb g : α → D) (hm : as.length ≤ 1000000) (hr : SatE (ei ds h) fun d h1 => d = .ref n0 ∧ h1 = h) (hn : h[n0]? = some (.lst (as.map emb))) (el : ∀ x h', x ∈ as → Keep h h' → SatE (e (ds.set j (some (emb x))) h') fun d h2 => Keep h' h2 ∧ d = g x)
    (p : ∀ h' n, Keep h h' → h.length ≤ n → h'[n]? = some (.lst (as.map g)) → P (.ref n) h') : SatE (mLc (iSeq ei) j mYes e [j] ds h) P := by
  rw [w_lc]
  refine w_seqL (n := n0) (xs := as.map emb) ?_
  refine hr.imp ?_
  rintro _ h1 ⟨rfl, hq⟩
  subst hq
  refine ⟨rfl, items_lst hn, ?_⟩
  have kp := Keep.app h1 [DO.lst []]
  refine lc_map as emb g _ (get_last _ _) (by omega) (fun i h' fr => ?_) (fun x h' hx fr => ?_) (fun h' e fr => p h' _ (fr.keep kp (Nat.le_refl _)) (Nat.le_refl _) e) (by rw [(at_lst (i := 0) (items_lst hn)).2, List.length_map])
  · have := lt_of_get hn
    exact (at_lst (items_lst (fr n0 _ (by omega) (kp _ _ hn)))).1
  · rw [wipe1]
    exact el x h' hx (fr.keep kp (Nat.le_refl _))
/-! ### truths along a lasso -/
def nxt (m b i : Nat) : Nat := if i + 1 < m then i + 1 else b
def wk (m b : Nat) (p q : Nat → Bool) (e : Bool) : Nat → Nat → Bool
  | 0, _ => e
  | s + 1, i => if q i then true else if p i then wk m b p q e s (nxt m b i) else false
theorem nxt_lt {m b i : Nat} (hb : b < m) : nxt m b i < m := by unfold nxt; split <;> omega
def AfterS (F : List D → DH → Res D) : Prop := ∀ (i b m : Nat) (h : DH) (P : D → DH → Prop), P (.int (nxt m b i)) h → SatE (F [.int i, .int b, .int m] h) P
theorem after_S : AfterS R_law_after := fun i b m h P p => by
  refine w_def rfl ?_; unfold B_law_after
  walk_at "wp"
  unfold nxt at p
  by_cases c : i + 1 < m
  · rw [if_pos c] at p
    rw [if_pos (by simpa using (by omega : (i : Int) + 1 < m))]
    exact p
  · rw [if_neg c] at p
    rw [if_neg (by simpa using (by omega : ¬ (i : Int) + 1 < m))]
    exact p
def Bls (h : DH) (n m : Nat) (p : Nat → Bool) : Prop := h[n]? = some (.lst ((List.range m).map fun i => .bl (p i)))
theorem Bls.keep {h h' : DH} {n m : Nat} {p : Nat → Bool} (b : Bls h n m p) (k : Keep h h') : Bls h' n m p := k _ _ b
theorem Bls.len {h : DH} {n m : Nat} {p : Nat → Bool} (b : Bls h n m p) {P : D → DH → Prop} (q : P (.int m) h) : SatE (lenD [.ref n] h) P := by
  rw [w_len (items_lst b), List.length_map, List.length_range]; exact q
theorem Bls.ix {h : DH} {n m : Nat} {p : Nat → Bool} (b : Bls h n m p) {i : Nat} (hi : i < m) {P : D → DH → Prop} (q : P (.bl (p i)) h) : SatE (ixD (.ref n) (.int i) h) P := by
  rw [w_ixs (items_lst b) (x := .bl (p i)) (atI_pos (by omega) (by rw [Int.toNat_natCast, List.getElem?_map, List.getElem?_range hi]; rfl))]; exact q
def WalkS (F : List D → DH → Res D) : Prop := ∀ (i b m n1 n2 : Nat) (p q : Nat → Bool) (e : Bool) (h : DH) (P : D → DH → Prop), i < m → b < m → m ≤ 1000000 → Bls h n1 m p → Bls h n2 m q → P (.bl (wk m b p q e m i)) h → SatE (F [.int i, .int b, .ref n1, .ref n2, .bl e] h) P
theorem walk_S {F : List D → DH → Res D} (after : AfterS F) : WalkS (R_law_walk F) := fun i b m n1 n2 p q e h P hi hb hm h1 h2 hP => by
  refine w_def rfl ?_; unfold B_law_walk
  rw [n_seq, n_for, w_r1]
  walk_at "w1"
  refine h1.len ⟨_, rfl, ⟨by omega, by omega⟩, ?_⟩
  rw [Int.toNat_natCast]
  refine for_rng (fun s ds' h' => s ≤ m ∧ h' = h ∧ ∃ (i' : Nat) (o : Option D), i' < m ∧ ds' = [some (.int i'), some (.int b), some (.ref n1), some (.ref n2), some (.bl e), o] ∧ wk m b p q e m i = wk m b p q e (m - s) i') ⟨Nat.zero_le _, rfl, i, none, hi, rfl, rfl⟩ ?_ ?_
  · rintro s _ h' hs ⟨_, hq, i', o, hi', rfl, hw⟩
    subst hq
    show SatN _ _ _ _ _
    simp only [gNm, List.set_cons_succ, List.set_cons_zero]
    have e1 : m - s = (m - (s + 1)) + 1 := by omega
    rw [e1] at hw
    simp only [wk] at hw
    rw [n_seq]
    walk_at "w1"
    refine h2.ix hi' ⟨_, rfl, ?_⟩
    refine w_ifE (fun c => ?_) fun c => ?_
    · rw [if_pos c] at hw
      rw [hw] at hP
      exact hP
    · rw [if_neg (by rw [c]; decide)] at hw
      rw [n_seq]
      walk_at "w1"
      refine h1.ix hi' ⟨_, rfl, ?_⟩
      cases c2 : p i' with
      | false =>
        rw [if_neg (by rw [c2]; decide)] at hw
        rw [hw] at hP
        walk_at "wq"
        exact hP
      | true =>
        rw [if_pos c2] at hw
        walk_at "wq"
        refine h1.len ?_
        refine after _ _ _ _ _ ?_
        exact ⟨hs, rfl, nxt m b i', some (.int (0 + (s : Int))), nxt_lt hb, rfl, hw⟩
  · rintro _ h' ⟨_, hq, i', o, hi', rfl, hw⟩
    subst hq
    rw [Nat.sub_self] at hw
    simp only [wk] at hw
    rw [hw] at hP
    walk_at "w1"
    exact hP
/-- the truth of a formula at the places -/
def Fm.al (m b : Nat) (cv : Fm → Nat → Bool) : Fm → Nat → Bool
  | .tt => fun _ => true
  | .ff => fun _ => false
  | .cmp w t u => cv (.cmp w t u)
  | .un .not f => fun i => !(f.al m b cv i)
  | .un .next f => fun i => f.al m b cv (nxt m b i)
  | .un .eventually f => fun i => wk m b (fun _ => true) (f.al m b cv) false m i
  | .un .always f => fun i => wk m b (f.al m b cv) (fun _ => false) true m i
  | .bi .and f g => fun i => f.al m b cv i && g.al m b cv i
  | .bi .or f g => fun i => f.al m b cv i || g.al m b cv i
  | .bi .implies f g => fun i => !(f.al m b cv i) || g.al m b cv i
  | .bi .same f g => fun i => decide (f.al m b cv i = g.al m b cv i)
  | .bi .until f g => fun i => wk m b (f.al m b cv) (g.al m b cv) false m i
  | .bi .unless f g => fun i => wk m b (f.al m b cv) (g.al m b cv) true m i
  | .bi .strong f g => fun i => wk m b (g.al m b cv) (fun i => f.al m b cv i && g.al m b cv i) false m i
  | .bi .release f g => fun i => !(wk m b (fun i => !(f.al m b cv i)) (fun i => !(g.al m b cv i)) false m i)
theorem lc_bls {er e : EM} {j m : Nat} {ds : DSt} {h : DH} {P : D → DH → Prop} (g : Nat → Bool) (hm : m ≤ 1000000) (hr : SatE (er ds h) fun d h1 => d = .int m ∧ h1 = h) (el : ∀ (i : Nat) h', i < m → Keep h h' → SatE (e (ds.set j (some (.int i))) h') fun d h2 => Keep h' h2 ∧ d = .bl (g i))
    (p : ∀ h' n, Keep h h' → h.length ≤ n → Bls h' n m g → P (.ref n) h') : SatE (mLc (iR1 er) j mYes e [j] ds h) P := lc_rng (fun i => .bl (g i)) hm hr el p
theorem lc_bmap {ei e : EM} {j n0 m : Nat} {q : Nat → Bool} {ds : DSt} {h : DH} {P : D → DH → Prop} (g : Bool → Bool) (hm : m ≤ 1000000) (hr : SatE (ei ds h) fun d h1 => d = .ref n0 ∧ h1 = h) (hn : Bls h n0 m q) (el : ∀ (x : Bool) h', Keep h h' → SatE (e (ds.set j (some (.bl x))) h') fun d h2 => Keep h' h2 ∧ d = .bl (g x))
    (p : ∀ h' n, Keep h h' → h.length ≤ n → Bls h' n m (fun i => g (q i)) → P (.ref n) h') : SatE (mLc (iSeq ei) j mYes e [j] ds h) P :=
  lc_list (List.range m) (fun i => .bl (q i)) (fun i => .bl (g (q i))) (by simpa using hm) hr hn (fun x h' _ k => el (q x) h' k) p
def tmpF (w : BiW) (m b : Nat) (p q : Nat → Bool) : Nat → Bool :=
  match w with
  | .until => fun i => wk m b p q false m i
  | .unless => fun i => wk m b p q true m i
  | .strong => fun i => wk m b q (fun i => p i && q i) false m i
  | _ => fun i => !(wk m b (fun i => !(p i)) (fun i => !(q i)) false m i)
def TempS (F : List D → DH → Res D) : Prop := ∀ (w : BiW) (b m n1 n2 : Nat) (p q : Nat → Bool) (h : DH) (P : D → DH → Prop), w = .until ∨ w = .unless ∨ w = .strong ∨ w = .release → b < m → m ≤ 1000000 → Bls h n1 m p → Bls h n2 m q →
  (∀ h' n, Keep h h' → Bls h' n m (tmpF w m b p q) → P (.ref n) h') → SatE (F [.str w.s, .ref n1, .ref n2, .int b] h) P
theorem temp_S {F : List D → DH → Res D} (walk : WalkS F) : TempS (R_law_temporal F) := fun w b m n1 n2 p q h P hw hb hm h1 h2 hP => by
  refine w_def rfl ?_; unfold B_law_temporal
  rw [n_seq]; walk_at "w1"
  refine h1.len ?_
  rcases hw with rfl | rfl | rfl | rfl <;> simp only [BiW.s] <;> simp only [tmpF] at hP <;> walk_at "wq"
  · refine lc_bls (fun i => wk m b p q false m i) hm ?_ (fun i h' hi k => ?_) (fun h' n k _ e => hP h' n k e)
    · walk_at "wq"
    · walk_at "wq"
      exact walk _ _ _ _ _ _ _ _ _ _ hi hb hm (h1.keep k) (h2.keep k) ⟨Keep.refl _, rfl⟩
  · refine lc_bls (fun i => wk m b p q true m i) hm ?_ (fun i h' hi k => ?_) (fun h' n k _ e => hP h' n k e)
    · walk_at "wq"
    · walk_at "wq"
      exact walk _ _ _ _ _ _ _ _ _ _ hi hb hm (h1.keep k) (h2.keep k) ⟨Keep.refl _, rfl⟩
  · refine lc_bls (fun i => p i && q i) hm ?_ (fun i h' hi k => ?_) (fun h' n k _ e => ?_)
    · walk_at "wq"
    · walk_at "wq"
      refine (h1.keep k).ix hi ⟨_, rfl, ?_⟩
      cases p i with
      | true => rw [if_pos rfl]; exact (h2.keep k).ix hi ⟨Keep.refl _, by rw [Bool.true_and]⟩
      | false => exact ⟨Keep.refl _, rfl⟩
    · walk_at "wq"
      refine lc_bls (fun i => wk m b q (fun i => p i && q i) false m i) hm ?_ (fun i h'' hi k2 => ?_) (fun h'' n' k2 _ e2 => hP h'' n' (k.trans k2) e2)
      · walk_at "wq"
      · walk_at "wq"
        exact walk _ _ _ _ _ _ _ _ _ _ hi hb hm ((h2.keep k).keep k2) (e.keep k2) ⟨Keep.refl _, rfl⟩
  · refine lc_bmap (fun x => !x) hm ?_ h1 (fun x h' k => ?_) (fun h' n k _ e => ?_)
    · walk_at "wq"
    · walk_at "wq"
      exact Keep.refl _
    · walk_at "wq"
      refine lc_bmap (fun x => !x) hm ?_ (h2.keep k) (fun x h' k => ?_) (fun h'' n' k2 _ e2 => ?_)
      · walk_at "wq"
      · walk_at "wq"
        exact Keep.refl _
      · walk_at "wq"
        refine lc_bls (fun i => !(wk m b (fun i => !(p i)) (fun i => !(q i)) false m i)) hm ?_ (fun i h3 hi k3 => ?_) (fun h3 n3 k3 _ e3 => hP h3 n3 (k.trans (k2.trans k3)) e3)
        · walk_at "wq"
        · walk_at "wq"
          exact walk _ _ _ _ _ _ _ _ _ _ hi hb hm ((e.keep k2).keep k3) (e2.keep k3) ⟨_, rfl, Keep.refl _, rfl⟩
def AlongS (F : Nat → List D → DH → Res D) (m b : Nat) (cv : Fm → Nat → Bool) (nr rr : D) (J : DH → Prop) (G : Fm → Prop) : Prop := ∀ (j k : Nat) (f : Fm) (h : DH), f.dep ≤ j → (∀ c ∈ f.fnd, G c) → J h → ∀ P : D → DH → Prop, (∀ h' n, Keep h h' → J h' → Bls h' n m (f.al m b cv) → P (.ref n) h') → SatE (F (k + j) [f.d, nr, rr, .int b] h) P
theorem along_S {F Fh Fa Fw Ft : Nat → List D → DH → Res D} {m b r : Nat} {cv : Fm → Nat → Bool} {nr : D} {ss : List D} {J : DH → Prop} {G : Fm → Prop} (hm : 0 < m ∧ m ≤ 1000000) (hb : b < m) (k0 : Nat)
    (jk : ∀ h h', J h → Keep h h' → J h') (jr : ∀ h, J h → h[r]? = some (.lst ss)) (hl : ss.length = m)
    (hF : ∀ k xs h, F (k + 1) xs h = R_law_along (Fh k) (F k) (Fa k) (Fw k) (Ft k) xs h) (after : ∀ k, AfterS (Fa (k0 + k))) (walk : ∀ k, WalkS (Fw (k0 + k))) (temp : ∀ k, TempS (Ft (k0 + k)))
    (holds : ∀ k h (w : CmpW) (t u : Tm) (i : Nat) s, J h → G (.cmp w t u) → ss[i]? = some s → SatE (Fh (k0 + k) [(Fm.cmp w t u).d, nr, s] h) fun d h' => Keep h h' ∧ d = .bl (cv (.cmp w t u) i)) :
    AlongS (fun k => F (k + k0)) m b cv nr (.ref r) J G := by
  intro j
  induction j with
  | zero => intro k f h l; have := dep_pos f; omega
  | succ j ih =>
    intro k f h l hG hJ P hP
    have ef : k + (j + 1) + k0 = (k0 + (k + j)) + 1 := by omega
    show SatE (F (k + (j + 1) + k0) _ _) P
    rw [ef, hF]
    have ih : ∀ (f : Fm) (h : DH), f.dep ≤ j → (∀ c ∈ f.fnd, G c) → J h → ∀ P : D → DH → Prop, (∀ h' n, Keep h h' → J h' → Bls h' n m (f.al m b cv) → P (.ref n) h') → SatE (F (k0 + (k + j)) [f.d, nr, .ref r, .int b] h) P := fun f h => by
      have q := ih k f h
      have e2 : k + j + k0 = k0 + (k + j) := by omega
      simp only [e2] at q
      exact q
    have after := after (k + j)
    have walk := walk (k + j)
    have temp := temp (k + j)
    have holds := holds (k + j)
    generalize k0 + (k + j) = K at *
    have len : ∀ {P : D → DH → Prop}, P (.int m) h → SatE (lenD [.ref r] h) P := fun q => by rw [w_len (items_lst (jr h hJ)), hl]; exact q
    refine w_def rfl ?_; unfold B_law_along
    have hss : ss = (List.range m).map fun i => ss.getD i .non := by
      apply List.ext_getElem?
      intro i
      rw [List.getElem?_map]
      by_cases c : i < m
      · rw [List.getElem?_range c]
        rw [Option.map_some, List.getD_eq_getElem?_getD, List.getElem?_eq_getElem (by omega)]; rfl
      · rw [List.getElem?_eq_none (by simpa using (by omega : ss.length ≤ i)), List.getElem?_eq_none (by simpa using c)]; rfl
    have overS : ∀ {e : EM} {jj : Nat} {ds : DSt} (g : Nat → Bool) (_ : ds.getD 2 none = some (.ref r)) (el : ∀ (i : Nat) (s : D) h', ss[i]? = some s → J h' → SatE (e (ds.set jj (some s)) h') fun d h2 => Keep h' h2 ∧ d = .bl (g i)) (p : ∀ h' n, Keep h h' → Bls h' n m g → P (.ref n) h'), SatE (mLc (iSeq (mVar 2)) jj mYes e [jj] ds h) P := fun g e2 el p => by
      refine lc_list (List.range m) (fun i => ss.getD i .non) (fun i => .bl (g i)) (by simpa using hm.2) (n0 := r) ?_ (by rw [← hss]; exact jr h hJ) (fun i h' hi k2 => ?_) (fun h' n k2 _ e => p h' n k2 e)
      · rw [w_var, e2]; exact ⟨rfl, rfl⟩
      · have hi : i < m := by simpa using hi
        exact el i _ h' (by rw [List.getD_eq_getElem?_getD, List.getElem?_eq_getElem (by omega)]; rfl) (jk _ _ hJ k2)
    cases f with
    | tt =>
      simp only [Fm.d]
      walk_at "wq"
      refine len ?_
      refine overS (fun _ => true) rfl (fun i s h' hs _ => ?_) (fun h' n k2 e => hP h' n k2 (jk _ _ hJ k2) e)
      walk_at "wq"
      exact Keep.refl _
    | ff =>
      simp only [Fm.d]
      walk_at "wq"
      refine len ?_
      refine overS (fun _ => false) rfl (fun i s h' hs _ => ?_) (fun h' n k2 e => hP h' n k2 (jk _ _ hJ k2) e)
      walk_at "wq"
      exact Keep.refl _
    | cmp w t u =>
      have hg : G (.cmp w t u) := hG _ (List.mem_singleton.mpr rfl)
      have key : SatE (mLc (iSeq (mVar 2)) 8 mYes (mCB (Fh K) (aCons (mVar 0) (aCons (mVar 1) (aCons (mVar 8) aNil)))) [8] [some (Fm.cmp w t u).d, some nr, some (.ref r), some (.int b), some (.str w.s), some (.int m), none, none, none, none, none] h) P := by
        refine overS (fun i => cv (.cmp w t u) i) rfl (fun i s h' hs hj => ?_) (fun h' n k2 e => hP h' n k2 (jk _ _ hJ k2) e)
        walk_at "w1"
        exact holds h' w t u i s hj hg hs
      cases w <;> (simp only [Fm.d, CmpW.s] at key ⊢; walk_at "wq"; exact len key)
    | un w f =>
      have l : f.dep ≤ j := Nat.le_of_succ_le_succ l
      have i1 := ih f h l hG hJ
      cases w with
      | not =>
        simp only [Fm.d, UnW.s]
        walk_at "wq"
        refine len ?_
        refine i1 _ fun h1 n1 k1 j1 e1 => ?_
        walk_at "wq"
        refine lc_bmap (fun x => !x) hm.2 (n0 := n1) ?_ e1 (fun x h' k2 => ?_) (fun h' n k2 _ e => hP h' n (k1.trans k2) (jk _ _ j1 k2) e)
        · walk_at "wq"
        · walk_at "wq"
          exact Keep.refl _
      | next =>
        simp only [Fm.d, UnW.s]
        walk_at "wq"
        refine len ?_
        refine i1 _ fun h1 n1 k1 j1 e1 => ?_
        walk_at "wq"
        refine lc_bls (fun i => f.al m b cv (nxt m b i)) hm.2 ?_ (fun i h' hi k2 => ?_) (fun h' n k2 _ e => hP h' n (k1.trans k2) (jk _ _ j1 k2) e)
        · walk_at "wq"
        · walk_at "wq"
          refine after _ _ _ _ _ ?_
          exact (e1.keep k2).ix (nxt_lt hb) ⟨Keep.refl _, rfl⟩
      | eventually =>
        simp only [Fm.d, UnW.s]
        walk_at "wq"
        refine len ?_
        refine i1 _ fun h1 n1 k1 j1 e1 => ?_
        walk_at "wq"
        refine lc_bls (fun i => wk m b (fun _ => true) (f.al m b cv) false m i) hm.2 ?_ (fun i h' hi k2 => ?_) (fun h' n k2 _ e => hP h' n (k1.trans k2) (jk _ _ j1 k2) e)
        · walk_at "wq"
        · walk_at "wq"
          refine lc_bmap (fun _ => true) hm.2 (n0 := n1) ?_ (e1.keep k2) (fun x h'' k3 => ?_) (fun h'' n k3 _ e => ?_)
          · walk_at "wq"
          · walk_at "wq"
            exact Keep.refl _
          · walk_at "wq"
            exact walk _ _ _ _ _ _ _ _ _ _ hi hb hm.2 e ((e1.keep k2).keep k3) ⟨k3, rfl⟩
      | always =>
        simp only [Fm.d, UnW.s]
        walk_at "wq"
        refine len ?_
        refine i1 _ fun h1 n1 k1 j1 e1 => ?_
        walk_at "wq"
        refine lc_bls (fun i => wk m b (f.al m b cv) (fun _ => false) true m i) hm.2 ?_ (fun i h' hi k2 => ?_) (fun h' n k2 _ e => hP h' n (k1.trans k2) (jk _ _ j1 k2) e)
        · walk_at "wq"
        · walk_at "wq"
          refine lc_bmap (fun _ => false) hm.2 (n0 := n1) ?_ (e1.keep k2) (fun x h'' k3 => ?_) (fun h'' n k3 _ e => ?_)
          · walk_at "wq"
          · walk_at "wq"
            exact Keep.refl _
          · walk_at "wq"
            exact walk _ _ _ _ _ _ _ _ _ _ hi hb hm.2 ((e1.keep k2).keep k3) e ⟨k3, rfl⟩
    | bi w f g =>
      have l : max f.dep g.dep ≤ j := Nat.le_of_succ_le_succ l
      have hG1 : ∀ c ∈ f.fnd, G c := fun c hc => hG c (List.mem_append.mpr (.inl hc))
      have hG2 : ∀ c ∈ g.fnd, G c := fun c hc => hG c (List.mem_append.mpr (.inr hc))
      have i1 := ih f h (by omega) hG1 hJ
      have i2 := fun h' hj => ih g h' (by omega) hG2 hj
      have tm : ∀ w : BiW, w = .until ∨ w = .unless ∨ w = .strong ∨ w = .release → ∀ h1 n1 n2, Bls h1 n1 m (f.al m b cv) → Bls h1 n2 m (g.al m b cv) → Keep h h1 → J h1 → (tmpF w m b (f.al m b cv) (g.al m b cv) = (Fm.bi w f g).al m b cv) → (∀ h' n, Keep h h' → J h' → Bls h' n m ((Fm.bi w f g).al m b cv) → P (.ref n) h') → SatE (Ft K [.str w.s, .ref n1, .ref n2, .int b] h1) P := fun w hw h1 n1 n2 b1 b2 k1 j1 e hP =>
        temp w b m n1 n2 _ _ h1 P hw hb hm.2 b1 b2 fun h' n k2 e2 => hP h' n (k1.trans k2) (jk _ _ j1 k2) (by rw [← e]; exact e2)
      cases w with
      | and =>
        simp only [Fm.d, BiW.s]
        walk_at "wq"
        refine len ?_
        refine i1 _ fun h1 n1 k1 j1 e1 => ?_
        walk_at "wq"
        refine i2 h1 j1 _ fun h2 n2 k2 j2 e2 => ?_
        walk_at "wq"
        refine lc_bls (fun i => f.al m b cv i && g.al m b cv i) hm.2 ?_ (fun i h' hi k3 => ?_) (fun h' n k3 _ e => hP h' n (k1.trans (k2.trans k3)) (jk _ _ j2 k3) e)
        · walk_at "wq"
        · walk_at "wq"
          refine ((e1.keep k2).keep k3).ix hi ⟨_, rfl, ?_⟩
          cases f.al m b cv i with
          | true => rw [if_pos rfl]; exact (e2.keep k3).ix hi ⟨Keep.refl _, by rw [Bool.true_and]⟩
          | false => exact ⟨Keep.refl _, rfl⟩
      | or =>
        simp only [Fm.d, BiW.s]
        walk_at "wq"
        refine len ?_
        refine i1 _ fun h1 n1 k1 j1 e1 => ?_
        walk_at "wq"
        refine i2 h1 j1 _ fun h2 n2 k2 j2 e2 => ?_
        walk_at "wq"
        refine lc_bls (fun i => f.al m b cv i || g.al m b cv i) hm.2 ?_ (fun i h' hi k3 => ?_) (fun h' n k3 _ e => hP h' n (k1.trans (k2.trans k3)) (jk _ _ j2 k3) e)
        · walk_at "wq"
        · walk_at "wq"
          refine ((e1.keep k2).keep k3).ix hi ⟨_, rfl, ?_⟩
          cases f.al m b cv i with
          | false => exact (e2.keep k3).ix hi ⟨Keep.refl _, by rw [Bool.false_or]⟩
          | true => exact ⟨Keep.refl _, rfl⟩
      | implies =>
        simp only [Fm.d, BiW.s]
        walk_at "wq"
        refine len ?_
        refine i1 _ fun h1 n1 k1 j1 e1 => ?_
        walk_at "wq"
        refine i2 h1 j1 _ fun h2 n2 k2 j2 e2 => ?_
        walk_at "wq"
        refine lc_bls (fun i => !(f.al m b cv i) || g.al m b cv i) hm.2 ?_ (fun i h' hi k3 => ?_) (fun h' n k3 _ e => hP h' n (k1.trans (k2.trans k3)) (jk _ _ j2 k3) e)
        · walk_at "wq"
        · walk_at "wq"
          refine ((e1.keep k2).keep k3).ix hi ⟨_, rfl, ?_⟩
          cases f.al m b cv i with
          | true => exact (e2.keep k3).ix hi ⟨Keep.refl _, rfl⟩
          | false => exact ⟨Keep.refl _, rfl⟩
      | same =>
        simp only [Fm.d, BiW.s]
        walk_at "wq"
        refine len ?_
        refine i1 _ fun h1 n1 k1 j1 e1 => ?_
        walk_at "wq"
        refine i2 h1 j1 _ fun h2 n2 k2 j2 e2 => ?_
        walk_at "wq"
        refine lc_bls (fun i => decide (f.al m b cv i = g.al m b cv i)) hm.2 ?_ (fun i h' hi k3 => ?_) (fun h' n k3 _ e => hP h' n (k1.trans (k2.trans k3)) (jk _ _ j2 k3) e)
        · walk_at "wq"
        · walk_at "wq"
          refine ((e1.keep k2).keep k3).ix hi ?_
          refine (e2.keep k3).ix hi ?_
          rw [eqDD_bb]
          exact ⟨Keep.refl _, rfl⟩
      | «until» =>
        have tm := tm .«until» (.inl rfl)
        simp only [Fm.d, BiW.s] at tm ⊢
        walk_at "wq"
        refine len ?_
        refine i1 _ fun h1 n1 k1 j1 e1 => ?_
        walk_at "wq"
        refine i2 h1 j1 _ fun h2 n2 k2 j2 e2 => ?_
        walk_at "wq"
        exact tm h2 n1 n2 (e1.keep k2) e2 (k1.trans k2) j2 rfl hP
      | «release» =>
        have tm := tm .release (.inr (.inr (.inr rfl)))
        simp only [Fm.d, BiW.s] at tm ⊢
        walk_at "wq"
        refine len ?_
        refine i1 _ fun h1 n1 k1 j1 e1 => ?_
        walk_at "wq"
        refine i2 h1 j1 _ fun h2 n2 k2 j2 e2 => ?_
        walk_at "wq"
        exact tm h2 n1 n2 (e1.keep k2) e2 (k1.trans k2) j2 rfl hP
      | «unless» =>
        have tm := tm .«unless» (.inr (.inl rfl))
        simp only [Fm.d, BiW.s] at tm ⊢
        walk_at "wq"
        refine len ?_
        refine i1 _ fun h1 n1 k1 j1 e1 => ?_
        walk_at "wq"
        refine i2 h1 j1 _ fun h2 n2 k2 j2 e2 => ?_
        walk_at "wq"
        exact tm h2 n1 n2 (e1.keep k2) e2 (k1.trans k2) j2 rfl hP
      | «strong» =>
        have tm := tm .strong (.inr (.inr (.inl rfl)))
        simp only [Fm.d, BiW.s] at tm ⊢
        walk_at "wq"
        refine len ?_
        refine i1 _ fun h1 n1 k1 j1 e1 => ?_
        walk_at "wq"
        refine i2 h1 j1 _ fun h2 n2 k2 j2 e2 => ?_
        walk_at "wq"
        exact tm h2 n1 n2 (e1.keep k2) e2 (k1.trans k2) j2 rfl hP
/-! ### shrinking -/
inductive Rst where | part | t | f | nt | ev | alw
def Rst.s : Rst → Str
  | .part => "part" | .t => "true" | .f => "false" | .nt => "not" | .ev => "eventually" | .alw => "always"
def BiW.lt : BiW → Rst
  | .and => .part | .or => .t | .implies => .part | .same => .part | .until => .ev | .release => .part | .unless => .t | .strong => .part
def BiW.lf : BiW → Rst
  | .and => .f | .or => .part | .implies => .t | .same => .nt | .until => .part | .release => .alw | .unless => .part | .strong => .f
def BiW.rt : BiW → Rst
  | .and => .part | .or => .t | .implies => .t | .same => .part | .until => .t | .release => .t | .unless => .t | .strong => .ev
def BiW.rf : BiW → Rst
  | .and => .f | .or => .part | .implies => .nt | .same => .nt | .until => .f | .release => .f | .unless => .alw | .strong => .f
def Fm.one (w : UnW) : Fm → Fm
  | .tt => if w = .not then .ff else .tt
  | .ff => if w = .not then .tt else .ff
  | p => .un w p
def Rst.on (p : Fm) : Rst → Fm
  | .part => p | .t => .tt | .f => .ff | .nt => p.one .not | .ev => p.one .eventually | .alw => p.one .always
def Fm.two (w : BiW) (l r : Fm) : Fm :=
  match l with
  | .tt => w.lt.on r
  | .ff => w.lf.on r
  | l => (match r with
    | .tt => w.rt.on l
    | .ff => w.rf.on l
    | r => .bi w l r)
def Fm.shr : Fm → Fm
  | .un w f => f.shr.one w
  | .bi w f g => Fm.two w f.shr g.shr
  | f => f
def Fm.isC : Fm → Bool
  | .tt => true
  | .ff => true
  | _ => false
theorem hd_c (w : CmpW) : decide (w.s = ("true" : Str)) = false ∧ decide (w.s = ("false" : Str)) = false := by cases w <;> decide +kernel
theorem hd_u (w : UnW) : decide (w.s = ("true" : Str)) = false ∧ decide (w.s = ("false" : Str)) = false := by cases w <;> decide +kernel
theorem hd_b (w : BiW) : decide (w.s = ("true" : Str)) = false ∧ decide (w.s = ("false" : Str)) = false := by cases w <;> decide +kernel
theorem hd_n {p : Fm} (h : p.isC = false) : decide (p.hd = ("true" : Str)) = false ∧ decide (p.hd = ("false" : Str)) = false := by
  cases p with
  | tt => cases h
  | ff => cases h
  | cmp w t u => exact hd_c w
  | un w f => exact hd_u w
  | bi w f g => exact hd_b w
theorem one_S {w : UnW} {p : Fm} {h : DH} : SatE (Rshrunk_one [.str w.s, p.d] h) fun d h' => h' = h ∧ d = (p.one w).d := by
  refine w_def rfl ?_; unfold Bshrunk_one
  cases c : p.isC with
  | true =>
    cases p with
    | tt => cases w <;> (simp only [Fm.d, UnW.s]; walk_at "wq"; rfl)
    | ff => cases w <;> (simp only [Fm.d, UnW.s]; walk_at "wq"; rfl)
    | _ => cases c
  | false =>
    obtain ⟨r, er⟩ := d_hd' p
    obtain ⟨n1, n2⟩ := hd_n c
    have e2 : (p.one w).d = .tup [.str w.s, p.d] := by cases p <;> first | rfl | cases c
    rw [e2, er]
    have n3 : decide (("true" : Str) = p.hd) = false := by rw [decide_eq_false_iff_not] at n1 ⊢; exact fun q => n1 q.symm
    have n4 : decide (("false" : Str) = p.hd) = false := by rw [decide_eq_false_iff_not] at n2 ⊢; exact fun q => n2 q.symm
    walk_at "wq"
    simp only [n3, n4]
    walk_at "wq"
def OneS (F : List D → DH → Res D) : Prop := ∀ (w : UnW) (p : Fm) (h : DH), SatE (F [.str w.s, p.d] h) fun d h' => h' = h ∧ d = (p.one w).d
def RestS (F : List D → DH → Res D) : Prop := ∀ (r : Rst) (p : Fm) (h : DH), SatE (F [.str r.s, p.d] h) fun d h' => h' = h ∧ d = (r.on p).d
theorem rest_S {F1 : List D → DH → Res D} (one : OneS F1) : RestS (Rshrunk_rest F1) := fun r p h => by
  refine w_def rfl ?_; unfold Bshrunk_rest
  have o1 := one .not p h
  have o2 := one .eventually p h
  have o3 := one .always p h
  cases r <;> simp only [Rst.s] <;> simp only [UnW.s] at o1 o2 o3 <;> walk_at "wq"
  · rfl
  · rfl
  · rfl
  · exact o1
  · exact o2
  · exact o3
def TwoS (F : List D → DH → Res D) : Prop := ∀ (w : BiW) (l r : Fm) (h : DH), SatE (F [.str w.s, l.d, r.d] h) fun d h' => h' = h ∧ d = (Fm.two w l r).d
theorem lk_lt (w : BiW) : lookD k_LEFT_TRUE w.s = some (.str w.lt.s) := by cases w <;> simp (decide := true) only [lookD, k_LEFT_TRUE, BiW.s, BiW.lt, Rst.s, if_true, if_false]
theorem lk_lf (w : BiW) : lookD k_LEFT_FALSE w.s = some (.str w.lf.s) := by cases w <;> simp (decide := true) only [lookD, k_LEFT_FALSE, BiW.s, BiW.lf, Rst.s, if_true, if_false]
theorem lk_rt (w : BiW) : lookD k_RIGHT_TRUE w.s = some (.str w.rt.s) := by cases w <;> simp (decide := true) only [lookD, k_RIGHT_TRUE, BiW.s, BiW.rt, Rst.s, if_true, if_false]
theorem lk_rf (w : BiW) : lookD k_RIGHT_FALSE w.s = some (.str w.rf.s) := by cases w <;> simp (decide := true) only [lookD, k_RIGHT_FALSE, BiW.s, BiW.rf, Rst.s, if_true, if_false]
theorem two_S {F1 : List D → DH → Res D} (rest : RestS F1) : TwoS (Rshrunk_two F1) := fun w l r h => by
  refine w_def rfl ?_; unfold Bshrunk_two
  cases c : l.isC with
  | true =>
    cases l with
    | tt => simp only [Fm.d]; walk_at "wq"; simp only [lk_lt]; exact rest w.lt r h
    | ff => simp only [Fm.d]; walk_at "wq"; simp only [lk_lf]; exact rest w.lf r h
    | _ => cases c
  | false =>
    obtain ⟨rl, el⟩ := d_hd' l
    obtain ⟨n1, n2⟩ := hd_n c
    cases c2 : r.isC with
    | true =>
      cases r with
      | tt =>
        have e2 : Fm.two w l .tt = w.rt.on l := by cases l <;> first | rfl | cases c
        have q := rest w.rt l h
        rw [e2]
        rw [el] at q ⊢
        simp only [Fm.d]
        walk_at "wq"
        simp only [n1, n2]
        walk_at "wq"
        simp only [lk_rt]
        exact q
      | ff =>
        have e2 : Fm.two w l .ff = w.rf.on l := by cases l <;> first | rfl | cases c
        have q := rest w.rf l h
        rw [e2]
        rw [el] at q ⊢
        simp only [Fm.d]
        walk_at "wq"
        simp only [n1, n2]
        walk_at "wq"
        simp only [lk_rf]
        exact q
      | _ => cases c2
    | false =>
      obtain ⟨rr, er⟩ := d_hd' r
      obtain ⟨n3, n4⟩ := hd_n c2
      have e2 : (Fm.two w l r).d = .tup [.str w.s, l.d, r.d] := by cases l <;> first | cases c; done | (cases r <;> first | rfl | cases c2)
      rw [e2, el, er]
      walk_at "wq"
      simp only [n1, n2, n3, n4]
      walk_at "wq"
def ShrS (F : Nat → List D → DH → Res D) : Prop := ∀ (j k : Nat) (f : Fm) (h : DH), f.dep ≤ j → SatE (F (k + j + 2) [f.d] h) fun d h' => Keep h h' ∧ d = f.shr.d
theorem shr_S {F Fo Ft : Nat → List D → DH → Res D} (one : ∀ k, OneS (Fo (k + 1))) (two : ∀ k, TwoS (Ft (k + 3))) (hF : ∀ k xs h, F (k + 1) xs h = Rshrink (F k) (Fo k) (Ft k) xs h) : ShrS F := by
  intro j
  induction j with
  | zero => intro k f h l; have := dep_pos f; omega
  | succ j ih =>
    intro k f h l
    rw [show k + (j + 1) + 2 = (k + j + 2) + 1 from rfl, hF]
    refine w_def rfl ?_; unfold Bshrink
    obtain ⟨r, er⟩ := d_hd' f
    rw [er]
    rw [n_seq]; walk_at "w1"
    rw [w_ixT0, w_in_tup rfl (by decide +kernel)]
    walk_at "w1"
    try simp only [Bool.false_eq_true, if_false]
    rw [cmp_in]
    refine w_ifE (fun c => ?_) fun c => ?_
    · rw [← er]
      refine ⟨Keep.refl h, ?_⟩
      cases f <;> first | rfl | cases c
    · have er2 := d_hd f c
      rw [er] at er2
      injection er2 with er2
      injection er2 with _ er2
      subst er2
      rw [n_seq]; walk_at "w1"
      refine lc_parts f.parts (fun f => f.shr.d) rfl (by simp) (by have := len_parts f; omega) (fun a ha h' => ih k a h' (by have := dep_parts ha; omega)) fun h' n kp e => ?_
      rw [← er]
      rw [n_seq]; walk_at "w1"
      rw [w_len (items_lst e), List.length_map]
      cases f with
      | tt => simp only [Fm.d, Fm.parts]; walk_at "wq"; rw [w_len (items_lst e)]; simp only [Fm.parts, List.map_nil, List.length_nil]; walk_at "wq"; exact ⟨kp, rfl⟩
      | ff => simp only [Fm.d, Fm.parts]; walk_at "wq"; rw [w_len (items_lst e)]; simp only [Fm.parts, List.map_nil, List.length_nil]; walk_at "wq"; exact ⟨kp, rfl⟩
      | cmp w t u => cases c
      | un w f =>
        simp only [Fm.d, Fm.parts]
        walk_at "wq"
        rw [w_ixs (items_lst e) (x := f.shr.d) atI_0]
        exact (one (k + j + 1) w f.shr h').imp fun d h2 ⟨e1, e2⟩ => ⟨by rw [e1]; exact kp, e2⟩
      | bi w f g =>
        simp only [Fm.d, Fm.parts]
        walk_at "wq"
        rw [w_len (items_lst e)]
        simp only [Fm.parts, List.map_cons, List.map_nil, List.length_cons, List.length_nil]
        walk_at "wq"
        rw [w_ixs (items_lst e) (x := f.shr.d) atI_0, w_ixs (items_lst e) (x := g.shr.d) atI_1]
        have l : max f.dep g.dep ≤ j := Nat.le_of_succ_le_succ l
        have := dep_pos f
        obtain ⟨j', rfl⟩ : ∃ j', j = j' + 1 := ⟨j - 1, by omega⟩
        exact (two (k + j') w f.shr g.shr h').imp fun d h2 ⟨e1, e2⟩ => ⟨by rw [e1]; exact kp, e2⟩
/-! ### what shrinking does -/
theorem one_sz (w : UnW) (p : Fm) : (p.one w).sz ≤ p.sz + 1 := by cases p <;> cases w <;> simp [Fm.one, Fm.sz]
theorem on_sz (r : Rst) (p : Fm) : (r.on p).sz ≤ p.sz + 1 := by
  cases r with
  | part => exact Nat.le_succ _
  | t => exact Nat.succ_le_succ (Nat.zero_le _)
  | f => exact Nat.succ_le_succ (Nat.zero_le _)
  | nt => exact one_sz _ _
  | ev => exact one_sz _ _
  | alw => exact one_sz _ _
theorem two_cases (w : BiW) (l r : Fm) : (∃ q : Rst, Fm.two w l r = q.on r) ∨ (∃ q : Rst, Fm.two w l r = q.on l) ∨ Fm.two w l r = .bi w l r := by
  cases l <;> first | exact .inl ⟨_, rfl⟩ | (cases r <;> first | exact .inr (.inl ⟨_, rfl⟩) | exact .inr (.inr rfl))
theorem shr_sz : ∀ f : Fm, f.shr.sz ≤ f.sz
  | .tt => Nat.le_refl _
  | .ff => Nat.le_refl _
  | .cmp _ _ _ => Nat.le_refl _
  | .un w f => Nat.le_trans (one_sz w f.shr) (Nat.succ_le_succ (shr_sz f))
  | .bi w f g => by
    have a := shr_sz f
    have b := shr_sz g
    show (Fm.two w f.shr g.shr).sz ≤ f.sz + g.sz + 1
    rcases two_cases w f.shr g.shr with ⟨q, e⟩ | ⟨q, e⟩ | e <;> rw [e]
    · have := on_sz q g.shr; omega
    · have := on_sz q f.shr; omega
    · show f.shr.sz + g.shr.sz + 1 ≤ _; omega
theorem one_ok {zs : List Str} {w : UnW} {p : Fm} (h : p.Ok zs) : (p.one w).Ok zs := by cases p <;> cases w <;> first | exact h | trivial
theorem on_ok {zs : List Str} {q : Rst} {p : Fm} (h : p.Ok zs) : (q.on p).Ok zs := by cases q <;> first | exact h | trivial | exact one_ok h
theorem shr_ok {zs : List Str} : ∀ f : Fm, f.Ok zs → f.shr.Ok zs
  | .tt, h => h
  | .ff, h => h
  | .cmp _ _ _, h => h
  | .un w f, h => one_ok (shr_ok f h)
  | .bi w f g, h => by
    show (Fm.two w f.shr g.shr).Ok zs
    rcases two_cases w f.shr g.shr with ⟨q, e⟩ | ⟨q, e⟩ | e <;> rw [e]
    · exact on_ok (shr_ok g h.2)
    · exact on_ok (shr_ok f h.1)
    · exact ⟨shr_ok f h.1, shr_ok g h.2⟩
theorem one_fnd {w : UnW} {p c : Fm} (h : c ∈ (p.one w).fnd) : c ∈ p.fnd := by cases p <;> cases w <;> first | exact h | cases h
theorem on_fnd {q : Rst} {p c : Fm} (h : c ∈ (q.on p).fnd) : c ∈ p.fnd := by cases q <;> first | exact h | exact one_fnd h | cases h
theorem shr_fnd : ∀ (f c : Fm), c ∈ f.shr.fnd → c ∈ f.fnd
  | .tt, c, h => h
  | .ff, c, h => h
  | .cmp _ _ _, c, h => h
  | .un w f, c, h => shr_fnd f c (one_fnd h)
  | .bi w f g, c, h => by
    have h : c ∈ (Fm.two w f.shr g.shr).fnd := h
    show c ∈ f.fnd ++ g.fnd
    rcases two_cases w f.shr g.shr with ⟨q, e⟩ | ⟨q, e⟩ | e <;> rw [e] at h
    · exact List.mem_append.mpr (.inr (shr_fnd g c (on_fnd h)))
    · exact List.mem_append.mpr (.inl (shr_fnd f c (on_fnd h)))
    · rcases List.mem_append.mp h with h | h
      · exact List.mem_append.mpr (.inl (shr_fnd f c h))
      · exact List.mem_append.mpr (.inr (shr_fnd g c h))
/-- depth, terms included -/
def Tm.dp : Tm → Nat
  | .num _ => 1
  | .nam _ => 1
  | .bi _ t u => max t.dp u.dp + 1
  | .neg t => t.dp + 1
  | .dv _ t _ => t.dp + 1
def Fm.dp : Fm → Nat
  | .tt => 1
  | .ff => 1
  | .cmp _ t u => max t.dp u.dp + 1
  | .un _ f => f.dp + 1
  | .bi _ f g => max f.dp g.dp + 1
theorem one_dp (w : UnW) (p : Fm) : (p.one w).dp ≤ p.dp + 1 := by cases p <;> cases w <;> simp [Fm.one, Fm.dp]
theorem on_dp (r : Rst) (p : Fm) : (r.on p).dp ≤ p.dp + 1 := by
  cases r with
  | part => exact Nat.le_succ _
  | t => exact Nat.succ_le_succ (Nat.zero_le _)
  | f => exact Nat.succ_le_succ (Nat.zero_le _)
  | nt => exact one_dp _ _
  | ev => exact one_dp _ _
  | alw => exact one_dp _ _
theorem shr_dp : ∀ f : Fm, f.shr.dp ≤ f.dp
  | .tt => Nat.le_refl _
  | .ff => Nat.le_refl _
  | .cmp _ _ _ => Nat.le_refl _
  | .un w f => Nat.le_trans (one_dp w f.shr) (Nat.succ_le_succ (shr_dp f))
  | .bi w f g => by
    have a := shr_dp f
    have b := shr_dp g
    show (Fm.two w f.shr g.shr).dp ≤ max f.dp g.dp + 1
    rcases two_cases w f.shr g.shr with ⟨q, e⟩ | ⟨q, e⟩ | e <;> rw [e]
    · have := on_dp q g.shr; omega
    · have := on_dp q f.shr; omega
    · show max f.shr.dp g.shr.dp + 1 ≤ _; omega
/-- no constants within, or a constant -/
def Fm.cst : Fm → Nat
  | .tt => 1
  | .ff => 1
  | .cmp _ _ _ => 0
  | .un _ f => f.cst
  | .bi _ f g => f.cst + g.cst
theorem one_cst {w : UnW} {p : Fm} (h : p.cst = 0 ∨ p.isC = true) : (p.one w).cst = 0 ∨ (p.one w).isC = true := by
  cases p <;> cases w <;> first | exact .inr rfl | exact .inl (by rcases h with h | h; exact h; cases h)
theorem on_cst {q : Rst} {p : Fm} (h : p.cst = 0 ∨ p.isC = true) : (q.on p).cst = 0 ∨ (q.on p).isC = true := by
  cases q <;> first | exact h | exact .inr rfl | exact one_cst h
theorem two_bi {w : BiW} {l r : Fm} (h : Fm.two w l r = .bi w l r) : l.isC = false ∧ r.isC = false ∨ ∃ (q : Rst) (p : Fm), Fm.two w l r = q.on p ∧ (p = l ∨ p = r) := by
  cases l <;> first | exact .inr ⟨_, _, rfl, .inr rfl⟩ | (cases r <;> first | exact .inr ⟨_, _, rfl, .inl rfl⟩ | exact .inl ⟨rfl, rfl⟩)
theorem shr_cst : ∀ f : Fm, f.shr.cst = 0 ∨ f.shr.isC = true
  | .tt => .inr rfl
  | .ff => .inr rfl
  | .cmp _ _ _ => .inl rfl
  | .un w f => one_cst (shr_cst f)
  | .bi w f g => by
    have a := shr_cst f
    have b := shr_cst g
    show (Fm.two w f.shr g.shr).cst = 0 ∨ (Fm.two w f.shr g.shr).isC = true
    rcases two_cases w f.shr g.shr with ⟨q, e⟩ | ⟨q, e⟩ | e
    · rw [e]; exact on_cst b
    · rw [e]; exact on_cst a
    · rcases two_bi e with ⟨c1, c2⟩ | ⟨q, p, e2, hp⟩
      · rw [e]
        rw [c1] at a; rw [c2] at b
        refine .inl ?_
        show f.shr.cst + g.shr.cst = 0
        rcases a with a | a
        · rcases b with b | b
          · omega
          · cases b
        · cases a
      · rw [e2]
        rcases hp with rfl | rfl
        · exact on_cst a
        · exact on_cst b
def tf : Bool → Fm
  | true => .tt
  | false => .ff
theorem wk1 {p q : Nat → Bool} {e : Bool} : wk 1 0 p q e 1 0 = (q 0 || (p 0 && e)) := by
  simp only [wk]
  cases h1 : q 0 <;> cases h2 : p 0 <;> rfl
theorem nxt1 : nxt 1 0 0 = 0 := rfl
/-- a formula without comparisons becomes its truth -/
theorem shr_const (cv : Fm → Nat → Bool) : ∀ f : Fm, f.fnd = [] → f.shr = tf (f.al 1 0 cv 0)
  | .tt, _ => rfl
  | .ff, _ => rfl
  | .cmp _ _ _, h => by cases h
  | .un w f, h => by
    have i := shr_const cv f h
    show f.shr.one w = _
    rw [i]
    cases w <;> simp only [Fm.al, wk1, nxt1] <;> generalize f.al 1 0 cv 0 = x <;> cases x <;> rfl
  | .bi w f g, h => by
    have h2 : f.fnd ++ g.fnd = [] := h
    obtain ⟨h3, h4⟩ := List.append_eq_nil_iff.mp h2
    have i := shr_const cv f h3
    have j := shr_const cv g h4
    show Fm.two w f.shr g.shr = _
    rw [i, j]
    cases w <;> simp only [Fm.al, wk1, nxt1] <;> generalize f.al 1 0 cv 0 = x <;> generalize g.al 1 0 cv 0 = y <;> cases x <;> cases y <;> rfl
theorem shr_c {f : Fm} (h : f.isC = true) : f.shr = f := by cases f <;> first | rfl | cases h
/-! ### trees as deep data -/
mutual
def pyT : D → PyData
  | .non => .none
  | .bl b => .bool b
  | .int i => .int i
  | .str z => .str z
  | .tup xs => .tuple (pyTs xs)
  | .ref _ => .none
def pyTs : List D → List PyData
  | [] => []
  | x :: r => pyT x :: pyTs r
end
inductive Lay : Nat → D → Prop where
  | str {k : Nat} {z : Str} (h : PyData.strOk z = true) : Lay (k + 1) (.str z)
  | int {k : Nat} {i : Int} : Lay (k + 1) (.int i)
  | tup {k : Nat} {xs : List D} (h : ∀ x ∈ xs, Lay k x) : Lay (k + 1) (.tup xs)
theorem Lay.mono : ∀ {j k : Nat} {d : D}, Lay j d → j ≤ k → Lay k d
  | _, k, _, .str h, l => match k, l with | k + 1, _ => .str h
  | _, k, _, .int, l => match k, l with | k + 1, _ => .int
  | j + 1, k, _, .tup h, l => match k, l with | k + 1, l => .tup (fun x hx => (h x hx).mono (by omega))
theorem pyTs_map : ∀ xs : List D, pyTs xs = xs.map pyT
  | [] => rfl
  | x :: r => by simp only [pyTs, List.map_cons, pyTs_map r]
theorem pyAll_map {f : D → Option PyData} : ∀ {xs : List D}, (∀ x ∈ xs, f x = some (pyT x)) → pyAll f xs = some (xs.map pyT)
  | [], _ => rfl
  | x :: r, h => by
    simp only [pyAll, h x (List.mem_cons.mpr (.inl rfl)), Option.bind, pyAll_map (xs := r) fun y hy => h y (List.mem_cons.mpr (.inr hy)), Option.map_some, List.map_cons]
theorem py_lay {h : DH} : ∀ {j k : Nat} {d : D}, Lay j d → j ≤ k → pyD h k d = some (pyT d)
  | _, k, _, .str _, l => match k, l with | k + 1, _ => rfl
  | _, k, _, .int, l => match k, l with | k + 1, _ => rfl
  | j + 1, k, .tup xs, .tup hh, l => match k, l with
    | k + 1, l => by
      simp only [pyD]
      rw [pyAll_map fun x hx => py_lay (hh x hx) (Nat.le_of_succ_le_succ l)]
      simp only [Option.map_some, pyT, pyTs_map]
theorem lay_all {l : List PyData} : (∀ x ∈ l, PyData.canLay0 x = true) → PyData.canLayAll0 l = true := by
  induction l with
  | nil => intro _; rfl
  | cons a r ih =>
    intro h
    simp only [PyData.canLayAll0, Bool.and_eq_true]
    exact ⟨h a (List.mem_cons.mpr (.inl rfl)), ih fun x hx => h x (List.mem_cons.mpr (.inr hx))⟩
theorem dep_all {l : List PyData} {n : Nat} : (∀ x ∈ l, PyData.depth x ≤ n) → PyData.depthAll l ≤ n := by
  induction l with
  | nil => intro _; exact Nat.zero_le _
  | cons a r ih =>
    intro h
    simp only [PyData.depthAll]
    exact Nat.max_le.mpr ⟨h a (List.mem_cons.mpr (.inl rfl)), ih fun x hx => h x (List.mem_cons.mpr (.inr hx))⟩
theorem lay_ok : ∀ {j : Nat} {d : D}, Lay j d → PyData.canLay0 (pyT d) = true ∧ PyData.depth (pyT d) ≤ j
  | _, _, .str h => ⟨h, by simp [pyT, PyData.depth]⟩
  | _, _, .int => ⟨rfl, by simp [pyT, PyData.depth]⟩
  | j + 1, .tup xs, .tup hh => by
    simp only [pyT, pyTs_map, PyData.canLay0, PyData.depth]
    refine ⟨lay_all fun x hx => ?_, Nat.succ_le_succ (dep_all fun x hx => ?_)⟩
    · obtain ⟨y, hy, rfl⟩ := List.mem_map.mp hx
      exact (lay_ok (hh y hy)).1
    · obtain ⟨y, hy, rfl⟩ := List.mem_map.mp hx
      exact (lay_ok (hh y hy)).2
theorem shaped_lay {j : Nat} {d : D} (h : Lay j d) (l : j ≤ 64) : SeqAt.shaped (pyT d) = true := by
  have := lay_ok h
  unfold SeqAt.shaped
  rw [this.1, Bool.true_and]
  exact decide_eq_true (by omega)
theorem eqv_lay : ∀ {j k : Nat} {a b : D}, Lay j a → Lay k b → (PyData.eqv (pyT a) (pyT b) = true ↔ a = b)
  | _, _, .str x, .str y, .str _, .str _ => by simp [pyT, PyData.eqv]
  | _, _, .str x, .int y, .str _, .int => by simp [pyT, PyData.eqv]
  | _, _, .str x, .tup y, .str _, .tup _ => by simp [pyT, PyData.eqv]
  | _, _, .int x, .str y, .int, .str _ => by simp [pyT, PyData.eqv]
  | _, _, .int x, .int y, .int, .int => by simp [pyT, PyData.eqv]
  | _, _, .int x, .tup y, .int, .tup _ => by simp [pyT, PyData.eqv]
  | _, _, .tup x, .str y, .tup _, .str _ => by simp [pyT, PyData.eqv]
  | _, _, .tup x, .int y, .tup _, .int => by simp [pyT, PyData.eqv]
  | j + 1, k + 1, .tup xs, .tup ys, .tup hx, .tup hy => by
    simp only [pyT, pyTs_map, PyData.eqv]
    have key : ∀ (xs ys : List D), (∀ x ∈ xs, Lay j x) → (∀ y ∈ ys, Lay k y) → (PyData.eqvAll (xs.map pyT) (ys.map pyT) = true ↔ xs = ys) := by
      intro xs
      induction xs with
      | nil => intro ys _ _; cases ys <;> simp [PyData.eqvAll]
      | cons x r ih =>
        intro ys h1 h2
        cases ys with
        | nil => simp [PyData.eqvAll]
        | cons y s =>
          simp only [List.map_cons, PyData.eqvAll, Bool.and_eq_true, List.cons.injEq]
          rw [eqv_lay (h1 x (List.mem_cons.mpr (.inl rfl))) (h2 y (List.mem_cons.mpr (.inl rfl))), ih s (fun z hz => h1 z (List.mem_cons.mpr (.inr hz))) fun z hz => h2 z (List.mem_cons.mpr (.inr hz))]
    rw [key xs ys hx hy]
    simp
theorem strOk_of {z : Str} (h : ChOk z) : PyData.strOk z = true := by
  unfold PyData.strOk
  rw [Array.all_eq_true']
  intro c hc
  exact decide_eq_true (h c (Array.mem_toList_iff.mpr hc))
theorem tlay {zs : List Str} (hz : ∀ z ∈ zs, ChOk z) : ∀ (t : Tm) (k : Nat), t.Good zs k → Lay (k + 1) t.d
  | .num n, k + 1, g => .tup fun x hx => by
    simp only [List.mem_cons, List.not_mem_nil, or_false] at hx
    rcases hx with rfl | rfl
    · exact .str (by decide +kernel)
    · exact .int
  | .nam n, k + 1, g => .tup fun x hx => by
    simp only [List.mem_cons, List.not_mem_nil, or_false] at hx
    rcases hx with rfl | rfl
    · exact .str (by decide +kernel)
    · exact .str (strOk_of (hz _ g.2))
  | .bi w t u, k + 1, g => .tup fun x hx => by
    simp only [List.mem_cons, List.not_mem_nil, or_false] at hx
    rcases hx with rfl | rfl | rfl
    · exact .str (by cases w <;> decide +kernel)
    · exact tlay hz t k g.1
    · exact tlay hz u k g.2
  | .neg t, k + 1, g => .tup fun x hx => by
    simp only [List.mem_cons, List.not_mem_nil, or_false] at hx
    rcases hx with rfl | rfl
    · exact .str (by decide +kernel)
    · exact tlay hz t k g
  | .dv w t j, k + 1, g => .tup fun x hx => by
    simp only [List.mem_cons, List.not_mem_nil, or_false] at hx
    rcases hx with rfl | rfl | rfl
    · exact .str (by cases w <;> decide +kernel)
    · exact tlay hz t k g.1
    · exact .int
  | .num _, 0, g => absurd g.1 (by omega)
  | .nam _, 0, g => absurd g.1 (by omega)
  | .bi _ _ _, 0, g => False.elim g
  | .neg _, 0, g => False.elim g
  | .dv _ _ _, 0, g => False.elim g
theorem flay {zs : List Str} (hz : ∀ z ∈ zs, ChOk z) : ∀ (f : Fm) (k : Nat), f.Ok zs → f.dep ≤ k → Lay (k + 4) f.d
  | .tt, k, g, l => .tup fun x hx => by rw [List.mem_singleton.mp hx]; exact .str (by decide +kernel)
  | .ff, k, g, l => .tup fun x hx => by rw [List.mem_singleton.mp hx]; exact .str (by decide +kernel)
  | .cmp w t u, k, g, l => match k, l with
    | k + 1, _ => .tup fun x hx => by
      simp only [List.mem_cons, List.not_mem_nil, or_false] at hx
      rcases hx with rfl | rfl | rfl
      · exact .str (by cases w <;> decide +kernel)
      · exact (tlay hz t 3 g.1).mono (by omega)
      · exact (tlay hz u 3 g.2).mono (by omega)
  | .un w f, k, g, l => match k, l with
    | k + 1, l => .tup fun x hx => by
      simp only [List.mem_cons, List.not_mem_nil, or_false] at hx
      rcases hx with rfl | rfl
      · exact .str (by cases w <;> decide +kernel)
      · exact flay hz f k g (Nat.le_of_succ_le_succ l)
  | .bi w f h, k, g, l => match k, l with
    | k + 1, l => .tup fun x hx => by
      simp only [List.mem_cons, List.not_mem_nil, or_false] at hx
      rcases hx with rfl | rfl | rfl
      · exact .str (by cases w <;> decide +kernel)
      · exact flay hz f k g.1 (Nat.le_trans (Nat.le_max_left _ _) (Nat.le_of_succ_le_succ l))
      · exact flay hz h k g.2 (Nat.le_trans (Nat.le_max_right _ _) (Nat.le_of_succ_le_succ l))
/-- == of two trees -/
theorem w_eqDD_lay {j k : Nat} {a b : D} (ha : Lay j a) (hb : Lay k b) (hj : j ≤ 64) (hk : k ≤ 64) (ht : ∃ xs, a = .tup xs) {h : DH} {P : D → DH → Prop} (p : ∀ c : Bool, (c = true ↔ a = b) → P (.bl c) h) : SatE (eqDD a b h) P := by
  have e1 : eqS a b = none := by obtain ⟨xs, rfl⟩ := ht; cases b <;> rfl
  have e2 : deepE a b h = some (PyData.eqv (pyT a) (pyT b)) := by
    simp only [deepE, py_lay (h := h) ha (show j ≤ 70 by omega), py_lay (h := h) hb (show k ≤ 70 by omega), shaped_lay ha hj, shaped_lay hb hk, Bool.and_self, if_true]
  simp only [eqDD, eqA, e1, e2]
  exact p _ (eqv_lay ha hb)
/-- a tree in a list of trees -/
theorem w_inDD_lay {neg : Bool} {j : Nat} {a : D} {n : Nat} {ys : List D} {h : DH} (ha : Lay j a) (hj : j ≤ 63) (ht : ∃ xs, a = .tup xs) (hn : itemsD (.ref n) h = some ys) (hy : ∀ y ∈ ys, Lay j y) {P : D → DH → Prop} (p : ∀ c : Bool, (c = true ↔ a ∈ ys) → P (.bl (if neg then !c else c)) h) : SatE (inDD neg a (.ref n) h) P := by
  have e1 : flatIn a (.ref n) h = none := by
    obtain ⟨xs, rfl⟩ := ht
    simp only [flatIn, hn, flatD, Bool.false_and]
    rfl
  have e2 : pyD h 70 (.ref n) = some (.list (ys.map pyT)) := by
    simp only [pyD, hn, Option.bind]
    rw [pyAll_map fun y h2 => py_lay (hy y h2) (by omega)]
    rfl
  have e3 : SeqAt.shaped (.list (ys.map pyT)) = true := by
    unfold SeqAt.shaped
    simp only [PyData.canLay0, PyData.depth, Bool.and_eq_true]
    refine ⟨lay_all fun x hx => ?_, decide_eq_true ?_⟩
    · obtain ⟨y, h2, rfl⟩ := List.mem_map.mp hx
      exact (lay_ok (hy y h2)).1
    · have : PyData.depthAll (ys.map pyT) ≤ 63 := dep_all fun x hx => by
        obtain ⟨y, h2, rfl⟩ := List.mem_map.mp hx
        have := (lay_ok (hy y h2)).2
        omega
      omega
  simp only [inDD, inA, e1, deepIn, py_lay (h := h) ha (show j ≤ 70 by omega), e2, shaped_lay ha (by omega), e3, Bool.and_self, if_true]
  refine p _ ?_
  rw [List.any_map, List.any_eq_true]
  constructor
  · rintro ⟨y, h2, h3⟩
    rw [← (eqv_lay (hy y h2) ha).mp h3]
    exact h2
  · intro h2
    exact ⟨a, h2, (eqv_lay ha ha).mpr rfl⟩
/-! ### trees are told apart by their data -/
theorem tm_tup (t : Tm) : ∃ xs, t.d = .tup xs := by cases t <;> exact ⟨_, rfl⟩
theorem fm_tup (f : Fm) : ∃ xs, f.d = .tup xs := by cases f <;> exact ⟨_, rfl⟩
theorem tmw_inj : ∀ w v : TmW, w.s = v.s → w = v := by intro w v; cases w <;> cases v <;> first | (intro _; rfl) | (intro h; exact absurd h (by decide +kernel))
theorem dvw_inj : ∀ w v : DvW, w.s = v.s → w = v := by intro w v; cases w <;> cases v <;> first | (intro _; rfl) | (intro h; exact absurd h (by decide +kernel))
theorem cmw_inj : ∀ w v : CmpW, w.s = v.s → w = v := by intro w v; cases w <;> cases v <;> first | (intro _; rfl) | (intro h; exact absurd h (by decide +kernel))
theorem unw_inj : ∀ w v : UnW, w.s = v.s → w = v := by intro w v; cases w <;> cases v <;> first | (intro _; rfl) | (intro h; exact absurd h (by decide +kernel))
theorem biw_inj : ∀ w v : BiW, w.s = v.s → w = v := by intro w v; cases w <;> cases v <;> first | (intro _; rfl) | (intro h; exact absurd h (by decide +kernel))
theorem cm_bi : ∀ (w : CmpW) (v : BiW), w.s ≠ v.s := by intro w v; cases w <;> cases v <;> decide +kernel
theorem tm_inj : ∀ t u : Tm, t.d = u.d → t = u
  | .num n, u, h => by
    cases u with
    | num m => simp [Tm.d] at h; rw [h]
    | nam x => simp [Tm.d] at h
    | bi w a b => simp [Tm.d] at h
    | neg a => obtain ⟨xs, e⟩ := tm_tup a; simp [Tm.d, e] at h
    | dv w a k => simp [Tm.d] at h
  | .nam x, u, h => by
    cases u with
    | num m => simp [Tm.d] at h
    | nam y => simp [Tm.d] at h; rw [h]
    | bi w a b => simp [Tm.d] at h
    | neg a => obtain ⟨xs, e⟩ := tm_tup a; simp [Tm.d, e] at h
    | dv w a k => simp [Tm.d] at h
  | .bi w t t', u, h => by
    cases u with
    | num m => simp [Tm.d] at h
    | nam y => simp [Tm.d] at h
    | bi v a b =>
      simp only [Tm.d, D.tup.injEq, List.cons.injEq, D.str.injEq, and_true] at h
      rw [tmw_inj _ _ h.1, tm_inj t a h.2.1, tm_inj t' b h.2.2]
    | neg a => simp [Tm.d] at h
    | dv v a k => obtain ⟨xs, e⟩ := tm_tup t'; simp [Tm.d, e] at h
  | .neg t, u, h => by
    cases u with
    | num m => obtain ⟨xs, e⟩ := tm_tup t; simp [Tm.d, e] at h
    | nam y => obtain ⟨xs, e⟩ := tm_tup t; simp [Tm.d, e] at h
    | bi w a b => simp [Tm.d] at h
    | neg a => simp only [Tm.d, D.tup.injEq, List.cons.injEq, and_true, true_and] at h; rw [tm_inj t a h]
    | dv w a k => simp [Tm.d] at h
  | .dv w t k, u, h => by
    cases u with
    | num m => simp [Tm.d] at h
    | nam y => simp [Tm.d] at h
    | bi v a b => obtain ⟨xs, e⟩ := tm_tup b; simp [Tm.d, e] at h
    | neg a => simp [Tm.d] at h
    | dv v a k' =>
      simp only [Tm.d, D.tup.injEq, List.cons.injEq, D.str.injEq, D.int.injEq, and_true] at h
      rw [dvw_inj _ _ h.1, tm_inj t a h.2.1, h.2.2]
theorem fm_inj : ∀ f g : Fm, f.d = g.d → f = g
  | .tt, g, h => by
    cases g with
    | tt => rfl
    | ff => exact absurd h (by simp (decide := true) [Fm.d])
    | _ => simp [Fm.d] at h
  | .ff, g, h => by
    cases g with
    | tt => exact absurd h (by simp (decide := true) [Fm.d])
    | ff => rfl
    | _ => simp [Fm.d] at h
  | .cmp w t u, g, h => by
    cases g with
    | cmp v a b =>
      simp only [Fm.d, D.tup.injEq, List.cons.injEq, D.str.injEq, and_true] at h
      rw [cmw_inj _ _ h.1, tm_inj t a h.2.1, tm_inj u b h.2.2]
    | bi v a b =>
      simp only [Fm.d, D.tup.injEq, List.cons.injEq, D.str.injEq, and_true] at h
      exact absurd h.1 (cm_bi _ _)
    | _ => simp [Fm.d] at h
  | .un w f, g, h => by
    cases g with
    | un v a =>
      simp only [Fm.d, D.tup.injEq, List.cons.injEq, D.str.injEq, and_true] at h
      rw [unw_inj _ _ h.1, fm_inj f a h.2]
    | _ => simp [Fm.d] at h
  | .bi w f f', g, h => by
    cases g with
    | cmp v a b =>
      simp only [Fm.d, D.tup.injEq, List.cons.injEq, D.str.injEq, and_true] at h
      exact absurd h.1.symm (cm_bi _ _)
    | bi v a b =>
      simp only [Fm.d, D.tup.injEq, List.cons.injEq, D.str.injEq, and_true] at h
      rw [biw_inj _ _ h.1, fm_inj f a h.2.1, fm_inj f' b h.2.2]
    | _ => simp [Fm.d] at h
/-! ### depth -/
mutual
def depD : D → Nat
  | .tup xs => depDs xs + 1
  | _ => 0
def depDs : List D → Nat
  | [] => 0
  | x :: r => max (depD x) (depDs r)
end
theorem depDs_snoc {x : D} : ∀ {l : List D}, depDs (l ++ [x]) = max (depDs l) (depD x)
  | [] => by simp [depDs]
  | y :: r => by simp only [List.cons_append, depDs, depDs_snoc (l := r)]; omega
def TD : Nat → D → Prop
  | k + 1, .tup (.str _ :: r) => ∀ x ∈ r, (∃ y, x = .str y) ∨ (∃ i, x = .int i) ∨ TD k x
  | _, _ => False
theorem TD.shape : ∀ {k : Nat} {d : D}, TD k d → ∃ j z r, k = j + 1 ∧ d = .tup (.str z :: r) ∧ ∀ x ∈ r, (∃ y, x = .str y) ∨ (∃ i, x = .int i) ∨ TD j x := by
  intro k d h
  unfold TD at h
  split at h
  · exact ⟨_, _, _, rfl, rfl, h⟩
  · exact h.elim
def LdepS (F : Nat → List D → DH → Res D) : Prop := ∀ (j k : Nat) (d : D) (h : DH), TD j d → SatE (F (k + j) [d] h) fun r h' => h' = h ∧ r = .int (depD d)
theorem ldep_S {F : Nat → List D → DH → Res D} (hF : ∀ k xs h, F (k + 1) xs h = R_law_depth (F k) xs h) : LdepS F := by
  intro j
  induction j with
  | zero => intro k d h t; obtain ⟨j', _, _, q, _⟩ := t.shape; omega
  | succ j ih =>
    intro k d h t
    obtain ⟨j', z, r, q, rfl, ht⟩ := t.shape
    have ej : j = j' := by omega
    subst ej
    · skip
      rw [show k + (j + 1) = (k + j) + 1 from rfl, hF]
      refine w_def rfl ?_; unfold B_law_depth
      rw [n_seq]; walk_at "w1"
      rw [n_seq, n_for]
      refine w_seqT (xs := r) ?_
      walk_at "w1"
      rw [w_tail]
      refine ⟨rfl, ?_⟩
      refine for_tup (fun i ds' h' => ∃ o2, ds' = [some (.tup (.str z :: r)), some (.int (depDs (r.take i) : Nat)), o2] ∧ h' = h) ⟨_, rfl, rfl⟩ ?_ ?_
      · rintro i x _ h' hx ⟨o2, rfl, rfl⟩
        have hm := List.mem_of_getElem? hx
        have tk : r.take (i + 1) = r.take i ++ [x] := by rw [List.take_add_one, hx]; rfl
        show SatN _ _ _ _ _
        simp only [gNm, List.set_cons_succ, List.set_cons_zero]
        rcases ht x hm with ⟨y, rfl⟩ | ⟨y, rfl⟩ | hx2
        · walk_at "wq"
          refine ⟨some (.str y), ?_⟩
          rw [tk, depDs_snoc]
          simp [depD]
        · walk_at "wq"
          refine ⟨some (.int y), ?_⟩
          rw [tk, depDs_snoc]
          simp [depD]
        · obtain ⟨xs, rfl⟩ : ∃ xs, x = .tup xs := by obtain ⟨_, _, _, _, e, _⟩ := hx2.shape; exact ⟨_, e⟩
          walk_at "wq"
          refine (ih k _ h' hx2).imp ?_
          rintro _ h2 ⟨rfl, rfl⟩
          walk_at "wq"
          refine ⟨some (.tup xs), ?_⟩
          rw [tk, depDs_snoc]
          congr 3
          split
          · rename_i q; congr 2; omega
          · rename_i q; congr 2; omega
      · rintro _ h' ⟨o2, rfl, rfl⟩
        walk_at "w1"
        rw [List.take_length]
        simp [depD, depDs]
theorem tm_td {zs : List Str} : ∀ (t : Tm) (k : Nat), t.Good zs k → TD k t.d
  | .num n, k + 1, g => fun x hx => by rw [List.mem_singleton.mp hx]; exact .inr (.inl ⟨_, rfl⟩)
  | .nam n, k + 1, g => fun x hx => by rw [List.mem_singleton.mp hx]; exact .inl ⟨_, rfl⟩
  | .bi w t u, k + 1, g => fun x hx => by
    simp only [List.mem_cons, List.not_mem_nil, or_false] at hx
    rcases hx with rfl | rfl
    · exact .inr (.inr (tm_td t k g.1))
    · exact .inr (.inr (tm_td u k g.2))
  | .neg t, k + 1, g => fun x hx => by rw [List.mem_singleton.mp hx]; exact .inr (.inr (tm_td t k g))
  | .dv w t j, k + 1, g => fun x hx => by
    simp only [List.mem_cons, List.not_mem_nil, or_false] at hx
    rcases hx with rfl | rfl
    · exact .inr (.inr (tm_td t k g.1))
    · exact .inr (.inl ⟨_, rfl⟩)
  | .num _, 0, g => absurd g.1 (by omega)
  | .nam _, 0, g => absurd g.1 (by omega)
  | .bi _ _ _, 0, g => False.elim g
  | .neg _, 0, g => False.elim g
  | .dv _ _ _, 0, g => False.elim g
theorem TD.mono : ∀ {j k : Nat} {d : D}, TD j d → j ≤ k → TD k d := by
  intro j
  induction j with
  | zero => intro k d h; obtain ⟨_, _, _, q, _⟩ := h.shape; omega
  | succ j ih =>
    intro k d h l
    obtain ⟨j', z, r, q, rfl, ht⟩ := h.shape
    have ej : j = j' := by omega
    subst ej
    obtain ⟨k', rfl⟩ : ∃ k', k = k' + 1 := ⟨k - 1, by omega⟩
    intro x hx
    rcases ht x hx with q | q | q
    · exact .inl q
    · exact .inr (.inl q)
    · exact .inr (.inr (ih q (by omega)))
theorem fm_td {zs : List Str} : ∀ (f : Fm) (k : Nat), f.Ok zs → f.dep ≤ k → TD (k + 3) f.d
  | .tt, k, g, l => fun x hx => nomatch hx
  | .ff, k, g, l => fun x hx => nomatch hx
  | .cmp w t u, k, g, l => match k, l with
    | k + 1, _ => fun x hx => by
      simp only [List.mem_cons, List.not_mem_nil, or_false] at hx
      rcases hx with rfl | rfl
      · exact .inr (.inr ((tm_td t 3 g.1).mono (by omega)))
      · exact .inr (.inr ((tm_td u 3 g.2).mono (by omega)))
  | .un w f, k, g, l => match k, l with
    | k + 1, l => fun x hx => by rw [List.mem_singleton.mp hx]; exact .inr (.inr (fm_td f k g (Nat.le_of_succ_le_succ l)))
  | .bi w f h, k, g, l => match k, l with
    | k + 1, l => fun x hx => by
      simp only [List.mem_cons, List.not_mem_nil, or_false] at hx
      rcases hx with rfl | rfl
      · exact .inr (.inr (fm_td f k g.1 (Nat.le_trans (Nat.le_max_left _ _) (Nat.le_of_succ_le_succ l))))
      · exact .inr (.inr (fm_td h k g.2 (Nat.le_trans (Nat.le_max_right _ _) (Nat.le_of_succ_le_succ l))))
theorem tm_dep : ∀ t : Tm, depD t.d = t.dp
  | .num _ => rfl
  | .nam _ => rfl
  | .bi w t u => by simp only [Tm.d, depD, depDs, Tm.dp, tm_dep t, tm_dep u]; omega
  | .neg t => by simp only [Tm.d, depD, depDs, Tm.dp, tm_dep t]; omega
  | .dv w t k => by simp only [Tm.d, depD, depDs, Tm.dp, tm_dep t]; omega
theorem fm_dep : ∀ f : Fm, depD f.d = f.dp
  | .tt => rfl
  | .ff => rfl
  | .cmp w t u => by simp only [Fm.d, depD, depDs, Fm.dp, tm_dep t, tm_dep u]; omega
  | .un w f => by simp only [Fm.d, depD, depDs, Fm.dp, fm_dep f]; omega
  | .bi w f g => by simp only [Fm.d, depD, depDs, Fm.dp, fm_dep f, fm_dep g]; omega
/-! ### constants, waits -/
def LcstS (F : Nat → List D → DH → Res D) : Prop := ∀ (j k : Nat) (f : Fm) (h : DH), f.dep ≤ j → SatE (F (k + j) [f.d] h) fun d h' => h' = h ∧ d = .int f.cst
theorem tf_c (w : CmpW) : ([D.str "true", .str "false"].any fun z => eqF z (.str w.s)) = false := by cases w <;> decide +kernel
theorem tf_u (w : UnW) : ([D.str "true", .str "false"].any fun z => eqF z (.str w.s)) = false := by cases w <;> decide +kernel
theorem tf_b (w : BiW) : ([D.str "true", .str "false"].any fun z => eqF z (.str w.s)) = false := by cases w <;> decide +kernel
theorem tf_t : ([D.str "true", .str "false"].any fun z => eqF z (.str "true")) = true := by decide +kernel
theorem tf_f : ([D.str "true", .str "false"].any fun z => eqF z (.str "false")) = true := by decide +kernel
theorem tf_in (f : Fm) : ([D.str "true", .str "false"].any fun z => eqF z (.str f.hd)) = f.isC := by
  cases f with
  | tt => exact tf_t
  | ff => exact tf_f
  | cmp w t u => exact tf_c w
  | un w g => exact tf_u w
  | bi w g g' => exact tf_b w
theorem cst_parts (f : Fm) (h : f.isCmp = false) : f.cst = (if f.isC then 1 else 0) + (f.parts.map Fm.cst).sum := by
  cases f <;> first | rfl | (cases h; done) | (simp [Fm.cst, Fm.parts, Fm.isC]; try omega)
theorem lcst_S {F : Nat → List D → DH → Res D} (hF : ∀ k xs h, F (k + 1) xs h = R_law_constants (F k) xs h) : LcstS F := by
  intro j
  induction j with
  | zero => intro k f h l; have := dep_pos f; omega
  | succ j ih =>
    intro k f h l
    rw [show k + (j + 1) = (k + j) + 1 from rfl, hF]
    refine w_def rfl ?_; unfold B_law_constants
    obtain ⟨r, er⟩ := d_hd' f
    rw [er]
    rw [n_seq]; walk_at "w1"
    have e3 : [D.str "equal", .str "below", .str "upto"] = k_COMPARISONS := rfl
    rw [w_ixT0, e3, w_in_tup rfl (by decide +kernel)]
    walk_at "w1"
    try simp only [Bool.false_eq_true, if_false]
    rw [cmp_in]
    refine w_ifE (fun c => ?_) fun c => ?_
    · cases f <;> first | rfl | cases c
    · have er2 := d_hd f c
      rw [er] at er2
      injection er2 with er2
      injection er2 with _ er2
      subst er2
      rw [n_seq]; walk_at "w1"
      rw [w_ixT0, w_in_tup rfl (by decide +kernel), intD]
      simp only [Bool.false_eq_true, if_false]
      rw [tf_in]
      rw [satE_ok, n_seq, n_for]
      refine w_seqT (xs := f.parts.map Fm.d) ?_
      walk_at "w1"
      rw [w_tail]
      refine ⟨rfl, ?_⟩
      refine for_tup (fun i ds' h' => ∃ o2, ds' = [some (.tup (.str f.hd :: f.parts.map Fm.d)), some (.int (((if f.isC then 1 else 0) + ((f.parts.take i).map Fm.cst).sum : Nat))), o2] ∧ h' = h) ⟨none, by cases f.isC <;> rfl, rfl⟩ ?_ ?_
      · rintro i x _ h' hx ⟨o2, rfl, rfl⟩
        rw [List.getElem?_map] at hx
        cases q : f.parts[i]? with
        | none => rw [q] at hx; cases hx
        | some a =>
          rw [q] at hx
          cases hx
          have ha := List.mem_of_getElem? q
          show SatN _ _ _ _ _
          simp only [gNm, List.set_cons_succ, List.set_cons_zero]
          walk_at "w1"
          refine (ih k a h' (by have := dep_parts ha; omega)).imp fun d h2 ⟨e1, e2⟩ => ?_
          subst e1; subst e2
          walk_at "w1"
          refine ⟨some a.d, ?_⟩
          rw [List.take_add_one, q]
          simp [List.sum_append, Int.add_assoc]
      · rintro _ h' ⟨o2, rfl, rfl⟩
        walk_at "w1"
        rw [List.length_map, List.take_length, ← cst_parts f c]
def UnW.tmp : UnW → Bool
  | .not => false
  | _ => true
def BiW.tmp : BiW → Bool
  | .until => true | .release => true | .unless => true | .strong => true
  | _ => false
/-- the temporal subformulas -/
def Fm.tsb : Fm → List Fm
  | .un w f => f.tsb ++ if w.tmp then [.un w f] else []
  | .bi w f g => (f.tsb ++ g.tsb) ++ if w.tmp then [.bi w f g] else []
  | _ => []
def TW : List D := [.str "next", .str "eventually", .str "always", .str "until", .str "release", .str "unless", .str "strong"]
def Fm.tmp : Fm → Bool
  | .un w _ => w.tmp
  | .bi w _ _ => w.tmp
  | _ => false
theorem tw_c (w : CmpW) : (TW.any fun z => eqF z (.str w.s)) = false := by cases w <;> decide +kernel
theorem tw_u (w : UnW) : (TW.any fun z => eqF z (.str w.s)) = w.tmp := by cases w <;> decide +kernel
theorem tw_b (w : BiW) : (TW.any fun z => eqF z (.str w.s)) = w.tmp := by cases w <;> decide +kernel
theorem tw_t : (TW.any fun z => eqF z (.str "true")) = false := by decide +kernel
theorem tw_f : (TW.any fun z => eqF z (.str "false")) = false := by decide +kernel
theorem tw_m (w : TmW) : (TW.any fun z => eqF z (.str w.s)) = false := by cases w <;> decide +kernel
theorem tw_v (w : DvW) : (TW.any fun z => eqF z (.str w.s)) = false := by cases w <;> decide +kernel
theorem tw_n : (TW.any fun z => eqF z (.str "number")) = false := by decide +kernel
theorem tw_a : (TW.any fun z => eqF z (.str "name")) = false := by decide +kernel
theorem tw_g : (TW.any fun z => eqF z (.str "negative")) = false := by decide +kernel
theorem tw_in (f : Fm) : (TW.any fun z => eqF z (.str f.hd)) = f.tmp := by
  cases f with
  | tt => exact tw_t
  | ff => exact tw_f
  | cmp w t u => exact tw_c w
  | un w g => exact tw_u w
  | bi w g g' => exact tw_b w
/-- a tree without temporal words: nothing is added -/
def NT : Nat → D → Prop
  | k + 1, .tup (.str z :: r) => (TW.any fun y => eqF y (.str z)) = false ∧ ∀ x ∈ r, (∃ y, x = .str y) ∨ (∃ i, x = .int i) ∨ NT k x
  | _, _ => False
theorem NT.shape : ∀ {k : Nat} {d : D}, NT k d → ∃ j z r, k = j + 1 ∧ d = .tup (.str z :: r) ∧ (TW.any fun y => eqF y (.str z)) = false ∧ ∀ x ∈ r, (∃ y, x = .str y) ∨ (∃ i, x = .int i) ∨ NT j x := by
  intro k d h
  unfold NT at h
  split at h
  · exact ⟨_, _, _, rfl, rfl, h⟩
  · exact h.elim
theorem tm_nt {zs : List Str} : ∀ (t : Tm) (k : Nat), t.Good zs k → NT k t.d
  | .num n, k + 1, g => ⟨tw_n, fun x hx => by rw [List.mem_singleton.mp hx]; exact .inr (.inl ⟨_, rfl⟩)⟩
  | .nam n, k + 1, g => ⟨tw_a, fun x hx => by rw [List.mem_singleton.mp hx]; exact .inl ⟨_, rfl⟩⟩
  | .bi w t u, k + 1, g => ⟨tw_m w, fun x hx => by
    simp only [List.mem_cons, List.not_mem_nil, or_false] at hx
    rcases hx with rfl | rfl
    · exact .inr (.inr (tm_nt t k g.1))
    · exact .inr (.inr (tm_nt u k g.2))⟩
  | .neg t, k + 1, g => ⟨tw_g, fun x hx => by rw [List.mem_singleton.mp hx]; exact .inr (.inr (tm_nt t k g))⟩
  | .dv w t j, k + 1, g => ⟨tw_v w, fun x hx => by
    simp only [List.mem_cons, List.not_mem_nil, or_false] at hx
    rcases hx with rfl | rfl
    · exact .inr (.inr (tm_nt t k g.1))
    · exact .inr (.inl ⟨_, rfl⟩)⟩
  | .num _, 0, g => absurd g.1 (by omega)
  | .nam _, 0, g => absurd g.1 (by omega)
  | .bi _ _ _, 0, g => False.elim g
  | .neg _, 0, g => False.elim g
  | .dv _ _ _, 0, g => False.elim g
theorem lwait_nt {F : Nat → List D → DH → Res D} (hF : ∀ k xs h, F (k + 1) xs h = R_law_waits (F k) xs h) : ∀ (j k : Nat) (d w : D) (h : DH), NT j d → SatE (F (k + j) [d, w] h) fun r h' => h' = h ∧ r = w := by
  intro j
  induction j with
  | zero => intro k d w h t; obtain ⟨j', _, _, q, _⟩ := t.shape; omega
  | succ j ih =>
    intro k d w h t
    obtain ⟨j', z, r, q, rfl, hz, ht⟩ := t.shape
    have ej : j = j' := by omega
    subst ej
    rw [show k + (j + 1) = (k + j) + 1 from rfl, hF]
    refine w_def rfl ?_; unfold B_law_waits
    rw [n_seq, n_for]
    refine w_seqT (xs := r) ?_
    walk_at "w1"
    rw [w_tail]
    refine ⟨rfl, ?_⟩
    refine for_tup (fun i ds' h' => ∃ o2, ds' = [some (.tup (.str z :: r)), some w, o2] ∧ h' = h) ⟨_, rfl, rfl⟩ ?_ ?_
    · rintro i x _ h' hx ⟨o2, rfl, rfl⟩
      have hm := List.mem_of_getElem? hx
      show SatN _ _ _ _ _
      simp only [gNm, List.set_cons_succ, List.set_cons_zero]
      rcases ht x hm with ⟨y, rfl⟩ | ⟨y, rfl⟩ | hx2
      · walk_at "wq"
        exact ⟨_, rfl⟩
      · walk_at "wq"
        exact ⟨_, rfl⟩
      · obtain ⟨xs, rfl⟩ : ∃ xs, x = .tup xs := by obtain ⟨_, _, _, _, e, _⟩ := hx2.shape; exact ⟨_, e⟩
        walk_at "wq"
        refine (ih k _ w h' hx2).imp ?_
        rintro _ h2 ⟨rfl, rfl⟩
        exact ⟨some (.tup xs), rfl, rfl⟩
    · rintro _ h' ⟨o2, rfl, rfl⟩
      rw [n_seq]
      walk_at "w1"
      have e3 : [D.str "next", .str "eventually", .str "always", .str "until", .str "release", .str "unless", .str "strong"] = TW := rfl
      rw [w_ixT0, e3, w_in_tup rfl (by decide +kernel), hz]
      walk_at "wq"
/-- with temporal words: each temporal subformula once -/
def LwaitS (F : Nat → List D → DH → Res D) (zs : List Str) (B : Nat) : Prop := ∀ (j k : Nat) (f : Fm) (n : Nat) (ws : List Fm) (h : DH), f.Ok zs → f.dep ≤ j → f.dep ≤ B → h[n]? = some (.lst (ws.map Fm.d)) → (∀ w ∈ ws, w.Ok zs ∧ w.dep ≤ B) → ws.length + f.sz ≤ 10000 →
  SatE (F (k + j + 4) [f.d, .ref n] h) fun d h' => ∃ (n' : Nat) (ws' : List Fm), d = .ref n' ∧ Keep h h' ∧ h'[n']? = some (.lst (ws'.map Fm.d)) ∧ (∀ w ∈ ws', w.Ok zs ∧ w.dep ≤ B) ∧ (ws.Nodup → ws'.Nodup) ∧ (∀ x, x ∈ ws' ↔ x ∈ ws ∨ x ∈ f.tsb) ∧ ws'.length ≤ ws.length + f.sz
theorem tsb_parts (f : Fm) (h : f.isCmp = false) : f.tsb = f.parts.flatMap Fm.tsb ++ if f.tmp then [f] else [] := by
  cases f <;> first | rfl | (cases h; done) | (simp [Fm.tsb, Fm.parts, Fm.tmp]; try rfl)
theorem lwait_S {F : Nat → List D → DH → Res D} {zs : List Str} {B : Nat} (hz : ∀ z ∈ zs, ChOk z) (hB : B ≤ 59) (hF : ∀ k xs h, F (k + 1) xs h = R_law_waits (F k) xs h) : LwaitS F zs B := by
  intro j
  induction j with
  | zero => intro k f n ws h ok l; have := dep_pos f; omega
  | succ j ih =>
    intro k f n ws h ok l lB hn hws hlen
    rw [show k + (j + 1) + 4 = (k + j + 4) + 1 from rfl, hF]
    refine w_def rfl ?_; unfold B_law_waits
    cases c : f.isCmp with
    | true =>
      cases f with
      | cmp w t u =>
        rw [n_seq, n_for]
        refine w_seqT (xs := [t.d, u.d]) ?_
        simp only [Fm.d]
        walk_at "w1"
        rw [w_tail]
        refine ⟨rfl, ?_⟩
        refine for_tup (fun i ds' h' => ∃ o2, ds' = [some (.tup [.str w.s, t.d, u.d]), some (.ref n), o2] ∧ h' = h) ⟨_, rfl, rfl⟩ ?_ ?_
        · rintro i x _ h' hx ⟨o2, rfl, rfl⟩
          have hm := List.mem_of_getElem? hx
          have key : NT 3 x ∧ ∃ xs, x = .tup xs := by
            simp only [List.mem_cons, List.not_mem_nil, or_false] at hm
            rcases hm with rfl | rfl
            · exact ⟨tm_nt t 3 ok.1, tm_tup t⟩
            · exact ⟨tm_nt u 3 ok.2, tm_tup u⟩
          obtain ⟨hnt, xs, rfl⟩ := key
          show SatN _ _ _ _ _
          simp only [gNm, List.set_cons_succ, List.set_cons_zero]
          walk_at "wq"
          refine (lwait_nt hF 3 (k + j + 1) _ (.ref n) h' hnt).imp ?_
          rintro _ h2 ⟨rfl, rfl⟩
          exact ⟨some (.tup xs), rfl, rfl⟩
        · rintro _ h' ⟨o2, rfl, rfl⟩
          rw [n_seq]
          walk_at "w1"
          have e3 : [D.str "next", .str "eventually", .str "always", .str "until", .str "release", .str "unless", .str "strong"] = TW := rfl
          rw [w_ixT0, e3, w_in_tup rfl (by decide +kernel), tw_c]
          walk_at "wq"
          exact ⟨n, ws, rfl, Keep.refl _, hn, hws, fun q => q, fun x => ⟨.inl, fun q => q.elim id fun q => nomatch q⟩, Nat.le_add_right _ _⟩
      | _ => cases c
    | false =>
      have er := d_hd f c
      rw [n_seq, n_for]
      refine w_seqT (xs := f.parts.map Fm.d) ?_
      rw [er]
      walk_at "w1"
      rw [w_tail]
      refine ⟨rfl, ?_⟩
      rw [← er]
      refine for_tup (fun i ds' h' => ∃ (o2 : Option D) (n' : Nat) (ws' : List Fm), ds' = [some f.d, some (.ref n'), o2] ∧ Keep h h' ∧ h'[n']? = some (.lst (ws'.map Fm.d)) ∧ (∀ w ∈ ws', w.Ok zs ∧ w.dep ≤ B) ∧ (ws.Nodup → ws'.Nodup) ∧ (∀ x, x ∈ ws' ↔ x ∈ ws ∨ x ∈ (f.parts.take i).flatMap Fm.tsb) ∧ ws'.length ≤ ws.length + ((f.parts.take i).map Fm.sz).sum)
        ⟨_, n, ws, rfl, Keep.refl _, hn, hws, fun q => q, fun x => by simp, by simp⟩ ?_ ?_
      · rintro i x _ h' hx ⟨o2, n', ws', rfl, k1, e1, o1, nd, mm, ln⟩
        rw [List.getElem?_map] at hx
        cases q : f.parts[i]? with
        | none => rw [q] at hx; cases hx
        | some a =>
          rw [q] at hx
          cases hx
          have ha := List.mem_of_getElem? q
          obtain ⟨xs, ea⟩ := fm_tup a
          have tk : f.parts.take (i + 1) = f.parts.take i ++ [a] := by rw [List.take_add_one, q]; rfl
          have szs : ((f.parts.take i).map Fm.sz).sum + a.sz ≤ f.sz := by
            have e5 : f.parts = f.parts.take (i + 1) ++ f.parts.drop (i + 1) := (List.take_append_drop _ _).symm
            have q2 := sz_parts f c
            rw [e5, List.map_append, List.sum_append, tk, List.map_append, List.sum_append, show ([a].map Fm.sz).sum = a.sz by simp] at q2
            omega
          show SatN _ _ _ _ _
          simp only [gNm, List.set_cons_succ, List.set_cons_zero]
          rw [n_if]
          walk_at "w1"
          refine ⟨.tuple, by rw [ea]; rfl, ?_⟩
          simp (decide := true) only [if_true]
          walk_at "w1"
          refine (ih k a n' ws' h' (ok_parts ok ha) (by have := dep_parts ha; omega) (by have := dep_parts ha; omega) e1 o1 (by omega)).imp ?_
          rintro _ h2 ⟨n2, ws2, rfl, k2, e2, o2', nd2, mm2, ln2⟩
          refine ⟨some a.d, n2, ws2, rfl, k1.trans k2, e2, o2', fun z => nd2 (nd z), fun x => ?_, ?_⟩
          · rw [mm2, mm, tk, List.flatMap_append]
            simp [or_assoc]
          · rw [tk, List.map_append, List.sum_append, show ([a].map Fm.sz).sum = a.sz by simp]
            omega
      · rintro _ h' ⟨o2, n', ws', rfl, k1, e1, o1, nd, mm, ln⟩
        rw [List.length_map, List.take_length] at mm ln
        rw [n_seq]
        have lay : ∀ g : Fm, g.Ok zs → g.dep ≤ B → Lay 63 g.d := fun g g1 g2 => (flay hz g B g1 g2).mono (by omega)
        have szq := sz_parts f c
        have tq := tsb_parts f c
        rw [n_if]
        rw [er]
        walk_at "w1"
        have e3 : [D.str "next", .str "eventually", .str "always", .str "until", .str "release", .str "unless", .str "strong"] = TW := rfl
        rw [w_ixT0, e3, w_in_tup rfl (by decide +kernel), tw_in]
        rw [← er]
        cases ft : f.tmp with
        | false =>
          rw [ft] at tq
          walk_at "wq"
          refine ⟨n', ws', rfl, k1, e1, o1, nd, fun x => ?_, by omega⟩
          rw [mm, tq]; simp
        | true =>
          rw [ft] at tq
          walk_at "wq"
          refine w_inDD_lay (lay f ok lB) (by omega) (fm_tup f) (items_lst e1) (fun y hy => by obtain ⟨g, hg, rfl⟩ := List.mem_map.mp hy; exact lay g (o1 g hg).1 (o1 g hg).2) fun b hb => ?_
          have hb2 : b = true ↔ f ∈ ws' := by
            rw [hb]
            constructor
            · intro q
              obtain ⟨g, hg, e⟩ := List.mem_map.mp q
              rw [← fm_inj g f e]
              exact hg
            · intro q
              exact List.mem_map.mpr ⟨f, q, rfl⟩
          cases b with
          | true =>
            walk_at "wq"
            refine ⟨n', ws', rfl, k1, e1, o1, nd, fun x => ?_, by omega⟩
            rw [mm, tq]
            simp only [if_true, List.mem_append, List.mem_singleton]
            constructor
            · rintro (q | q)
              · exact .inl q
              · exact .inr (.inl q)
            · rintro (q | q | q)
              · exact .inl q
              · exact .inr q
              · rw [q]; exact (mm f).mp (hb2.mp rfl)
          | false =>
            walk_at "wq"
            have k2 : Keep h' (h' ++ [DO.lst [f.d]]) := Keep.app _ _
            rw [w_add_lst (k2 _ _ e1) (get_last _ _)]
            refine ⟨by rw [List.length_map]; simp; omega, _, ws' ++ [f], rfl, k1.trans (k2.trans (Keep.app _ _)), ?_, fun w hw => ?_, fun z => ?_, fun x => ?_, ?_⟩
            · rw [List.map_append]; exact get_last _ _
            · rcases List.mem_append.mp hw with q | q
              · exact o1 w q
              · rw [List.mem_singleton.mp q]; exact ⟨ok, lB⟩
            · refine List.nodup_append.mpr ⟨nd z, by simp, fun a ha b hb3 => ?_⟩
              rw [List.mem_singleton.mp hb3]
              exact fun q => absurd (hb2.mpr (q ▸ ha)) (by decide)
            · rw [List.mem_append, mm, tq]
              simp [or_assoc]
            · rw [List.length_append]
              simp
              omega
/-! ### shrinking adds no temporal subformula -/
def Rst.tm : Rst → Bool
  | .ev => true
  | .alw => true
  | _ => false
theorem two_cases2 (w : BiW) (l r : Fm) : (∃ q : Rst, (q.tm = true → w.tmp = true) ∧ Fm.two w l r = q.on r) ∨ (∃ q : Rst, (q.tm = true → w.tmp = true) ∧ Fm.two w l r = q.on l) ∨ Fm.two w l r = .bi w l r := by
  have h1 : w.lt.tm = true → w.tmp = true := by cases w <;> decide
  have h2 : w.lf.tm = true → w.tmp = true := by cases w <;> decide
  have h3 : w.rt.tm = true → w.tmp = true := by cases w <;> decide
  have h4 : w.rf.tm = true → w.tmp = true := by cases w <;> decide
  cases l with
  | tt => exact .inl ⟨_, h1, rfl⟩
  | ff => exact .inl ⟨_, h2, rfl⟩
  | _ =>
    cases r with
    | tt => exact .inr (.inl ⟨_, h3, rfl⟩)
    | ff => exact .inr (.inl ⟨_, h4, rfl⟩)
    | _ => exact .inr (.inr rfl)
theorem one_tsb {w : UnW} {p x : Fm} (h : x ∈ (p.one w).tsb) : x ∈ p.tsb ∨ (x = p.one w ∧ w.tmp = true) := by
  have key : x ∈ (Fm.un w p).tsb → x ∈ p.tsb ∨ (x = .un w p ∧ w.tmp = true) := fun h => by
    rcases List.mem_append.mp h with q | q
    · exact .inl q
    · by_cases c : w.tmp = true
      · rw [if_pos c] at q; exact .inr ⟨List.mem_singleton.mp q, c⟩
      · rw [if_neg c] at q; cases q
  cases p with
  | tt => cases w <;> cases h
  | ff => cases w <;> cases h
  | _ => exact key h
theorem on_tsb {q : Rst} {p x : Fm} (h : x ∈ (q.on p).tsb) : x ∈ p.tsb ∨ (x = q.on p ∧ q.tm = true) := by
  cases q with
  | part => exact .inl h
  | t => cases h
  | f => cases h
  | nt => rcases one_tsb h with a | ⟨_, b⟩
          · exact .inl a
          · cases b
  | ev => rcases one_tsb h with a | ⟨a, _⟩
          · exact .inl a
          · exact .inr ⟨a, rfl⟩
  | alw => rcases one_tsb h with a | ⟨a, _⟩
           · exact .inl a
           · exact .inr ⟨a, rfl⟩
theorem tsb_self {w : BiW} {f g : Fm} (h : w.tmp = true) : Fm.bi w f g ∈ (Fm.bi w f g).tsb := by
  show _ ∈ (f.tsb ++ g.tsb) ++ if w.tmp then [Fm.bi w f g] else []
  rw [if_pos h]
  exact List.mem_append.mpr (.inr (List.mem_singleton.mpr rfl))
theorem shr_tsb : ∀ (f x : Fm), x ∈ f.shr.tsb → ∃ t ∈ f.tsb, t.shr = x
  | .tt, x, h => nomatch h
  | .ff, x, h => nomatch h
  | .cmp _ _ _, x, h => nomatch h
  | .un w f, x, h => by
    rcases one_tsb (show x ∈ (f.shr.one w).tsb from h) with q | ⟨q, c⟩
    · obtain ⟨t, h1, h2⟩ := shr_tsb f x q
      exact ⟨t, List.mem_append.mpr (.inl h1), h2⟩
    · refine ⟨.un w f, ?_, q.symm⟩
      show _ ∈ f.tsb ++ if w.tmp then [Fm.un w f] else []
      rw [if_pos c]
      exact List.mem_append.mpr (.inr (List.mem_singleton.mpr rfl))
  | .bi w f g, x, h => by
    have h : x ∈ (Fm.two w f.shr g.shr).tsb := h
    have inF : (∃ t ∈ f.tsb, t.shr = x) → ∃ t ∈ (Fm.bi w f g).tsb, t.shr = x := fun ⟨t, h1, h2⟩ => ⟨t, List.mem_append.mpr (.inl (List.mem_append.mpr (.inl h1))), h2⟩
    have inG : (∃ t ∈ g.tsb, t.shr = x) → ∃ t ∈ (Fm.bi w f g).tsb, t.shr = x := fun ⟨t, h1, h2⟩ => ⟨t, List.mem_append.mpr (.inl (List.mem_append.mpr (.inr h1))), h2⟩
    rcases two_cases2 w f.shr g.shr with ⟨q, hq, e⟩ | ⟨q, hq, e⟩ | e
    · have h' := h; rw [e] at h'
      rcases on_tsb h' with a | ⟨a, c⟩
      · exact inG (shr_tsb g x a)
      · exact ⟨.bi w f g, tsb_self (hq c), by show Fm.two w f.shr g.shr = x; rw [e, a]⟩
    · have h' := h; rw [e] at h'
      rcases on_tsb h' with a | ⟨a, c⟩
      · exact inF (shr_tsb f x a)
      · exact ⟨.bi w f g, tsb_self (hq c), by show Fm.two w f.shr g.shr = x; rw [e, a]⟩
    · have h' := h; rw [e] at h'
      rcases List.mem_append.mp h' with a | a
      · rcases List.mem_append.mp a with a | a
        · exact inF (shr_tsb f x a)
        · exact inG (shr_tsb g x a)
      · by_cases c : w.tmp = true
        · rw [if_pos c] at a
          exact ⟨.bi w f g, tsb_self c, by show Fm.two w f.shr g.shr = x; rw [e, List.mem_singleton.mp a]⟩
        · rw [if_neg c] at a; cases a
theorem nodup_sub {α : Type} : ∀ {a b : List α}, a.Nodup → (∀ x ∈ a, x ∈ b) → a.length ≤ b.length
  | [], b, _, _ => Nat.zero_le _
  | x :: r, b, h, s => by
    obtain ⟨u, v, rfl⟩ := List.append_of_mem (s x (List.mem_cons.mpr (.inl rfl)))
    rw [List.nodup_cons] at h
    have : r.length ≤ (u ++ v).length := nodup_sub h.2 fun y hy => by
      have q := s y (List.mem_cons.mpr (.inr hy))
      rcases List.mem_append.mp q with q | q
      · exact List.mem_append.mpr (.inl q)
      · rcases List.mem_cons.mp q with q | q
        · exact absurd (q ▸ hy) h.1
        · exact List.mem_append.mpr (.inr q)
    rw [List.length_append] at this ⊢
    rw [List.length_cons, List.length_cons]
    omega
theorem waits_le {f : Fm} {a b : List Fm} (nd : a.Nodup) (ha : ∀ x, x ∈ a ↔ x ∈ f.shr.tsb) (hb : ∀ x, x ∈ b ↔ x ∈ f.tsb) : a.length ≤ b.length := by
  have : a.length ≤ (b.map Fm.shr).length := nodup_sub nd fun x hx => by
    obtain ⟨t, h1, h2⟩ := shr_tsb f x ((ha x).mp hx)
    exact List.mem_map.mpr ⟨t, (hb t).mpr h1, h2⟩
  rwa [List.length_map] at this
end GA
namespace K15
open PySem L2 Mi
def top (i : Nat) : Stmt := PySem.Challenge.pw_lassoproof_k15_shrink_size_and_constants.main.body.getD i (.Pass ⟨0, 0, 0, 0⟩)
-- PROGRAM
def k_COMPARISONS : List D := [("equal" : Str), ("below" : Str), ("upto" : Str)].map D.str
def k_LEFT_TRUE : List (Str × D) := [("and", .str "part"), ("or", .str "true"), ("implies", .str "part"), ("same", .str "part"), ("until", .str "eventually"), ("release", .str "part"), ("unless", .str "true"), ("strong", .str "part")]
def k_LEFT_FALSE : List (Str × D) := [("and", .str "false"), ("or", .str "part"), ("implies", .str "true"), ("same", .str "not"), ("until", .str "part"), ("release", .str "always"), ("unless", .str "part"), ("strong", .str "false")]
def k_RIGHT_TRUE : List (Str × D) := [("and", .str "part"), ("or", .str "true"), ("implies", .str "true"), ("same", .str "part"), ("until", .str "true"), ("release", .str "true"), ("unless", .str "true"), ("strong", .str "eventually")]
def k_RIGHT_FALSE : List (Str × D) := [("and", .str "false"), ("or", .str "part"), ("implies", .str "not"), ("same", .str "not"), ("until", .str "false"), ("release", .str "false"), ("unless", .str "always"), ("strong", .str "false")]
def b_0 (Φ : Nat → List D → DH → Res D) (M : Nat) : SM :=
  (sSeq (sIf (mTest (mOp (inD false) (mOp ixD (mVar 0) (mC (.int 0))) (mC (.tup k_COMPARISONS))))
      (sRet (mVar 0))
      sNext)
      (sSeq (sAsg (mLc (iSeq (mSl slD (mVar 0) (oSome (mC (.int 1))) oNone)) 2 mYes (mCB (Φ 0) (aCons (mVar 2) aNil)) [2]) (gNm 1))
      (sSeq (sIf (mTest (mOp eqD (mCB lenD (aCons (mVar 1) aNil)) (mC (.int 1))))
      (sRet (mCB (Φ 1) (aCons (mOp ixD (mVar 0) (mC (.int 0))) (aCons (mOp ixD (mVar 1) (mC (.int 0))) aNil))))
      sNext)
      (sSeq (sIf (mTest (mOp eqD (mCB lenD (aCons (mVar 1) aNil)) (mC (.int 2))))
      (sRet (mCB (Φ 2) (aCons (mOp ixD (mVar 0) (mC (.int 0))) (aCons (mOp ixD (mVar 1) (mC (.int 0))) (aCons (mOp ixD (mVar 1) (mC (.int 1))) aNil)))))
      sNext)
      (sRet (mVar 0))))))
def b_1 (Φ : Nat → List D → DH → Res D) (M : Nat) : SM :=
  (sSeq (sIf (mTest (mOp (inD true) (mOp ixD (mVar 1) (mC (.int 0))) (mTup (aCons (mC (.str "true")) (aCons (mC (.str "false")) aNil)))))
      (sRet (mTup (aCons (mVar 0) (aCons (mVar 1) aNil))))
      sNext)
      (sSeq (sIf (mTest (mOp neD (mVar 0) (mC (.str "not"))))
      (sRet (mVar 1))
      sNext)
      (sRet (mIf (mTest (mOp eqD (mOp ixD (mVar 1) (mC (.int 0))) (mC (.str "true")))) (mTup (aCons (mC (.str "false")) aNil)) (mTup (aCons (mC (.str "true")) aNil))))))
def b_2 (Φ : Nat → List D → DH → Res D) (M : Nat) : SM :=
  (sSeq (sIf (mTest (mOp eqD (mOp ixD (mVar 1) (mC (.int 0))) (mC (.str "true"))))
      (sRet (mCB (Φ 3) (aCons (mKD k_LEFT_TRUE (mVar 0)) (aCons (mVar 2) aNil))))
      sNext)
      (sSeq (sIf (mTest (mOp eqD (mOp ixD (mVar 1) (mC (.int 0))) (mC (.str "false"))))
      (sRet (mCB (Φ 3) (aCons (mKD k_LEFT_FALSE (mVar 0)) (aCons (mVar 2) aNil))))
      sNext)
      (sSeq (sIf (mTest (mOp eqD (mOp ixD (mVar 2) (mC (.int 0))) (mC (.str "true"))))
      (sRet (mCB (Φ 3) (aCons (mKD k_RIGHT_TRUE (mVar 0)) (aCons (mVar 1) aNil))))
      sNext)
      (sSeq (sIf (mTest (mOp eqD (mOp ixD (mVar 2) (mC (.int 0))) (mC (.str "false"))))
      (sRet (mCB (Φ 3) (aCons (mKD k_RIGHT_FALSE (mVar 0)) (aCons (mVar 1) aNil))))
      sNext)
      (sRet (mTup (aCons (mVar 0) (aCons (mVar 1) (aCons (mVar 2) aNil)))))))))
def b_3 (Φ : Nat → List D → DH → Res D) (M : Nat) : SM :=
  (sSeq (sIf (mTest (mOp eqD (mVar 0) (mC (.str "part"))))
      (sRet (mVar 1))
      sNext)
      (sSeq (sIf (mTest (mOp (inD false) (mVar 0) (mTup (aCons (mC (.str "true")) (aCons (mC (.str "false")) aNil)))))
      (sRet (mTup (aCons (mVar 0) aNil)))
      sNext)
      (sRet (mCB (Φ 1) (aCons (mVar 0) (aCons (mVar 1) aNil))))))
def b_4 (Φ : Nat → List D → DH → Res D) (M : Nat) : SM :=
  (sSeq (sIf (mTest (mOp ltD (mVar 1) (mCB lenD (aCons (mVar 0) aNil))))
      (sRet (mOp ixD (mVar 0) (mVar 1)))
      sNext)
      (sRet (mC (.int 0))))
def b_5 (Φ : Nat → List D → DH → Res D) (M : Nat) : SM :=
  (sSeq (sAsg (mCB (Φ 4) (aCons (mVar 0) (aCons (mVar 1) aNil))) (gNm 3))
      (sSeq (sAsg (mC (.int 0)) (gNm 4))
      (sSeq (sIf (mTest (mOp geD (mVar 3) (mOp powD (mC (.int 10)) (mC (.int 18)))))
      (sAsg (mOp subD (mVar 3) (mOp powD (mC (.int 10)) (mC (.int 18)))) (gNm 4))
      sNext)
      (sSeq (sAsg (mLst aNil) (gNm 5))
      (sSeq (sFor (iR1 (mVar 2)) (gNm 6)
      (sIf (mTest (mOp gtD (mVar 4) (mC (.int 0))))
      (sSeq (sDrop (mMt "list" appD (mVar 5) (aCons (mOp modD (mCB intD (aCons (mVar 4) aNil)) (mC (.int 1000))) aNil)))
      (sAsg (mOp fdivD (mVar 4) (mC (.int 1000))) (gNm 4)))
      (sSeq (sAsg (mCB (Φ 4) (aCons (mVar 0) (aCons (mOp modD (mCB intD (aCons (mOp addD (mOp mulD (mVar 6) (mC (.int 7))) (mVar 1)) aNil)) (mC (.int 63))) aNil))) (gNm 7))
      (sSeq (sAsg (mOp modD (mCB intD (aCons (mOp addD (mOp addD (mOp mulD (mVar 3) (mC (.int 48271))) (mOp mulD (mVar 7) (mC (.int 16807)))) (mOp mulD (mOp addD (mVar 6) (mC (.int 1))) (mC (.int 69621)))) aNil)) (mC (.int 2147483647))) (gNm 8))
      (sDrop (mMt "list" appD (mVar 5) (aCons (mOp modD (mOp fdivD (mOp modD (mCB intD (aCons (mOp addD (mOp mulD (mVar 8) (mVar 8)) (mOp mulD (mVar 6) (mC (.int 40692)))) aNil)) (mC (.int 2147483399))) (mC (.int 64))) (mC (.int 1000))) aNil)))))))
      (sRet (mVar 5)))))))
def b_6 (Φ : Nat → List D → DH → Res D) (M : Nat) : SM :=
  (sSeq (sIf (mTest (mOp eqD (mOp modD (mOp fdivD (mCB intD (aCons (mVar 0) aNil)) (mC (.int 12))) (mC (.int 8))) (mC (.int 1))))
      (sRet (mOp addD (mC (.int 13)) (mOp modD (mOp fdivD (mCB intD (aCons (mVar 0) aNil)) (mC (.int 96))) (mC (.int 12)))))
      sNext)
      (sRet (mOp addD (mC (.int 1)) (mOp modD (mCB intD (aCons (mVar 0) aNil)) (mC (.int 12))))))
def b_7 (Φ : Nat → List D → DH → Res D) (M : Nat) : SM :=
  (sSeq (sAsg (mOp ixD (mC (.str "abcdefghijklmnopqrstuvwxyz")) (mOp modD (mCB intD (aCons (mVar 0) aNil)) (mC (.int 26)))) (gNm 2))
      (sSeq (sAsg (mOp modD (mOp fdivD (mCB intD (aCons (mVar 0) aNil)) (mC (.int 26))) (mC (.int 4))) (gNm 3))
      (sSeq (sAsg (mLst aNil) (gNm 4))
      (sSeq (sFor (iR1 (mVar 1)) (gNm 5)
      (sIf (mTest (mOp eqD (mVar 3) (mC (.int 0))))
      (sDrop (mMt "list" appD (mVar 4) (aCons (mOp addD (mVar 2) (mOp mulD (mC (.str "0")) (mVar 5))) aNil)))
      (sIf (mTest (mOp eqD (mVar 3) (mC (.int 1))))
      (sDrop (mMt "list" appD (mVar 4) (aCons (mOp addD (mOp addD (mVar 2) (mC (.str "_"))) (mOp ixD (mC (.str "zyxw")) (mVar 5))) aNil)))
      (sIf (mTest (mOp eqD (mVar 3) (mC (.int 2))))
      (sDrop (mMt "list" appD (mVar 4) (aCons (mOp addD (mOp addD (mOp ixD (mC (.str "dcba")) (mVar 5)) (mVar 2)) (mC (.str "7"))) aNil)))
      (sDrop (mMt "list" appD (mVar 4) (aCons (mOp addD (mOp addD (mVar 2) (mC (.str "Q"))) (mOp ixD (mC (.str "DBCA")) (mVar 5))) aNil)))))))
      (sRet (mVar 4))))))
def b_8 (Φ : Nat → List D → DH → Res D) (M : Nat) : SM :=
  (sSeq (sAsg (mTup (aCons (mC (.str "name")) (aCons (mOp ixD (mVar 1) (mOp modD (mOp fdivD (mCB intD (aCons (mVar 0) aNil)) (mC (.int 16))) (mCB lenD (aCons (mVar 1) aNil)))) aNil))) (gNm 3))
      (sSeq (sAsg (mTup (aCons (mC (.str "name")) (aCons (mOp ixD (mVar 1) (mOp modD (mOp fdivD (mCB intD (aCons (mVar 0) aNil)) (mC (.int 48))) (mCB lenD (aCons (mVar 1) aNil)))) aNil))) (gNm 4))
      (sSeq (sAsg (mTup (aCons (mC (.str "number")) (aCons (mOp modD (mOp fdivD (mCB intD (aCons (mVar 0) aNil)) (mC (.int 48))) (mC (.int 5))) aNil))) (gNm 5))
      (sSeq (sAsg (mOp addD (mC (.int 1)) (mOp modD (mOp fdivD (mCB intD (aCons (mVar 0) aNil)) (mC (.int 48))) (mC (.int 5)))) (gNm 6))
      (sSeq (sAsg (mLst (aCons (mVar 3) (aCons (mVar 3) (aCons (mVar 3) (aCons (mVar 3) (aCons (mVar 5) (aCons (mVar 5) (aCons (mVar 5) (aCons (mTup (aCons (mC (.str "number")) (aCons (mVar 2) aNil))) (aCons (mTup (aCons (mC (.str "plus")) (aCons (mVar 3) (aCons (mVar 5) aNil)))) aNil)))))))))) (gNm 7))
      (sSeq (sAsg (mOp addD (mVar 7) (mLst (aCons (mTup (aCons (mC (.str "minus")) (aCons (mVar 3) (aCons (mVar 4) aNil)))) (aCons (mTup (aCons (mC (.str "times")) (aCons (mVar 3) (aCons (mVar 4) aNil)))) (aCons (mTup (aCons (mC (.str "negative")) (aCons (mVar 3) aNil))) (aCons (mTup (aCons (mC (.str "quotient")) (aCons (mVar 3) (aCons (mVar 6) aNil)))) aNil)))))) (gNm 7))
      (sSeq (sAsg (mOp addD (mVar 7) (mLst (aCons (mTup (aCons (mC (.str "remainder")) (aCons (mVar 4) (aCons (mVar 6) aNil)))) (aCons (mTup (aCons (mC (.str "least")) (aCons (mVar 3) (aCons (mVar 5) aNil)))) (aCons (mTup (aCons (mC (.str "most")) (aCons (mTup (aCons (mC (.str "negative")) (aCons (mVar 3) aNil))) (aCons (mVar 4) aNil)))) aNil))))) (gNm 7))
      (sRet (mOp ixD (mVar 7) (mOp modD (mCB intD (aCons (mVar 0) aNil)) (mC (.int 16))))))))))))
def b_9 (Φ : Nat → List D → DH → Res D) (M : Nat) : SM :=
  (sSeq (sIf (mTest (mOp ltD (mOp modD (mCB intD (aCons (mVar 0) aNil)) (mC (.int 8))) (mVar 5)))
      (sRet (mOp ixD (mLst (aCons (mTup (aCons (mC (.str "true")) aNil)) (aCons (mTup (aCons (mC (.str "false")) aNil)) aNil))) (mOp modD (mCB intD (aCons (mVar 1) aNil)) (mC (.int 2)))))
      sNext)
      (sSeq (sAsg (mOp ixD (mLst (aCons (mC (.str "equal")) (aCons (mC (.str "below")) (aCons (mC (.str "upto")) aNil)))) (mOp modD (mOp fdivD (mCB intD (aCons (mVar 0) aNil)) (mC (.int 8))) (mC (.int 3)))) (gNm 6))
      (sSeq (sIf (mTest (mVar 4))
      (sRet (mTup (aCons (mVar 6) (aCons (mTup (aCons (mC (.str "name")) (aCons (mOp ixD (mVar 2) (mOp modD (mOp fdivD (mCB intD (aCons (mVar 0) aNil)) (mC (.int 24))) (mCB lenD (aCons (mVar 2) aNil)))) aNil))) (aCons (mTup (aCons (mC (.str "number")) (aCons (mOp modD (mCB intD (aCons (mVar 1) aNil)) (mC (.int 3))) aNil))) aNil)))))
      sNext)
      (sRet (mTup (aCons (mVar 6) (aCons (mCB (Φ 8) (aCons (mOp addD (mOp fdivD (mCB intD (aCons (mVar 0) aNil)) (mC (.int 24))) (mOp mulD (mOp modD (mCB intD (aCons (mVar 1) aNil)) (mC (.int 5))) (mC (.int 48)))) (aCons (mVar 2) (aCons (mVar 3) aNil)))) (aCons (mCB (Φ 8) (aCons (mVar 1) (aCons (mVar 2) (aCons (mVar 3) aNil)))) aNil))))))))
def b_10 (Φ : Nat → List D → DH → Res D) (M : Nat) : SM :=
  (sSeq (sAsg (mLst (aCons (mC (.str "not")) (aCons (mC (.str "next")) (aCons (mC (.str "eventually")) (aCons (mC (.str "always")) (aCons (mC (.str "not")) (aCons (mC (.str "next")) aNil))))))) (gNm 5))
      (sSeq (sAsg (mLst (aCons (mC (.str "and")) (aCons (mC (.str "or")) (aCons (mC (.str "implies")) (aCons (mC (.str "same")) (aCons (mC (.str "until")) (aCons (mC (.str "release")) (aCons (mC (.str "unless")) (aCons (mC (.str "strong")) aNil))))))))) (gNm 6))
      (sSeq (sAsg (mLst aNil) (gNm 7))
      (sSeq (sFor (iR1 (mOp fdivD (mCB lenD (aCons (mVar 0) aNil)) (mC (.int 3)))) (gNm 8)
      (sSeq (sAsg (mOp modD (mCB intD (aCons (mOp ixD (mVar 0) (mOp mulD (mC (.int 3)) (mVar 8))) aNil)) (mC (.int 24))) (gNm 9))
      (sIf (mAnd (mTest (mOp geD (mVar 9) (mC (.int 16)))) (mTest (mOp gtD (mCB lenD (aCons (mVar 7) aNil)) (mC (.int 1)))))
      (sSeq (sAsg (mMt "list" popD (mVar 7) aNil) (gNm 10))
      (sSeq (sAsg (mMt "list" popD (mVar 7) aNil) (gNm 11))
      (sDrop (mMt "list" appD (mVar 7) (aCons (mTup (aCons (mOp ixD (mVar 6) (mOp subD (mVar 9) (mC (.int 16)))) (aCons (mVar 11) (aCons (mVar 10) aNil)))) aNil)))))
      (sIf (mAnd (mTest (mOp leD (mC (.int 10)) (mVar 9))) (mAnd (mTest (mOp ltD (mVar 9) (mC (.int 16)))) (mTest (mOp gtD (mCB lenD (aCons (mVar 7) aNil)) (mC (.int 0))))))
      (sSeq (sAsg (mMt "list" popD (mVar 7) aNil) (gNm 11))
      (sDrop (mMt "list" appD (mVar 7) (aCons (mTup (aCons (mOp ixD (mVar 5) (mOp subD (mVar 9) (mC (.int 10)))) (aCons (mVar 11) aNil))) aNil))))
      (sDrop (mMt "list" appD (mVar 7) (aCons (mCB (Φ 9) (aCons (mOp ixD (mVar 0) (mOp addD (mOp mulD (mC (.int 3)) (mVar 8)) (mC (.int 1)))) (aCons (mOp ixD (mVar 0) (mOp addD (mOp mulD (mC (.int 3)) (mVar 8)) (mC (.int 2)))) (aCons (mVar 1) (aCons (mVar 2) (aCons (mVar 3) (aCons (mVar 4) aNil))))))) aNil)))))))
      (sSeq (sFor (iR1 (mOp subD (mCB lenD (aCons (mVar 7) aNil)) (mC (.int 1)))) (gNm 8)
      (sSeq (sAsg (mMt "list" popD (mVar 7) aNil) (gNm 10))
      (sSeq (sAsg (mMt "list" popD (mVar 7) aNil) (gNm 11))
      (sDrop (mMt "list" appD (mVar 7) (aCons (mTup (aCons (mOp ixD (mVar 6) (mOp modD (mCB intD (aCons (mOp ixD (mVar 0) (mVar 8)) aNil)) (mC (.int 8)))) (aCons (mVar 11) (aCons (mVar 10) aNil)))) aNil))))))
      (sRet (mOp ixD (mVar 7) (mC (.int 0)))))))))
def b_11 (Φ : Nat → List D → DH → Res D) (M : Nat) : SM :=
  (sSeq (sIf (mTest (mIsi Ty.str (mVar 1)))
      (sRet (mAndV (mIsi Ty.str (mVar 0)) (mOp eqDD (mVar 0) (mVar 1))))
      sNext)
      (sSeq (sIf (mTest (mIsi Ty.int (mVar 1)))
      (sRet (mAndV (mIsi Ty.int (mVar 0)) (mAndV (mNotV (mIsi Ty.bool (mVar 0))) (mOp eqDD (mVar 0) (mVar 1)))))
      sNext)
      (sSeq (sIf (mAnd (mTest (mIsi Ty.tuple (mVar 1))) (mNot (mTest (mIsi Ty.tuple (mVar 0)))))
      (sRet (mC (.bl false)))
      sNext)
      (sSeq (sIf (mAnd (mTest (mIsi Ty.list (mVar 1))) (mNot (mTest (mIsi Ty.list (mVar 0)))))
      (sRet (mC (.bl false)))
      sNext)
      (sSeq (sIf (mTest (mOp neDD (mCB lenD (aCons (mVar 0) aNil)) (mCB lenD (aCons (mVar 1) aNil))))
      (sRet (mC (.bl false)))
      sNext)
      (sSeq (sFor (iR1 (mCB lenD (aCons (mVar 1) aNil))) (gNm 2)
      (sIf (mNot (mTest (mCB (Φ 11) (aCons (mOp ixD (mVar 0) (mVar 2)) (aCons (mOp ixD (mVar 1) (mVar 2)) aNil)))))
      (sRet (mC (.bl false)))
      sNext))
      (sRet (mC (.bl true)))))))))
def b_12 (Φ : Nat → List D → DH → Res D) (M : Nat) : SM :=
  (sSeq (sIf (mTest (mOp (inD false) (mOp ixD (mVar 0) (mC (.int 0))) (mTup (aCons (mC (.str "equal")) (aCons (mC (.str "below")) (aCons (mC (.str "upto")) aNil))))))
      (sRet (mC (.int 1)))
      sNext)
      (sSeq (sAsg (mC (.int 1)) (gNm 1))
      (sSeq (sFor (iSeq (mSl slD (mVar 0) (oSome (mC (.int 1))) oNone)) (gNm 2)
      (sAsg (mOp addD (mVar 1) (mCB (Φ 12) (aCons (mVar 2) aNil))) (gNm 1)))
      (sRet (mVar 1)))))
def b_13 (Φ : Nat → List D → DH → Res D) (M : Nat) : SM :=
  (sSeq (sIf (mTest (mOp (inD false) (mOp ixD (mVar 0) (mC (.int 0))) (mTup (aCons (mC (.str "equal")) (aCons (mC (.str "below")) (aCons (mC (.str "upto")) aNil))))))
      (sRet (mLst (aCons (mVar 0) aNil)))
      sNext)
      (sSeq (sAsg (mLst aNil) (gNm 1))
      (sSeq (sFor (iSeq (mSl slD (mVar 0) (oSome (mC (.int 1))) oNone)) (gNm 2)
      (sAsg (mOp addD (mVar 1) (mCB (Φ 13) (aCons (mVar 2) aNil))) (gNm 1)))
      (sRet (mVar 1)))))
def b_14 (Φ : Nat → List D → DH → Res D) (M : Nat) : SM :=
  (sSeq (sIf (mOr (mNot (mTest (mIsi Ty.tuple (mVar 0)))) (mOr (mTest (mOp eqD (mCB lenD (aCons (mVar 0) aNil)) (mC (.int 0)))) (mNot (mTest (mIsi Ty.str (mOp ixD (mVar 0) (mC (.int 0))))))))
      (sRet (mC (.bl false)))
      sNext)
      (sSeq (sIf (mTest (mOp (inD false) (mOp ixD (mVar 0) (mC (.int 0))) (mTup (aCons (mC (.str "equal")) (aCons (mC (.str "below")) (aCons (mC (.str "upto")) aNil))))))
      (sSeq (sFor (iSeq (mVar 1)) (gNm 4)
      (sIf (mTest (mCB (Φ 11) (aCons (mVar 0) (aCons (mVar 4) aNil))))
      (sRet (mC (.bl true)))
      sNext))
      (sRet (mC (.bl false))))
      sNext)
      (sSeq (sAsg (mUn negD (mC (.int 1))) (gNm 2))
      (sSeq (sIf (mTest (mOp (inD false) (mOp ixD (mVar 0) (mC (.int 0))) (mTup (aCons (mC (.str "true")) (aCons (mC (.str "false")) aNil)))))
      (sAsg (mC (.int 0)) (gNm 2))
      (sIf (mTest (mOp (inD false) (mOp ixD (mVar 0) (mC (.int 0))) (mTup (aCons (mC (.str "not")) (aCons (mC (.str "next")) (aCons (mC (.str "eventually")) (aCons (mC (.str "always")) aNil)))))))
      (sAsg (mC (.int 1)) (gNm 2))
      (sIf (mTest (mOp (inD false) (mOp ixD (mVar 0) (mC (.int 0))) (mTup (aCons (mC (.str "and")) (aCons (mC (.str "or")) (aCons (mC (.str "implies")) (aCons (mC (.str "same")) (aCons (mC (.str "until")) (aCons (mC (.str "release")) (aCons (mC (.str "unless")) (aCons (mC (.str "strong")) aNil)))))))))))
      (sAsg (mC (.int 2)) (gNm 2))
      sNext)))
      (sSeq (sIf (mTest (mOp neDD (mCB lenD (aCons (mVar 0) aNil)) (mOp addD (mVar 2) (mC (.int 1)))))
      (sRet (mC (.bl false)))
      sNext)
      (sSeq (sFor (iSeq (mSl slD (mVar 0) (oSome (mC (.int 1))) oNone)) (gNm 3)
      (sIf (mNot (mTest (mCB (Φ 14) (aCons (mVar 3) (aCons (mVar 1) aNil)))))
      (sRet (mC (.bl false)))
      sNext))
      (sRet (mC (.bl true)))))))))
def b_15 (Φ : Nat → List D → DH → Res D) (M : Nat) : SM :=
  (sSeq (sIf (mTest (mOp eqD (mOp ixD (mVar 0) (mC (.int 0))) (mC (.str "number"))))
      (sRet (mOp ixD (mVar 0) (mC (.int 1))))
      sNext)
      (sSeq (sIf (mTest (mOp eqD (mOp ixD (mVar 0) (mC (.int 0))) (mC (.str "name"))))
      (sRet (mOp ixD (mVar 2) (mMt "list" indexD (mVar 1) (aCons (mOp ixD (mVar 0) (mC (.int 1))) aNil))))
      sNext)
      (sSeq (sAsg (mCB (Φ 15) (aCons (mOp ixD (mVar 0) (mC (.int 1))) (aCons (mVar 1) (aCons (mVar 2) aNil)))) (gNm 3))
      (sSeq (sIf (mTest (mOp eqD (mOp ixD (mVar 0) (mC (.int 0))) (mC (.str "negative"))))
      (sRet (mOp subD (mC (.int 0)) (mVar 3)))
      sNext)
      (sSeq (sIf (mTest (mOp eqD (mOp ixD (mVar 0) (mC (.int 0))) (mC (.str "quotient"))))
      (sRet (mOp fdivD (mVar 3) (mOp ixD (mVar 0) (mC (.int 2)))))
      sNext)
      (sSeq (sIf (mTest (mOp eqD (mOp ixD (mVar 0) (mC (.int 0))) (mC (.str "remainder"))))
      (sRet (mOp subD (mVar 3) (mOp mulD (mOp fdivD (mVar 3) (mOp ixD (mVar 0) (mC (.int 2)))) (mOp ixD (mVar 0) (mC (.int 2))))))
      sNext)
      (sSeq (sAsg (mCB (Φ 15) (aCons (mOp ixD (mVar 0) (mC (.int 2))) (aCons (mVar 1) (aCons (mVar 2) aNil)))) (gNm 4))
      (sSeq (sIf (mTest (mOp eqD (mOp ixD (mVar 0) (mC (.int 0))) (mC (.str "plus"))))
      (sRet (mOp addD (mVar 3) (mVar 4)))
      sNext)
      (sSeq (sIf (mTest (mOp eqD (mOp ixD (mVar 0) (mC (.int 0))) (mC (.str "minus"))))
      (sRet (mOp subD (mVar 3) (mVar 4)))
      sNext)
      (sSeq (sIf (mTest (mOp eqD (mOp ixD (mVar 0) (mC (.int 0))) (mC (.str "times"))))
      (sRet (mOp mulD (mVar 3) (mVar 4)))
      sNext)
      (sSeq (sIf (mTest (mOp eqD (mOp ixD (mVar 0) (mC (.int 0))) (mC (.str "least"))))
      (sRet (mCB min2D (aCons (mVar 3) (aCons (mVar 4) aNil))))
      sNext)
      (sRet (mCB max2D (aCons (mVar 3) (aCons (mVar 4) aNil)))))))))))))))
def b_16 (Φ : Nat → List D → DH → Res D) (M : Nat) : SM :=
  (sSeq (sAsg (mCB (Φ 15) (aCons (mOp ixD (mVar 0) (mC (.int 1))) (aCons (mVar 1) (aCons (mVar 2) aNil)))) (gNm 3))
      (sSeq (sAsg (mCB (Φ 15) (aCons (mOp ixD (mVar 0) (mC (.int 2))) (aCons (mVar 1) (aCons (mVar 2) aNil)))) (gNm 4))
      (sSeq (sIf (mTest (mOp eqD (mOp ixD (mVar 0) (mC (.int 0))) (mC (.str "equal"))))
      (sRet (mOp eqDD (mVar 3) (mVar 4)))
      sNext)
      (sSeq (sIf (mTest (mOp eqD (mOp ixD (mVar 0) (mC (.int 0))) (mC (.str "below"))))
      (sRet (mOp ltD (mVar 3) (mVar 4)))
      sNext)
      (sRet (mOp leD (mVar 3) (mVar 4)))))))
def b_17 (Φ : Nat → List D → DH → Res D) (M : Nat) : SM :=
  (sSeq (sIf (mTest (mOp ltD (mOp addD (mVar 0) (mC (.int 1))) (mVar 2)))
      (sRet (mOp addD (mVar 0) (mC (.int 1))))
      sNext)
      (sRet (mVar 1)))
def b_18 (Φ : Nat → List D → DH → Res D) (M : Nat) : SM :=
  (sSeq (sFor (iR1 (mCB lenD (aCons (mVar 2) aNil))) (gNm 5)
      (sSeq (sIf (mTest (mOp ixD (mVar 3) (mVar 0)))
      (sRet (mC (.bl true)))
      sNext)
      (sSeq (sIf (mNot (mTest (mOp ixD (mVar 2) (mVar 0))))
      (sRet (mC (.bl false)))
      sNext)
      (sAsg (mCB (Φ 17) (aCons (mVar 0) (aCons (mVar 1) (aCons (mCB lenD (aCons (mVar 2) aNil)) aNil)))) (gNm 0)))))
      (sRet (mVar 4)))
def b_19 (Φ : Nat → List D → DH → Res D) (M : Nat) : SM :=
  (sSeq (sAsg (mCB lenD (aCons (mVar 1) aNil)) (gNm 4))
      (sSeq (sIf (mTest (mOp eqD (mVar 0) (mC (.str "until"))))
      (sRet (mLc (iR1 (mVar 4)) 9 mYes (mCB (Φ 18) (aCons (mVar 9) (aCons (mVar 3) (aCons (mVar 1) (aCons (mVar 2) (aCons (mC (.bl false)) aNil)))))) [9]))
      sNext)
      (sSeq (sIf (mTest (mOp eqD (mVar 0) (mC (.str "unless"))))
      (sRet (mLc (iR1 (mVar 4)) 9 mYes (mCB (Φ 18) (aCons (mVar 9) (aCons (mVar 3) (aCons (mVar 1) (aCons (mVar 2) (aCons (mC (.bl true)) aNil)))))) [9]))
      sNext)
      (sSeq (sIf (mTest (mOp eqD (mVar 0) (mC (.str "strong"))))
      (sSeq (sAsg (mLc (iR1 (mVar 4)) 9 mYes (mAndV (mOp ixD (mVar 1) (mVar 9)) (mOp ixD (mVar 2) (mVar 9))) [9]) (gNm 7))
      (sRet (mLc (iR1 (mVar 4)) 9 mYes (mCB (Φ 18) (aCons (mVar 9) (aCons (mVar 3) (aCons (mVar 2) (aCons (mVar 7) (aCons (mC (.bl false)) aNil)))))) [9])))
      sNext)
      (sSeq (sAsg (mLc (iSeq (mVar 1)) 8 mYes (mNotV (mVar 8)) [8]) (gNm 5))
      (sSeq (sAsg (mLc (iSeq (mVar 2)) 8 mYes (mNotV (mVar 8)) [8]) (gNm 6))
      (sRet (mLc (iR1 (mVar 4)) 9 mYes (mNotV (mCB (Φ 18) (aCons (mVar 9) (aCons (mVar 3) (aCons (mVar 5) (aCons (mVar 6) (aCons (mC (.bl false)) aNil))))))) [9]))))))))
def b_20 (Φ : Nat → List D → DH → Res D) (M : Nat) : SM :=
  (sSeq (sAsg (mOp ixD (mVar 0) (mC (.int 0))) (gNm 4))
      (sSeq (sAsg (mCB lenD (aCons (mVar 2) aNil)) (gNm 5))
      (sSeq (sIf (mOr (mTest (mOp eqD (mVar 4) (mC (.str "true")))) (mTest (mOp eqD (mVar 4) (mC (.str "false")))))
      (sRet (mLc (iSeq (mVar 2)) 8 mYes (mOp eqD (mVar 4) (mC (.str "true"))) [8]))
      sNext)
      (sSeq (sIf (mTest (mOp (inD false) (mVar 4) (mTup (aCons (mC (.str "equal")) (aCons (mC (.str "below")) (aCons (mC (.str "upto")) aNil))))))
      (sRet (mLc (iSeq (mVar 2)) 8 mYes (mCB (Φ 16) (aCons (mVar 0) (aCons (mVar 1) (aCons (mVar 8) aNil)))) [8]))
      sNext)
      (sSeq (sAsg (mCB (Φ 20) (aCons (mOp ixD (mVar 0) (mC (.int 1))) (aCons (mVar 1) (aCons (mVar 2) (aCons (mVar 3) aNil))))) (gNm 6))
      (sSeq (sIf (mTest (mOp eqD (mVar 4) (mC (.str "not"))))
      (sRet (mLc (iSeq (mVar 6)) 9 mYes (mNotV (mVar 9)) [9]))
      sNext)
      (sSeq (sIf (mTest (mOp eqD (mVar 4) (mC (.str "next"))))
      (sRet (mLc (iR1 (mVar 5)) 10 mYes (mOp ixD (mVar 6) (mCB (Φ 17) (aCons (mVar 10) (aCons (mVar 3) (aCons (mVar 5) aNil))))) [10]))
      sNext)
      (sSeq (sIf (mTest (mOp eqD (mVar 4) (mC (.str "eventually"))))
      (sRet (mLc (iR1 (mVar 5)) 10 mYes (mCB (Φ 18) (aCons (mVar 10) (aCons (mVar 3) (aCons (mLc (iSeq (mVar 6)) 9 mYes (mC (.bl true)) [9]) (aCons (mVar 6) (aCons (mC (.bl false)) aNil)))))) [10]))
      sNext)
      (sSeq (sIf (mTest (mOp eqD (mVar 4) (mC (.str "always"))))
      (sRet (mLc (iR1 (mVar 5)) 10 mYes (mCB (Φ 18) (aCons (mVar 10) (aCons (mVar 3) (aCons (mVar 6) (aCons (mLc (iSeq (mVar 6)) 9 mYes (mC (.bl false)) [9]) (aCons (mC (.bl true)) aNil)))))) [10]))
      sNext)
      (sSeq (sAsg (mCB (Φ 20) (aCons (mOp ixD (mVar 0) (mC (.int 2))) (aCons (mVar 1) (aCons (mVar 2) (aCons (mVar 3) aNil))))) (gNm 7))
      (sSeq (sIf (mTest (mOp eqD (mVar 4) (mC (.str "and"))))
      (sRet (mLc (iR1 (mVar 5)) 10 mYes (mAndV (mOp ixD (mVar 6) (mVar 10)) (mOp ixD (mVar 7) (mVar 10))) [10]))
      sNext)
      (sSeq (sIf (mTest (mOp eqD (mVar 4) (mC (.str "or"))))
      (sRet (mLc (iR1 (mVar 5)) 10 mYes (mOrV (mOp ixD (mVar 6) (mVar 10)) (mOp ixD (mVar 7) (mVar 10))) [10]))
      sNext)
      (sSeq (sIf (mTest (mOp eqD (mVar 4) (mC (.str "implies"))))
      (sRet (mLc (iR1 (mVar 5)) 10 mYes (mOrV (mNotV (mOp ixD (mVar 6) (mVar 10))) (mOp ixD (mVar 7) (mVar 10))) [10]))
      sNext)
      (sSeq (sIf (mTest (mOp eqD (mVar 4) (mC (.str "same"))))
      (sRet (mLc (iR1 (mVar 5)) 10 mYes (mOp eqDD (mOp ixD (mVar 6) (mVar 10)) (mOp ixD (mVar 7) (mVar 10))) [10]))
      sNext)
      (sRet (mCB (Φ 19) (aCons (mVar 4) (aCons (mVar 6) (aCons (mVar 7) (aCons (mVar 3) aNil))))))))))))))))))))
def b_21 (Φ : Nat → List D → DH → Res D) (M : Nat) : SM :=
  (sSeq (sAsg (mC (.int 0)) (gNm 1))
      (sSeq (sFor (iSeq (mSl slD (mVar 0) (oSome (mC (.int 1))) oNone)) (gNm 2)
      (sIf (mTest (mIsi Ty.tuple (mVar 2)))
      (sAsg (mCB max2D (aCons (mVar 1) (aCons (mCB (Φ 21) (aCons (mVar 2) aNil)) aNil))) (gNm 1))
      sNext))
      (sRet (mOp addD (mVar 1) (mC (.int 1))))))
def b_22 (Φ : Nat → List D → DH → Res D) (M : Nat) : SM :=
  (sSeq (sFor (iSeq (mSl slD (mVar 0) (oSome (mC (.int 1))) oNone)) (gNm 2)
      (sIf (mTest (mIsi Ty.tuple (mVar 2)))
      (sAsg (mCB (Φ 22) (aCons (mVar 2) (aCons (mVar 1) aNil))) (gNm 1))
      sNext))
      (sSeq (sIf (mAnd (mTest (mOp (inD false) (mOp ixD (mVar 0) (mC (.int 0))) (mTup (aCons (mC (.str "next")) (aCons (mC (.str "eventually")) (aCons (mC (.str "always")) (aCons (mC (.str "until")) (aCons (mC (.str "release")) (aCons (mC (.str "unless")) (aCons (mC (.str "strong")) aNil)))))))))) (mTest (mOp (inDD true) (mVar 0) (mVar 1))))
      (sRet (mOp addD (mVar 1) (mLst (aCons (mVar 0) aNil))))
      sNext)
      (sRet (mVar 1))))
def b_23 (Φ : Nat → List D → DH → Res D) (M : Nat) : SM :=
  (sSeq (sIf (mTest (mOp (inD false) (mOp ixD (mVar 0) (mC (.int 0))) (mTup (aCons (mC (.str "equal")) (aCons (mC (.str "below")) (aCons (mC (.str "upto")) aNil))))))
      (sRet (mC (.int 0)))
      sNext)
      (sSeq (sAsg (mCB intD (aCons (mOp (inD false) (mOp ixD (mVar 0) (mC (.int 0))) (mTup (aCons (mC (.str "true")) (aCons (mC (.str "false")) aNil)))) aNil)) (gNm 1))
      (sSeq (sFor (iSeq (mSl slD (mVar 0) (oSome (mC (.int 1))) oNone)) (gNm 2)
      (sAsg (mOp addD (mVar 1) (mCB (Φ 23) (aCons (mVar 2) aNil))) (gNm 1)))
      (sRet (mVar 1)))))
def b_24 (Φ : Nat → List D → DH → Res D) (M : Nat) : SM :=
  (sSeq (sIf (mOr (mNot (mTest (mCB (Φ 14) (aCons (mVar 0) (aCons (mCB (Φ 13) (aCons (mVar 1) aNil)) aNil))))) (mTest (mOp gtD (mCB (Φ 12) (aCons (mVar 0) aNil)) (mCB (Φ 12) (aCons (mVar 1) aNil)))))
      (sRet (mC (.bl false)))
      sNext)
      (sSeq (sIf (mOr (mTest (mOp gtD (mCB (Φ 21) (aCons (mVar 0) aNil)) (mCB (Φ 21) (aCons (mVar 1) aNil)))) (mTest (mOp gtD (mCB lenD (aCons (mCB (Φ 22) (aCons (mVar 0) (aCons (mLst aNil) aNil))) aNil)) (mCB lenD (aCons (mCB (Φ 22) (aCons (mVar 1) (aCons (mLst aNil) aNil))) aNil)))))
      (sRet (mC (.bl false)))
      sNext)
      (sRet (mOrV (mOp eqD (mCB (Φ 23) (aCons (mVar 0) aNil)) (mC (.int 0))) (mOp eqD (mCB lenD (aCons (mVar 0) aNil)) (mC (.int 1)))))))
def b_25 (Φ : Nat → List D → DH → Res D) (M : Nat) : SM :=
  (sSeq (sAsg (mCB (Φ 7) (aCons (mCB (Φ 4) (aCons (mVar 0) (aCons (mC (.int 7)) aNil))) (aCons (mC (.int 3)) aNil))) (gNm 1))
      (sSeq (sAsg (mOp modD (mCB intD (aCons (mCB (Φ 4) (aCons (mVar 0) (aCons (mC (.int 2)) aNil))) aNil)) (mOp subD (mOp powD (mC (.int 10)) (mC (.int 18))) (mC (.int 2)))) (gNm 2))
      (sSeq (sAsg (mOp modD (mCB intD (aCons (mCB (Φ 4) (aCons (mVar 0) (aCons (mC (.int 3)) aNil))) aNil)) (mC (.int 8))) (gNm 3))
      (sSeq (sAsg (mCB (Φ 5) (aCons (mVar 0) (aCons (mC (.int 1)) (aCons (mOp mulD (mC (.int 3)) (mCB (Φ 6) (aCons (mCB (Φ 4) (aCons (mVar 0) (aCons (mC (.int 0)) aNil))) aNil))) aNil)))) (gNm 4))
      (sSeq (sAsg (mCB (Φ 10) (aCons (mVar 4) (aCons (mVar 1) (aCons (mVar 2) (aCons (mOp eqD (mOp fdivD (mVar 3) (mC (.int 4))) (mC (.int 0))) (aCons (mOp ixD (mLst (aCons (mC (.int 2)) (aCons (mC (.int 4)) (aCons (mC (.int 6)) (aCons (mC (.int 8)) aNil))))) (mOp modD (mVar 3) (mC (.int 4)))) aNil)))))) (gNm 5))
      (sSeq (sAsg (mCB (Φ 0) (aCons (mVar 5) aNil)) (gNm 6))
      (sSeq (sIf (mNot (mTest (mCB (Φ 24) (aCons (mVar 6) (aCons (mVar 5) aNil)))))
      (sRet (mC (.bl false)))
      sNext)
      (sSeq (sAsg (mCB (Φ 0) (aCons (mVar 6) aNil)) (gNm 7))
      (sSeq (sIf (mNot (mTest (mCB (Φ 24) (aCons (mVar 7) (aCons (mVar 6) aNil)))))
      (sRet (mC (.bl false)))
      sNext)
      (sSeq (sIf (mTest (mOp eqD (mCB lenD (aCons (mCB (Φ 13) (aCons (mVar 5) aNil)) aNil)) (mC (.int 0))))
      (sSeq (sAsg (mCB (Φ 20) (aCons (mVar 5) (aCons (mVar 1) (aCons (mLst (aCons (mTup (aCons (mC (.int 0)) (aCons (mC (.int 0)) (aCons (mC (.int 0)) aNil)))) aNil)) (aCons (mC (.int 0)) aNil))))) (gNm 8))
      (sRet (mAndV (mOp eqDD (mOp ixD (mVar 6) (mC (.int 0))) (mOp ixD (mLst (aCons (mC (.str "false")) (aCons (mC (.str "true")) aNil))) (mCB intD (aCons (mOp ixD (mVar 8) (mC (.int 0))) aNil)))) (mOp eqDD (mVar 7) (mVar 6)))))
      sNext)
      (sRet (mC (.bl true)))))))))))))
def fnB (M : Nat) (Φ : Nat → List D → DH → Res D) : Nat → List D → DH → Res D
  | 0 => runF 1 3 (b_0 Φ M)
  | 1 => runF 2 2 (b_1 Φ M)
  | 2 => runF 3 3 (b_2 Φ M)
  | 3 => runF 2 2 (b_3 Φ M)
  | 4 => runF 2 2 (b_4 Φ M)
  | 5 => runF 3 9 (b_5 Φ M)
  | 6 => runF 1 1 (b_6 Φ M)
  | 7 => runF 2 6 (b_7 Φ M)
  | 8 => runF 3 8 (b_8 Φ M)
  | 9 => runF 6 7 (b_9 Φ M)
  | 10 => runF 5 12 (b_10 Φ M)
  | 11 => runF 2 3 (b_11 Φ M)
  | 12 => runF 1 3 (b_12 Φ M)
  | 13 => runF 1 3 (b_13 Φ M)
  | 14 => runF 2 5 (b_14 Φ M)
  | 15 => runF 3 5 (b_15 Φ M)
  | 16 => runF 3 5 (b_16 Φ M)
  | 17 => runF 3 3 (b_17 Φ M)
  | 18 => runF 5 6 (b_18 Φ M)
  | 19 => runF 4 10 (b_19 Φ M)
  | 20 => runF 4 11 (b_20 Φ M)
  | 21 => runF 1 3 (b_21 Φ M)
  | 22 => runF 2 3 (b_22 Φ M)
  | 23 => runF 1 3 (b_23 Φ M)
  | 24 => runF 2 2 (b_24 Φ M)
  | 25 => runF 1 9 (b_25 Φ M)
  | _ => fun _ _ => .no
def fn (M : Nat) : Nat → Nat → List D → DH → Res D
  | 0 => fun _ _ _ => .no
  | k + 1 => fnB M (fn M k)
theorem e_0 {M k : Nat} {xs : List D} {h : DH} : fn M (k + 1) 0 xs h = runF 1 3 (b_0 (fn M k) M) xs h := rfl
theorem e_1 {M k : Nat} {xs : List D} {h : DH} : fn M (k + 1) 1 xs h = runF 2 2 (b_1 (fn M k) M) xs h := rfl
theorem e_2 {M k : Nat} {xs : List D} {h : DH} : fn M (k + 1) 2 xs h = runF 3 3 (b_2 (fn M k) M) xs h := rfl
theorem e_3 {M k : Nat} {xs : List D} {h : DH} : fn M (k + 1) 3 xs h = runF 2 2 (b_3 (fn M k) M) xs h := rfl
theorem e_4 {M k : Nat} {xs : List D} {h : DH} : fn M (k + 1) 4 xs h = runF 2 2 (b_4 (fn M k) M) xs h := rfl
theorem e_5 {M k : Nat} {xs : List D} {h : DH} : fn M (k + 1) 5 xs h = runF 3 9 (b_5 (fn M k) M) xs h := rfl
theorem e_6 {M k : Nat} {xs : List D} {h : DH} : fn M (k + 1) 6 xs h = runF 1 1 (b_6 (fn M k) M) xs h := rfl
theorem e_7 {M k : Nat} {xs : List D} {h : DH} : fn M (k + 1) 7 xs h = runF 2 6 (b_7 (fn M k) M) xs h := rfl
theorem e_8 {M k : Nat} {xs : List D} {h : DH} : fn M (k + 1) 8 xs h = runF 3 8 (b_8 (fn M k) M) xs h := rfl
theorem e_9 {M k : Nat} {xs : List D} {h : DH} : fn M (k + 1) 9 xs h = runF 6 7 (b_9 (fn M k) M) xs h := rfl
theorem e_10 {M k : Nat} {xs : List D} {h : DH} : fn M (k + 1) 10 xs h = runF 5 12 (b_10 (fn M k) M) xs h := rfl
theorem e_11 {M k : Nat} {xs : List D} {h : DH} : fn M (k + 1) 11 xs h = runF 2 3 (b_11 (fn M k) M) xs h := rfl
theorem e_12 {M k : Nat} {xs : List D} {h : DH} : fn M (k + 1) 12 xs h = runF 1 3 (b_12 (fn M k) M) xs h := rfl
theorem e_13 {M k : Nat} {xs : List D} {h : DH} : fn M (k + 1) 13 xs h = runF 1 3 (b_13 (fn M k) M) xs h := rfl
theorem e_14 {M k : Nat} {xs : List D} {h : DH} : fn M (k + 1) 14 xs h = runF 2 5 (b_14 (fn M k) M) xs h := rfl
theorem e_15 {M k : Nat} {xs : List D} {h : DH} : fn M (k + 1) 15 xs h = runF 3 5 (b_15 (fn M k) M) xs h := rfl
theorem e_16 {M k : Nat} {xs : List D} {h : DH} : fn M (k + 1) 16 xs h = runF 3 5 (b_16 (fn M k) M) xs h := rfl
theorem e_17 {M k : Nat} {xs : List D} {h : DH} : fn M (k + 1) 17 xs h = runF 3 3 (b_17 (fn M k) M) xs h := rfl
theorem e_18 {M k : Nat} {xs : List D} {h : DH} : fn M (k + 1) 18 xs h = runF 5 6 (b_18 (fn M k) M) xs h := rfl
theorem e_19 {M k : Nat} {xs : List D} {h : DH} : fn M (k + 1) 19 xs h = runF 4 10 (b_19 (fn M k) M) xs h := rfl
theorem e_20 {M k : Nat} {xs : List D} {h : DH} : fn M (k + 1) 20 xs h = runF 4 11 (b_20 (fn M k) M) xs h := rfl
theorem e_21 {M k : Nat} {xs : List D} {h : DH} : fn M (k + 1) 21 xs h = runF 1 3 (b_21 (fn M k) M) xs h := rfl
theorem e_22 {M k : Nat} {xs : List D} {h : DH} : fn M (k + 1) 22 xs h = runF 2 3 (b_22 (fn M k) M) xs h := rfl
theorem e_23 {M k : Nat} {xs : List D} {h : DH} : fn M (k + 1) 23 xs h = runF 1 3 (b_23 (fn M k) M) xs h := rfl
theorem e_24 {M k : Nat} {xs : List D} {h : DH} : fn M (k + 1) 24 xs h = runF 2 2 (b_24 (fn M k) M) xs h := rfl
theorem e_25 {M k : Nat} {xs : List D} {h : DH} : fn M (k + 1) 25 xs h = runF 1 9 (b_25 (fn M k) M) xs h := rfl
-- slots: 0 shrink: formula parts part; 1 shrunk_one: word part; 2 shrunk_two: word left right; 3 shrunk_rest: rest part; 4 _law_cell: script k; 5 _law_draws: script first count cell rest draws k other mixed; 6 _law_many: cell; 7 _law_names: cell many letter style names k; 8 _law_term: draw names great name other small count terms; 9 _law_leaf: one two names great few plain word; 10 _law_formula: draws names great few plain unary binary stack k choice second first; 11 _law_same: actual expected k; 12 _law_size: tree total part; 13 _law_found: tree found part; 14 _law_good: tree allowed parts part comparison; 15 _law_value: term names state first second; 16 _law_holds: comparison names state first second; 17 _law_after: place back many; 18 _law_walk: place back first second end step; 19 _law_temporal: word first second back many no_first no_second both bit k; 20 _law_along: tree names run back word many first second state bit k; 21 _law_depth: tree deepest part; 22 _law_waits: tree waits part; 23 _law_constants: tree total part; 24 _law_shrunk: answer formula; 25 law: script names great choice draws formula answer again due
-- END
theorem fn_len_0 {M k : Nat} : ∀ xs h, fn M k 0 xs h ≠ .no → xs.length = 1 := by
  intro xs h e
  cases k with
  | zero => exact absurd rfl e
  | succ k => exact runF_len e
theorem fn_len_1 {M k : Nat} : ∀ xs h, fn M k 1 xs h ≠ .no → xs.length = 2 := by
  intro xs h e
  cases k with
  | zero => exact absurd rfl e
  | succ k => exact runF_len e
theorem fn_len_2 {M k : Nat} : ∀ xs h, fn M k 2 xs h ≠ .no → xs.length = 3 := by
  intro xs h e
  cases k with
  | zero => exact absurd rfl e
  | succ k => exact runF_len e
theorem fn_len_3 {M k : Nat} : ∀ xs h, fn M k 3 xs h ≠ .no → xs.length = 2 := by
  intro xs h e
  cases k with
  | zero => exact absurd rfl e
  | succ k => exact runF_len e
theorem fn_len_4 {M k : Nat} : ∀ xs h, fn M k 4 xs h ≠ .no → xs.length = 2 := by
  intro xs h e
  cases k with
  | zero => exact absurd rfl e
  | succ k => exact runF_len e
theorem fn_len_5 {M k : Nat} : ∀ xs h, fn M k 5 xs h ≠ .no → xs.length = 3 := by
  intro xs h e
  cases k with
  | zero => exact absurd rfl e
  | succ k => exact runF_len e
theorem fn_len_6 {M k : Nat} : ∀ xs h, fn M k 6 xs h ≠ .no → xs.length = 1 := by
  intro xs h e
  cases k with
  | zero => exact absurd rfl e
  | succ k => exact runF_len e
theorem fn_len_7 {M k : Nat} : ∀ xs h, fn M k 7 xs h ≠ .no → xs.length = 2 := by
  intro xs h e
  cases k with
  | zero => exact absurd rfl e
  | succ k => exact runF_len e
theorem fn_len_8 {M k : Nat} : ∀ xs h, fn M k 8 xs h ≠ .no → xs.length = 3 := by
  intro xs h e
  cases k with
  | zero => exact absurd rfl e
  | succ k => exact runF_len e
theorem fn_len_9 {M k : Nat} : ∀ xs h, fn M k 9 xs h ≠ .no → xs.length = 6 := by
  intro xs h e
  cases k with
  | zero => exact absurd rfl e
  | succ k => exact runF_len e
theorem fn_len_10 {M k : Nat} : ∀ xs h, fn M k 10 xs h ≠ .no → xs.length = 5 := by
  intro xs h e
  cases k with
  | zero => exact absurd rfl e
  | succ k => exact runF_len e
theorem fn_len_11 {M k : Nat} : ∀ xs h, fn M k 11 xs h ≠ .no → xs.length = 2 := by
  intro xs h e
  cases k with
  | zero => exact absurd rfl e
  | succ k => exact runF_len e
theorem fn_len_12 {M k : Nat} : ∀ xs h, fn M k 12 xs h ≠ .no → xs.length = 1 := by
  intro xs h e
  cases k with
  | zero => exact absurd rfl e
  | succ k => exact runF_len e
theorem fn_len_13 {M k : Nat} : ∀ xs h, fn M k 13 xs h ≠ .no → xs.length = 1 := by
  intro xs h e
  cases k with
  | zero => exact absurd rfl e
  | succ k => exact runF_len e
theorem fn_len_14 {M k : Nat} : ∀ xs h, fn M k 14 xs h ≠ .no → xs.length = 2 := by
  intro xs h e
  cases k with
  | zero => exact absurd rfl e
  | succ k => exact runF_len e
theorem fn_len_15 {M k : Nat} : ∀ xs h, fn M k 15 xs h ≠ .no → xs.length = 3 := by
  intro xs h e
  cases k with
  | zero => exact absurd rfl e
  | succ k => exact runF_len e
theorem fn_len_16 {M k : Nat} : ∀ xs h, fn M k 16 xs h ≠ .no → xs.length = 3 := by
  intro xs h e
  cases k with
  | zero => exact absurd rfl e
  | succ k => exact runF_len e
theorem fn_len_17 {M k : Nat} : ∀ xs h, fn M k 17 xs h ≠ .no → xs.length = 3 := by
  intro xs h e
  cases k with
  | zero => exact absurd rfl e
  | succ k => exact runF_len e
theorem fn_len_18 {M k : Nat} : ∀ xs h, fn M k 18 xs h ≠ .no → xs.length = 5 := by
  intro xs h e
  cases k with
  | zero => exact absurd rfl e
  | succ k => exact runF_len e
theorem fn_len_19 {M k : Nat} : ∀ xs h, fn M k 19 xs h ≠ .no → xs.length = 4 := by
  intro xs h e
  cases k with
  | zero => exact absurd rfl e
  | succ k => exact runF_len e
theorem fn_len_20 {M k : Nat} : ∀ xs h, fn M k 20 xs h ≠ .no → xs.length = 4 := by
  intro xs h e
  cases k with
  | zero => exact absurd rfl e
  | succ k => exact runF_len e
theorem fn_len_21 {M k : Nat} : ∀ xs h, fn M k 21 xs h ≠ .no → xs.length = 1 := by
  intro xs h e
  cases k with
  | zero => exact absurd rfl e
  | succ k => exact runF_len e
theorem fn_len_22 {M k : Nat} : ∀ xs h, fn M k 22 xs h ≠ .no → xs.length = 2 := by
  intro xs h e
  cases k with
  | zero => exact absurd rfl e
  | succ k => exact runF_len e
theorem fn_len_23 {M k : Nat} : ∀ xs h, fn M k 23 xs h ≠ .no → xs.length = 1 := by
  intro xs h e
  cases k with
  | zero => exact absurd rfl e
  | succ k => exact runF_len e
theorem fn_len_24 {M k : Nat} : ∀ xs h, fn M k 24 xs h ≠ .no → xs.length = 2 := by
  intro xs h e
  cases k with
  | zero => exact absurd rfl e
  | succ k => exact runF_len e
theorem fn_len_25 {M k : Nat} : ∀ xs h, fn M k 25 xs h ≠ .no → xs.length = 1 := by
  intro xs h e
  cases k with
  | zero => exact absurd rfl e
  | succ k => exact runF_len e
abbrev N_0 : List Str := ["formula", "parts", "part"]
theorem sc_0 : FnScope N_0 ["formula"] (defScope (top 6)) := ⟨rfl, rfl, rfl, by decide +kernel, rfl, by decide +kernel, by decide +kernel⟩
abbrev N_1 : List Str := ["word", "part"]
theorem sc_1 : FnScope N_1 ["word", "part"] (defScope (top 7)) := ⟨rfl, rfl, rfl, by decide +kernel, rfl, by decide +kernel, by decide +kernel⟩
abbrev N_2 : List Str := ["word", "left", "right"]
theorem sc_2 : FnScope N_2 ["word", "left", "right"] (defScope (top 8)) := ⟨rfl, rfl, rfl, by decide +kernel, rfl, by decide +kernel, by decide +kernel⟩
abbrev N_3 : List Str := ["rest", "part"]
theorem sc_3 : FnScope N_3 ["rest", "part"] (defScope (top 9)) := ⟨rfl, rfl, rfl, by decide +kernel, rfl, by decide +kernel, by decide +kernel⟩
abbrev N_4 : List Str := ["script", "k"]
theorem sc_4 : FnScope N_4 ["script", "k"] (defScope (top 11)) := ⟨rfl, rfl, rfl, by decide +kernel, rfl, by decide +kernel, by decide +kernel⟩
abbrev N_5 : List Str := ["script", "first", "count", "cell", "rest", "draws", "k", "other", "mixed"]
theorem sc_5 : FnScope N_5 ["script", "first", "count"] (defScope (top 12)) := ⟨rfl, rfl, rfl, by decide +kernel, rfl, by decide +kernel, by decide +kernel⟩
abbrev N_6 : List Str := ["cell"]
theorem sc_6 : FnScope N_6 ["cell"] (defScope (top 13)) := ⟨rfl, rfl, rfl, by decide +kernel, rfl, by decide +kernel, by decide +kernel⟩
abbrev N_7 : List Str := ["cell", "many", "letter", "style", "names", "k"]
theorem sc_7 : FnScope N_7 ["cell", "many"] (defScope (top 14)) := ⟨rfl, rfl, rfl, by decide +kernel, rfl, by decide +kernel, by decide +kernel⟩
abbrev N_8 : List Str := ["draw", "names", "great", "name", "other", "small", "count", "terms"]
theorem sc_8 : FnScope N_8 ["draw", "names", "great"] (defScope (top 15)) := ⟨rfl, rfl, rfl, by decide +kernel, rfl, by decide +kernel, by decide +kernel⟩
abbrev N_9 : List Str := ["one", "two", "names", "great", "few", "plain", "word"]
theorem sc_9 : FnScope N_9 ["one", "two", "names", "great", "few", "plain"] (defScope (top 16)) := ⟨rfl, rfl, rfl, by decide +kernel, rfl, by decide +kernel, by decide +kernel⟩
abbrev N_10 : List Str := ["draws", "names", "great", "few", "plain", "unary", "binary", "stack", "k", "choice", "second", "first"]
theorem sc_10 : FnScope N_10 ["draws", "names", "great", "few", "plain"] (defScope (top 17)) := ⟨rfl, rfl, rfl, by decide +kernel, rfl, by decide +kernel, by decide +kernel⟩
abbrev N_11 : List Str := ["actual", "expected", "k"]
theorem sc_11 : FnScope N_11 ["actual", "expected"] (defScope (top 18)) := ⟨rfl, rfl, rfl, by decide +kernel, rfl, by decide +kernel, by decide +kernel⟩
abbrev N_12 : List Str := ["tree", "total", "part"]
theorem sc_12 : FnScope N_12 ["tree"] (defScope (top 19)) := ⟨rfl, rfl, rfl, by decide +kernel, rfl, by decide +kernel, by decide +kernel⟩
abbrev N_13 : List Str := ["tree", "found", "part"]
theorem sc_13 : FnScope N_13 ["tree"] (defScope (top 20)) := ⟨rfl, rfl, rfl, by decide +kernel, rfl, by decide +kernel, by decide +kernel⟩
abbrev N_14 : List Str := ["tree", "allowed", "parts", "part", "comparison"]
theorem sc_14 : FnScope N_14 ["tree", "allowed"] (defScope (top 21)) := ⟨rfl, rfl, rfl, by decide +kernel, rfl, by decide +kernel, by decide +kernel⟩
abbrev N_15 : List Str := ["term", "names", "state", "first", "second"]
theorem sc_15 : FnScope N_15 ["term", "names", "state"] (defScope (top 22)) := ⟨rfl, rfl, rfl, by decide +kernel, rfl, by decide +kernel, by decide +kernel⟩
abbrev N_16 : List Str := ["comparison", "names", "state", "first", "second"]
theorem sc_16 : FnScope N_16 ["comparison", "names", "state"] (defScope (top 23)) := ⟨rfl, rfl, rfl, by decide +kernel, rfl, by decide +kernel, by decide +kernel⟩
abbrev N_17 : List Str := ["place", "back", "many"]
theorem sc_17 : FnScope N_17 ["place", "back", "many"] (defScope (top 24)) := ⟨rfl, rfl, rfl, by decide +kernel, rfl, by decide +kernel, by decide +kernel⟩
abbrev N_18 : List Str := ["place", "back", "first", "second", "end", "step"]
theorem sc_18 : FnScope N_18 ["place", "back", "first", "second", "end"] (defScope (top 25)) := ⟨rfl, rfl, rfl, by decide +kernel, rfl, by decide +kernel, by decide +kernel⟩
abbrev N_19 : List Str := ["word", "first", "second", "back", "many", "no_first", "no_second", "both", "bit", "k"]
theorem sc_19 : FnScope N_19 ["word", "first", "second", "back"] (defScope (top 26)) := ⟨rfl, rfl, rfl, by decide +kernel, rfl, by decide +kernel, by decide +kernel⟩
abbrev N_20 : List Str := ["tree", "names", "run", "back", "word", "many", "first", "second", "state", "bit", "k"]
theorem sc_20 : FnScope N_20 ["tree", "names", "run", "back"] (defScope (top 27)) := ⟨rfl, rfl, rfl, by decide +kernel, rfl, by decide +kernel, by decide +kernel⟩
abbrev N_21 : List Str := ["tree", "deepest", "part"]
theorem sc_21 : FnScope N_21 ["tree"] (defScope (top 28)) := ⟨rfl, rfl, rfl, by decide +kernel, rfl, by decide +kernel, by decide +kernel⟩
abbrev N_22 : List Str := ["tree", "waits", "part"]
theorem sc_22 : FnScope N_22 ["tree", "waits"] (defScope (top 29)) := ⟨rfl, rfl, rfl, by decide +kernel, rfl, by decide +kernel, by decide +kernel⟩
abbrev N_23 : List Str := ["tree", "total", "part"]
theorem sc_23 : FnScope N_23 ["tree"] (defScope (top 30)) := ⟨rfl, rfl, rfl, by decide +kernel, rfl, by decide +kernel, by decide +kernel⟩
abbrev N_24 : List Str := ["answer", "formula"]
theorem sc_24 : FnScope N_24 ["answer", "formula"] (defScope (top 31)) := ⟨rfl, rfl, rfl, by decide +kernel, rfl, by decide +kernel, by decide +kernel⟩
abbrev N_25 : List Str := ["script", "names", "great", "choice", "draws", "formula", "answer", "again", "due"]
theorem sc_25 : FnScope N_25 ["script"] (defScope (top 32)) := ⟨rfl, rfl, rfl, by decide +kernel, rfl, by decide +kernel, by decide +kernel⟩
structure Txt (K : PySem.W.Frag) (w : World) (mg : Str → Option Value) (ad : Nat → Addr) (fd : Nat → FuncData) : Prop where
  F0 : Fun K "shrink" "shrink" (top 6) (ad 0) (fd 0)
  m0 : mg "shrink" = some (.ref (ad 0))
  b0 : Binds K (fd 0) ["formula"] []
  F1 : Fun K "shrunk_one" "shrunk_one" (top 7) (ad 1) (fd 1)
  m1 : mg "shrunk_one" = some (.ref (ad 1))
  b1 : Binds K (fd 1) ["word", "part"] []
  F2 : Fun K "shrunk_two" "shrunk_two" (top 8) (ad 2) (fd 2)
  m2 : mg "shrunk_two" = some (.ref (ad 2))
  b2 : Binds K (fd 2) ["word", "left", "right"] []
  F3 : Fun K "shrunk_rest" "shrunk_rest" (top 9) (ad 3) (fd 3)
  m3 : mg "shrunk_rest" = some (.ref (ad 3))
  b3 : Binds K (fd 3) ["rest", "part"] []
  F4 : Fun K "_law_cell" "_law_cell" (top 11) (ad 4) (fd 4)
  m4 : mg "_law_cell" = some (.ref (ad 4))
  b4 : Binds K (fd 4) ["script", "k"] []
  F5 : Fun K "_law_draws" "_law_draws" (top 12) (ad 5) (fd 5)
  m5 : mg "_law_draws" = some (.ref (ad 5))
  b5 : Binds K (fd 5) ["script", "first", "count"] []
  F6 : Fun K "_law_many" "_law_many" (top 13) (ad 6) (fd 6)
  m6 : mg "_law_many" = some (.ref (ad 6))
  b6 : Binds K (fd 6) ["cell"] []
  F7 : Fun K "_law_names" "_law_names" (top 14) (ad 7) (fd 7)
  m7 : mg "_law_names" = some (.ref (ad 7))
  b7 : Binds K (fd 7) ["cell", "many"] []
  F8 : Fun K "_law_term" "_law_term" (top 15) (ad 8) (fd 8)
  m8 : mg "_law_term" = some (.ref (ad 8))
  b8 : Binds K (fd 8) ["draw", "names", "great"] []
  F9 : Fun K "_law_leaf" "_law_leaf" (top 16) (ad 9) (fd 9)
  m9 : mg "_law_leaf" = some (.ref (ad 9))
  b9 : Binds K (fd 9) ["one", "two", "names", "great", "few", "plain"] []
  F10 : Fun K "_law_formula" "_law_formula" (top 17) (ad 10) (fd 10)
  m10 : mg "_law_formula" = some (.ref (ad 10))
  b10 : Binds K (fd 10) ["draws", "names", "great", "few", "plain"] []
  F11 : Fun K "_law_same" "_law_same" (top 18) (ad 11) (fd 11)
  m11 : mg "_law_same" = some (.ref (ad 11))
  b11 : Binds K (fd 11) ["actual", "expected"] []
  F12 : Fun K "_law_size" "_law_size" (top 19) (ad 12) (fd 12)
  m12 : mg "_law_size" = some (.ref (ad 12))
  b12 : Binds K (fd 12) ["tree"] []
  F13 : Fun K "_law_found" "_law_found" (top 20) (ad 13) (fd 13)
  m13 : mg "_law_found" = some (.ref (ad 13))
  b13 : Binds K (fd 13) ["tree"] []
  F14 : Fun K "_law_good" "_law_good" (top 21) (ad 14) (fd 14)
  m14 : mg "_law_good" = some (.ref (ad 14))
  b14 : Binds K (fd 14) ["tree", "allowed"] []
  F15 : Fun K "_law_value" "_law_value" (top 22) (ad 15) (fd 15)
  m15 : mg "_law_value" = some (.ref (ad 15))
  b15 : Binds K (fd 15) ["term", "names", "state"] []
  F16 : Fun K "_law_holds" "_law_holds" (top 23) (ad 16) (fd 16)
  m16 : mg "_law_holds" = some (.ref (ad 16))
  b16 : Binds K (fd 16) ["comparison", "names", "state"] []
  F17 : Fun K "_law_after" "_law_after" (top 24) (ad 17) (fd 17)
  m17 : mg "_law_after" = some (.ref (ad 17))
  b17 : Binds K (fd 17) ["place", "back", "many"] []
  F18 : Fun K "_law_walk" "_law_walk" (top 25) (ad 18) (fd 18)
  m18 : mg "_law_walk" = some (.ref (ad 18))
  b18 : Binds K (fd 18) ["place", "back", "first", "second", "end"] []
  F19 : Fun K "_law_temporal" "_law_temporal" (top 26) (ad 19) (fd 19)
  m19 : mg "_law_temporal" = some (.ref (ad 19))
  b19 : Binds K (fd 19) ["word", "first", "second", "back"] []
  F20 : Fun K "_law_along" "_law_along" (top 27) (ad 20) (fd 20)
  m20 : mg "_law_along" = some (.ref (ad 20))
  b20 : Binds K (fd 20) ["tree", "names", "run", "back"] []
  F21 : Fun K "_law_depth" "_law_depth" (top 28) (ad 21) (fd 21)
  m21 : mg "_law_depth" = some (.ref (ad 21))
  b21 : Binds K (fd 21) ["tree"] []
  F22 : Fun K "_law_waits" "_law_waits" (top 29) (ad 22) (fd 22)
  m22 : mg "_law_waits" = some (.ref (ad 22))
  b22 : Binds K (fd 22) ["tree", "waits"] []
  F23 : Fun K "_law_constants" "_law_constants" (top 30) (ad 23) (fd 23)
  m23 : mg "_law_constants" = some (.ref (ad 23))
  b23 : Binds K (fd 23) ["tree"] []
  F24 : Fun K "_law_shrunk" "_law_shrunk" (top 31) (ad 24) (fd 24)
  m24 : mg "_law_shrunk" = some (.ref (ad 24))
  b24 : Binds K (fd 24) ["answer", "formula"] []
  F25 : Fun K "law" "law" (top 32) (ad 25) (fd 25)
  m25 : mg "law" = some (.ref (ad 25))
  b25 : Binds K (fd 25) ["script"] []
  z_bool : mg "bool" = none
  z_int : mg "int" = none
  z_isinstance : mg "isinstance" = none
  z_len : mg "len" = none
  z_list : mg "list" = none
  z_max : mg "max" = none
  z_min : mg "min" = none
  z_range : mg "range" = none
  z_str : mg "str" = none
  z_tuple : mg "tuple" = none
  k_COMPARISONS : KTup K mg "COMPARISONS" k_COMPARISONS
  k_LEFT_TRUE : KDc K w mg "LEFT_TRUE" k_LEFT_TRUE
  k_LEFT_FALSE : KDc K w mg "LEFT_FALSE" k_LEFT_FALSE
  k_RIGHT_TRUE : KDc K w mg "RIGHT_TRUE" k_RIGHT_TRUE
  k_RIGHT_FALSE : KDc K w mg "RIGHT_FALSE" k_RIGHT_FALSE
structure All (G : Cw) (M : Nat) (P : Program) (w : World) (mg : Str → Option Value) (base : Heap) (ad : Nat → Addr) (fd : Nat → FuncData) (k : Nat) : Prop where
  f0 : FnOk P w G.K mg base (L2.CX P w) k (ad 0) (fd 0) ["formula"] (spF G 1 (fn M k 0))
  f1 : FnOk P w G.K mg base (L2.CX P w) k (ad 1) (fd 1) ["word", "part"] (spF G 2 (fn M k 1))
  f2 : FnOk P w G.K mg base (L2.CX P w) k (ad 2) (fd 2) ["word", "left", "right"] (spF G 3 (fn M k 2))
  f3 : FnOk P w G.K mg base (L2.CX P w) k (ad 3) (fd 3) ["rest", "part"] (spF G 2 (fn M k 3))
  f4 : FnOk P w G.K mg base (L2.CX P w) k (ad 4) (fd 4) ["script", "k"] (spF G 2 (fn M k 4))
  f5 : FnOk P w G.K mg base (L2.CX P w) k (ad 5) (fd 5) ["script", "first", "count"] (spF G 3 (fn M k 5))
  f6 : FnOk P w G.K mg base (L2.CX P w) k (ad 6) (fd 6) ["cell"] (spF G 1 (fn M k 6))
  f7 : FnOk P w G.K mg base (L2.CX P w) k (ad 7) (fd 7) ["cell", "many"] (spF G 2 (fn M k 7))
  f8 : FnOk P w G.K mg base (L2.CX P w) k (ad 8) (fd 8) ["draw", "names", "great"] (spF G 3 (fn M k 8))
  f9 : FnOk P w G.K mg base (L2.CX P w) k (ad 9) (fd 9) ["one", "two", "names", "great", "few", "plain"] (spF G 6 (fn M k 9))
  f10 : FnOk P w G.K mg base (L2.CX P w) k (ad 10) (fd 10) ["draws", "names", "great", "few", "plain"] (spF G 5 (fn M k 10))
  f11 : FnOk P w G.K mg base (L2.CX P w) k (ad 11) (fd 11) ["actual", "expected"] (spF G 2 (fn M k 11))
  f12 : FnOk P w G.K mg base (L2.CX P w) k (ad 12) (fd 12) ["tree"] (spF G 1 (fn M k 12))
  f13 : FnOk P w G.K mg base (L2.CX P w) k (ad 13) (fd 13) ["tree"] (spF G 1 (fn M k 13))
  f14 : FnOk P w G.K mg base (L2.CX P w) k (ad 14) (fd 14) ["tree", "allowed"] (spF G 2 (fn M k 14))
  f15 : FnOk P w G.K mg base (L2.CX P w) k (ad 15) (fd 15) ["term", "names", "state"] (spF G 3 (fn M k 15))
  f16 : FnOk P w G.K mg base (L2.CX P w) k (ad 16) (fd 16) ["comparison", "names", "state"] (spF G 3 (fn M k 16))
  f17 : FnOk P w G.K mg base (L2.CX P w) k (ad 17) (fd 17) ["place", "back", "many"] (spF G 3 (fn M k 17))
  f18 : FnOk P w G.K mg base (L2.CX P w) k (ad 18) (fd 18) ["place", "back", "first", "second", "end"] (spF G 5 (fn M k 18))
  f19 : FnOk P w G.K mg base (L2.CX P w) k (ad 19) (fd 19) ["word", "first", "second", "back"] (spF G 4 (fn M k 19))
  f20 : FnOk P w G.K mg base (L2.CX P w) k (ad 20) (fd 20) ["tree", "names", "run", "back"] (spF G 4 (fn M k 20))
  f21 : FnOk P w G.K mg base (L2.CX P w) k (ad 21) (fd 21) ["tree"] (spF G 1 (fn M k 21))
  f22 : FnOk P w G.K mg base (L2.CX P w) k (ad 22) (fd 22) ["tree", "waits"] (spF G 2 (fn M k 22))
  f23 : FnOk P w G.K mg base (L2.CX P w) k (ad 23) (fd 23) ["tree"] (spF G 1 (fn M k 23))
  f24 : FnOk P w G.K mg base (L2.CX P w) k (ad 24) (fd 24) ["answer", "formula"] (spF G 2 (fn M k 24))
  f25 : FnOk P w G.K mg base (L2.CX P w) k (ad 25) (fd 25) ["script"] (spF G 1 (fn M k 25))
section
variable {G : Cw} {M : Nat} {P : Program} {w : World} {mg : Str → Option Value} {base : Heap} {ad : Nat → Addr} {fd : Nat → FuncData} {k : Nat}
theorem d_0 (T : Txt G.K w mg ad fd) (IH : All G M P w mg base ad fd k) : FnOk P w G.K mg base (L2.CX P w) (k + 1) (ad 0) (fd 0) ["formula"] (spF G 1 (fn M (k + 1) 0)) := by
  refine fn_okF (N := N_0) (m := b_0 (fn M k) M) T.F0 sc_0 fun cdv A outer s H E hr => ?_
  have tk : Takes (cxOf (L2.CX P w) P w G.K mg base N_0 "shrink" (defScope (top 6)) (ad 0) cdv A outer s H E) (fun c d _ H => E c d H) := takes_of rfl rfl rfl rfl
  exact (sm_cons (sm_if (tm_cmp op_inA s_in (pm_ix ix_seq s_ix (pm_var 0 (pv 0)) pm_int) (pm_ktup (by rfl) T.k_COMPARISONS rfl))
      (sm_one (sm_ret (pm_var 0 (pv 0))))
      sm_nil)
      (sm_cons (sm_setLc (j := 2) (vs := [2]) (by decide) (ps_setLc (i := 1) (own := [("part", 2)]) (g := gName 2) rfl sc_0.nd rfl rfl (sw_true rfl rfl rfl (by decide +kernel)) (im_seq rfl (pm_slice sl_any s_sl (pm_var 0 (pv 0)) (om_some pm_int) om_none)) (blkOk_by (N := N_0) (sc := defScope (top 6)) (by decide +kernel)) (fun _ _ _ _ _ => pg_name (i := 2) sc_0.nd rfl (Or.inl rfl)) (fun _ _ _ _ _ => tms_nil) (fun _ _ _ _ _ => (pm_call fn_len_0 (pe_callS IH.f0 hr rfl T.m0 T.F0.kp T.b0 (fun σ => passAt takes0 σ) (am_cons (pm_var 2 (pv 2)) am_nil))))))
      (sm_cons (sm_if (tm_cmp op_eq s_eq (pm_cb s_len (pe_callB call_lenA (by rfl) T.z_len PySem.boot_len (am_cons (pm_var 1 (pv 1)) am_nil))) pm_int (nomark _))
      (sm_one (sm_ret (pm_call fn_len_1 (pe_callS IH.f1 hr rfl T.m1 T.F1.kp T.b1 (fun σ => passAt tk σ) (am_cons (pm_ix ix_seq s_ix (pm_var 0 (pv 0)) pm_int) (am_cons (pm_ix ix_seq s_ix (pm_var 1 (pv 1)) pm_int) am_nil))))))
      sm_nil)
      (sm_cons (sm_if (tm_cmp op_eq s_eq (pm_cb s_len (pe_callB call_lenA (by rfl) T.z_len PySem.boot_len (am_cons (pm_var 1 (pv 1)) am_nil))) pm_int (nomark _))
      (sm_one (sm_ret (pm_call fn_len_2 (pe_callS IH.f2 hr rfl T.m2 T.F2.kp T.b2 (fun σ => passAt tk σ) (am_cons (pm_ix ix_seq s_ix (pm_var 0 (pv 0)) pm_int) (am_cons (pm_ix ix_seq s_ix (pm_var 1 (pv 1)) pm_int) (am_cons (pm_ix ix_seq s_ix (pm_var 1 (pv 1)) pm_int) am_nil)))))))
      sm_nil)
      (sm_one (sm_ret (pm_var 0 (pv 0))))))))
theorem d_1 (T : Txt G.K w mg ad fd) (IH : All G M P w mg base ad fd k) : FnOk P w G.K mg base (L2.CX P w) (k + 1) (ad 1) (fd 1) ["word", "part"] (spF G 2 (fn M (k + 1) 1)) := by
  refine fn_okF (N := N_1) (m := b_1 (fn M k) M) T.F1 sc_1 fun cdv A outer s H E hr => ?_
  have tk : Takes (cxOf (L2.CX P w) P w G.K mg base N_1 "shrunk_one" (defScope (top 7)) (ad 1) cdv A outer s H E) (fun c d _ H => E c d H) := takes_of rfl rfl rfl rfl
  exact (sm_cons (sm_if (tm_cmp op_ninA s_in (pm_ix ix_seq s_ix (pm_var 1 (pv 1)) pm_int) (pm_tup (am_cons pm_str (am_cons pm_str am_nil))))
      (sm_one (sm_ret (pm_tup (am_cons (pm_var 0 (pv 0)) (am_cons (pm_var 1 (pv 1)) am_nil)))))
      sm_nil)
      (sm_cons (sm_if (tm_cmp op_ne s_ne (pm_var 0 (pv 0)) pm_str (nomark _))
      (sm_one (sm_ret (pm_var 1 (pv 1))))
      sm_nil)
      (sm_one (sm_ret (pm_if (tm_cmp op_eq s_eq (pm_ix ix_seq s_ix (pm_var 1 (pv 1)) pm_int) pm_str (nomark _)) (pm_tup (am_cons pm_str am_nil)) (pm_tup (am_cons pm_str am_nil)))))))
theorem d_2 (T : Txt G.K w mg ad fd) (IH : All G M P w mg base ad fd k) : FnOk P w G.K mg base (L2.CX P w) (k + 1) (ad 2) (fd 2) ["word", "left", "right"] (spF G 3 (fn M (k + 1) 2)) := by
  refine fn_okF (N := N_2) (m := b_2 (fn M k) M) T.F2 sc_2 fun cdv A outer s H E hr => ?_
  have tk : Takes (cxOf (L2.CX P w) P w G.K mg base N_2 "shrunk_two" (defScope (top 8)) (ad 2) cdv A outer s H E) (fun c d _ H => E c d H) := takes_of rfl rfl rfl rfl
  exact (sm_cons (sm_if (tm_cmp op_eq s_eq (pm_ix ix_seq s_ix (pm_var 1 (pv 1)) pm_int) pm_str (nomark _))
      (sm_one (sm_ret (pm_call fn_len_3 (pe_callS IH.f3 hr rfl T.m3 T.F3.kp T.b3 (fun σ => passAt tk σ) (am_cons (pm_kd (by rfl) T.k_LEFT_TRUE rfl (pm_var 0 (pv 0))) (am_cons (pm_var 2 (pv 2)) am_nil))))))
      sm_nil)
      (sm_cons (sm_if (tm_cmp op_eq s_eq (pm_ix ix_seq s_ix (pm_var 1 (pv 1)) pm_int) pm_str (nomark _))
      (sm_one (sm_ret (pm_call fn_len_3 (pe_callS IH.f3 hr rfl T.m3 T.F3.kp T.b3 (fun σ => passAt tk σ) (am_cons (pm_kd (by rfl) T.k_LEFT_FALSE rfl (pm_var 0 (pv 0))) (am_cons (pm_var 2 (pv 2)) am_nil))))))
      sm_nil)
      (sm_cons (sm_if (tm_cmp op_eq s_eq (pm_ix ix_seq s_ix (pm_var 2 (pv 2)) pm_int) pm_str (nomark _))
      (sm_one (sm_ret (pm_call fn_len_3 (pe_callS IH.f3 hr rfl T.m3 T.F3.kp T.b3 (fun σ => passAt tk σ) (am_cons (pm_kd (by rfl) T.k_RIGHT_TRUE rfl (pm_var 0 (pv 0))) (am_cons (pm_var 1 (pv 1)) am_nil))))))
      sm_nil)
      (sm_cons (sm_if (tm_cmp op_eq s_eq (pm_ix ix_seq s_ix (pm_var 2 (pv 2)) pm_int) pm_str (nomark _))
      (sm_one (sm_ret (pm_call fn_len_3 (pe_callS IH.f3 hr rfl T.m3 T.F3.kp T.b3 (fun σ => passAt tk σ) (am_cons (pm_kd (by rfl) T.k_RIGHT_FALSE rfl (pm_var 0 (pv 0))) (am_cons (pm_var 1 (pv 1)) am_nil))))))
      sm_nil)
      (sm_one (sm_ret (pm_tup (am_cons (pm_var 0 (pv 0)) (am_cons (pm_var 1 (pv 1)) (am_cons (pm_var 2 (pv 2)) am_nil))))))))))
theorem d_3 (T : Txt G.K w mg ad fd) (IH : All G M P w mg base ad fd k) : FnOk P w G.K mg base (L2.CX P w) (k + 1) (ad 3) (fd 3) ["rest", "part"] (spF G 2 (fn M (k + 1) 3)) := by
  refine fn_okF (N := N_3) (m := b_3 (fn M k) M) T.F3 sc_3 fun cdv A outer s H E hr => ?_
  have tk : Takes (cxOf (L2.CX P w) P w G.K mg base N_3 "shrunk_rest" (defScope (top 9)) (ad 3) cdv A outer s H E) (fun c d _ H => E c d H) := takes_of rfl rfl rfl rfl
  exact (sm_cons (sm_if (tm_cmp op_eq s_eq (pm_var 0 (pv 0)) pm_str (nomark _))
      (sm_one (sm_ret (pm_var 1 (pv 1))))
      sm_nil)
      (sm_cons (sm_if (tm_cmp op_inA s_in (pm_var 0 (pv 0)) (pm_tup (am_cons pm_str (am_cons pm_str am_nil))))
      (sm_one (sm_ret (pm_tup (am_cons (pm_var 0 (pv 0)) am_nil))))
      sm_nil)
      (sm_one (sm_ret (pm_call fn_len_1 (pe_callS IH.f1 hr rfl T.m1 T.F1.kp T.b1 (fun σ => passAt tk σ) (am_cons (pm_var 0 (pv 0)) (am_cons (pm_var 1 (pv 1)) am_nil))))))))
theorem d_4 (T : Txt G.K w mg ad fd) (IH : All G M P w mg base ad fd k) : FnOk P w G.K mg base (L2.CX P w) (k + 1) (ad 4) (fd 4) ["script", "k"] (spF G 2 (fn M (k + 1) 4)) := by
  refine fn_okF (N := N_4) (m := b_4 (fn M k) M) T.F4 sc_4 fun cdv A outer s H E hr => ?_
  have tk : Takes (cxOf (L2.CX P w) P w G.K mg base N_4 "_law_cell" (defScope (top 11)) (ad 4) cdv A outer s H E) (fun c d _ H => E c d H) := takes_of rfl rfl rfl rfl
  exact (sm_cons (sm_if (tm_cmp op_lt s_lt (pm_var 1 (pv 1)) (pm_cb s_len (pe_callB call_lenA (by rfl) T.z_len PySem.boot_len (am_cons (pm_var 0 (pv 0)) am_nil))) (nomark _))
      (sm_one (sm_ret (pm_ix ix_seq s_ix (pm_var 0 (pv 0)) (pm_var 1 (pv 1)))))
      sm_nil)
      (sm_one (sm_ret pm_int)))
theorem d_5 (T : Txt G.K w mg ad fd) (IH : All G M P w mg base ad fd k) : FnOk P w G.K mg base (L2.CX P w) (k + 1) (ad 5) (fd 5) ["script", "first", "count"] (spF G 3 (fn M (k + 1) 5)) := by
  refine fn_okF (N := N_5) (m := b_5 (fn M k) M) T.F5 sc_5 fun cdv A outer s H E hr => ?_
  have tk : Takes (cxOf (L2.CX P w) P w G.K mg base N_5 "_law_draws" (defScope (top 12)) (ad 5) cdv A outer s H E) (fun c d _ H => E c d H) := takes_of rfl rfl rfl rfl
  exact (sm_cons (sm_set (pm_call fn_len_4 (pe_callS IH.f4 hr rfl T.m4 T.F4.kp T.b4 (fun σ => passAt tk σ) (am_cons (pm_var 0 (pv 0)) (am_cons (pm_var 1 (pv 1)) am_nil)))) (fun h => ps_set (i := 3) sc_5.nd rfl (Or.inl rfl) h))
      (sm_cons (sm_set pm_int (fun h => ps_set (i := 4) sc_5.nd rfl (Or.inl rfl) h))
      (sm_cons (sm_if (tm_cmp op_ge s_ge (pm_var 3 (pv 3)) (pm_op op_pow s_pow pm_int pm_int) (nomark _))
      (sm_one (sm_set (pm_op op_sub s_sub (pm_var 3 (pv 3)) (pm_op op_pow s_pow pm_int pm_int)) (fun h => ps_set (i := 4) sc_5.nd rfl (Or.inl rfl) h)))
      sm_nil)
      (sm_cons (sm_set (pm_lst am_nil) (fun h => ps_set (i := 5) sc_5.nd rfl (Or.inl rfl) h))
      (sm_cons (sm_for (ps_for (passes_of rfl) rfl (im_r1 (pi_range1 rfl T.z_range (am_cons (pm_var 2 (pv 2)) am_nil))) (gm_name (pg_name (i := 6) sc_5.nd rfl (Or.inl rfl)))
      (sm_one (sm_if (tm_cmp op_gt s_gt (pm_var 4 (pv 4)) pm_int (nomark _))
      (sm_cons (sm_expr (pm_mt s_app (pe_bm PySem.F.plainAttrs_list PySem.F.slot_list_append PySem.F.type_list_append mt_append (pm_var 5 (pv 5)) (am_cons (pm_op op_mod s_mod (pm_cb s_int1 (pe_callTy call_int1 (by rfl) T.z_int PyProof.Rows.boot_int (am_cons (pm_var 4 (pv 4)) am_nil))) pm_int) am_nil))))
      (sm_one (sm_set (pm_op op_fdiv s_fdiv (pm_var 4 (pv 4)) pm_int) (fun h => ps_set (i := 4) sc_5.nd rfl (Or.inl rfl) h))))
      (sm_cons (sm_set (pm_call fn_len_4 (pe_callS IH.f4 hr rfl T.m4 T.F4.kp T.b4 (fun σ => passAt tk σ) (am_cons (pm_var 0 (pv 0)) (am_cons (pm_op op_mod s_mod (pm_cb s_int1 (pe_callTy call_int1 (by rfl) T.z_int PyProof.Rows.boot_int (am_cons (pm_op op_plus s_plus (pm_op op_times s_times (pm_var 6 (pv 6)) pm_int) (pm_var 1 (pv 1))) am_nil))) pm_int) am_nil)))) (fun h => ps_set (i := 7) sc_5.nd rfl (Or.inl rfl) h))
      (sm_cons (sm_set (pm_op op_mod s_mod (pm_cb s_int1 (pe_callTy call_int1 (by rfl) T.z_int PyProof.Rows.boot_int (am_cons (pm_op op_plus s_plus (pm_op op_plus s_plus (pm_op op_times s_times (pm_var 3 (pv 3)) pm_int) (pm_op op_times s_times (pm_var 7 (pv 7)) pm_int)) (pm_op op_times s_times (pm_op op_plus s_plus (pm_var 6 (pv 6)) pm_int) pm_int)) am_nil))) pm_int) (fun h => ps_set (i := 8) sc_5.nd rfl (Or.inl rfl) h))
      (sm_one (sm_expr (pm_mt s_app (pe_bm PySem.F.plainAttrs_list PySem.F.slot_list_append PySem.F.type_list_append mt_append (pm_var 5 (pv 5)) (am_cons (pm_op op_mod s_mod (pm_op op_fdiv s_fdiv (pm_op op_mod s_mod (pm_cb s_int1 (pe_callTy call_int1 (by rfl) T.z_int PyProof.Rows.boot_int (am_cons (pm_op op_plus s_plus (pm_op op_times s_times (pm_var 8 (pv 8)) (pm_var 8 (pv 8))) (pm_op op_times s_times (pm_var 6 (pv 6)) pm_int)) am_nil))) pm_int) pm_int) pm_int) am_nil)))))))))))
      (sm_one (sm_ret (pm_var 5 (pv 5)))))))))
theorem d_6 (T : Txt G.K w mg ad fd) (IH : All G M P w mg base ad fd k) : FnOk P w G.K mg base (L2.CX P w) (k + 1) (ad 6) (fd 6) ["cell"] (spF G 1 (fn M (k + 1) 6)) := by
  refine fn_okF (N := N_6) (m := b_6 (fn M k) M) T.F6 sc_6 fun cdv A outer s H E hr => ?_
  have tk : Takes (cxOf (L2.CX P w) P w G.K mg base N_6 "_law_many" (defScope (top 13)) (ad 6) cdv A outer s H E) (fun c d _ H => E c d H) := takes_of rfl rfl rfl rfl
  exact (sm_cons (sm_if (tm_cmp op_eq s_eq (pm_op op_mod s_mod (pm_op op_fdiv s_fdiv (pm_cb s_int1 (pe_callTy call_int1 (by rfl) T.z_int PyProof.Rows.boot_int (am_cons (pm_var 0 (pv 0)) am_nil))) pm_int) pm_int) pm_int (nomark _))
      (sm_one (sm_ret (pm_op op_plus s_plus pm_int (pm_op op_mod s_mod (pm_op op_fdiv s_fdiv (pm_cb s_int1 (pe_callTy call_int1 (by rfl) T.z_int PyProof.Rows.boot_int (am_cons (pm_var 0 (pv 0)) am_nil))) pm_int) pm_int))))
      sm_nil)
      (sm_one (sm_ret (pm_op op_plus s_plus pm_int (pm_op op_mod s_mod (pm_cb s_int1 (pe_callTy call_int1 (by rfl) T.z_int PyProof.Rows.boot_int (am_cons (pm_var 0 (pv 0)) am_nil))) pm_int)))))
theorem d_7 (T : Txt G.K w mg ad fd) (IH : All G M P w mg base ad fd k) : FnOk P w G.K mg base (L2.CX P w) (k + 1) (ad 7) (fd 7) ["cell", "many"] (spF G 2 (fn M (k + 1) 7)) := by
  refine fn_okF (N := N_7) (m := b_7 (fn M k) M) T.F7 sc_7 fun cdv A outer s H E hr => ?_
  have tk : Takes (cxOf (L2.CX P w) P w G.K mg base N_7 "_law_names" (defScope (top 14)) (ad 7) cdv A outer s H E) (fun c d _ H => E c d H) := takes_of rfl rfl rfl rfl
  exact (sm_cons (sm_set (pm_ix ix_seq s_ix pm_str (pm_op op_mod s_mod (pm_cb s_int1 (pe_callTy call_int1 (by rfl) T.z_int PyProof.Rows.boot_int (am_cons (pm_var 0 (pv 0)) am_nil))) pm_int)) (fun h => ps_set (i := 2) sc_7.nd rfl (Or.inl rfl) h))
      (sm_cons (sm_set (pm_op op_mod s_mod (pm_op op_fdiv s_fdiv (pm_cb s_int1 (pe_callTy call_int1 (by rfl) T.z_int PyProof.Rows.boot_int (am_cons (pm_var 0 (pv 0)) am_nil))) pm_int) pm_int) (fun h => ps_set (i := 3) sc_7.nd rfl (Or.inl rfl) h))
      (sm_cons (sm_set (pm_lst am_nil) (fun h => ps_set (i := 4) sc_7.nd rfl (Or.inl rfl) h))
      (sm_cons (sm_for (ps_for (passes_of rfl) rfl (im_r1 (pi_range1 rfl T.z_range (am_cons (pm_var 1 (pv 1)) am_nil))) (gm_name (pg_name (i := 5) sc_7.nd rfl (Or.inl rfl)))
      (sm_one (sm_if (tm_cmp op_eq s_eq (pm_var 3 (pv 3)) pm_int (nomark _))
      (sm_one (sm_expr (pm_mt s_app (pe_bm PySem.F.plainAttrs_list PySem.F.slot_list_append PySem.F.type_list_append mt_append (pm_var 4 (pv 4)) (am_cons (pm_op op_plus s_plus (pm_var 2 (pv 2)) (pm_op op_times s_times pm_str (pm_var 5 (pv 5)))) am_nil)))))
      (sm_one (sm_if (tm_cmp op_eq s_eq (pm_var 3 (pv 3)) pm_int (nomark _))
      (sm_one (sm_expr (pm_mt s_app (pe_bm PySem.F.plainAttrs_list PySem.F.slot_list_append PySem.F.type_list_append mt_append (pm_var 4 (pv 4)) (am_cons (pm_op op_plus s_plus (pm_op op_plus s_plus (pm_var 2 (pv 2)) pm_str) (pm_ix ix_seq s_ix pm_str (pm_var 5 (pv 5)))) am_nil)))))
      (sm_one (sm_if (tm_cmp op_eq s_eq (pm_var 3 (pv 3)) pm_int (nomark _))
      (sm_one (sm_expr (pm_mt s_app (pe_bm PySem.F.plainAttrs_list PySem.F.slot_list_append PySem.F.type_list_append mt_append (pm_var 4 (pv 4)) (am_cons (pm_op op_plus s_plus (pm_op op_plus s_plus (pm_ix ix_seq s_ix pm_str (pm_var 5 (pv 5))) (pm_var 2 (pv 2))) pm_str) am_nil)))))
      (sm_one (sm_expr (pm_mt s_app (pe_bm PySem.F.plainAttrs_list PySem.F.slot_list_append PySem.F.type_list_append mt_append (pm_var 4 (pv 4)) (am_cons (pm_op op_plus s_plus (pm_op op_plus s_plus (pm_var 2 (pv 2)) pm_str) (pm_ix ix_seq s_ix pm_str (pm_var 5 (pv 5)))) am_nil)))))))))))))
      (sm_one (sm_ret (pm_var 4 (pv 4))))))))
theorem d_8 (T : Txt G.K w mg ad fd) (IH : All G M P w mg base ad fd k) : FnOk P w G.K mg base (L2.CX P w) (k + 1) (ad 8) (fd 8) ["draw", "names", "great"] (spF G 3 (fn M (k + 1) 8)) := by
  refine fn_okF (N := N_8) (m := b_8 (fn M k) M) T.F8 sc_8 fun cdv A outer s H E hr => ?_
  have tk : Takes (cxOf (L2.CX P w) P w G.K mg base N_8 "_law_term" (defScope (top 15)) (ad 8) cdv A outer s H E) (fun c d _ H => E c d H) := takes_of rfl rfl rfl rfl
  exact (sm_cons (sm_set (pm_tup (am_cons pm_str (am_cons (pm_ix ix_seq s_ix (pm_var 1 (pv 1)) (pm_op op_mod s_mod (pm_op op_fdiv s_fdiv (pm_cb s_int1 (pe_callTy call_int1 (by rfl) T.z_int PyProof.Rows.boot_int (am_cons (pm_var 0 (pv 0)) am_nil))) pm_int) (pm_cb s_len (pe_callB call_lenA (by rfl) T.z_len PySem.boot_len (am_cons (pm_var 1 (pv 1)) am_nil))))) am_nil))) (fun h => ps_set (i := 3) sc_8.nd rfl (Or.inl rfl) h))
      (sm_cons (sm_set (pm_tup (am_cons pm_str (am_cons (pm_ix ix_seq s_ix (pm_var 1 (pv 1)) (pm_op op_mod s_mod (pm_op op_fdiv s_fdiv (pm_cb s_int1 (pe_callTy call_int1 (by rfl) T.z_int PyProof.Rows.boot_int (am_cons (pm_var 0 (pv 0)) am_nil))) pm_int) (pm_cb s_len (pe_callB call_lenA (by rfl) T.z_len PySem.boot_len (am_cons (pm_var 1 (pv 1)) am_nil))))) am_nil))) (fun h => ps_set (i := 4) sc_8.nd rfl (Or.inl rfl) h))
      (sm_cons (sm_set (pm_tup (am_cons pm_str (am_cons (pm_op op_mod s_mod (pm_op op_fdiv s_fdiv (pm_cb s_int1 (pe_callTy call_int1 (by rfl) T.z_int PyProof.Rows.boot_int (am_cons (pm_var 0 (pv 0)) am_nil))) pm_int) pm_int) am_nil))) (fun h => ps_set (i := 5) sc_8.nd rfl (Or.inl rfl) h))
      (sm_cons (sm_set (pm_op op_plus s_plus pm_int (pm_op op_mod s_mod (pm_op op_fdiv s_fdiv (pm_cb s_int1 (pe_callTy call_int1 (by rfl) T.z_int PyProof.Rows.boot_int (am_cons (pm_var 0 (pv 0)) am_nil))) pm_int) pm_int)) (fun h => ps_set (i := 6) sc_8.nd rfl (Or.inl rfl) h))
      (sm_cons (sm_set (pm_lst (am_cons (pm_var 3 (pv 3)) (am_cons (pm_var 3 (pv 3)) (am_cons (pm_var 3 (pv 3)) (am_cons (pm_var 3 (pv 3)) (am_cons (pm_var 5 (pv 5)) (am_cons (pm_var 5 (pv 5)) (am_cons (pm_var 5 (pv 5)) (am_cons (pm_tup (am_cons pm_str (am_cons (pm_var 2 (pv 2)) am_nil))) (am_cons (pm_tup (am_cons pm_str (am_cons (pm_var 3 (pv 3)) (am_cons (pm_var 5 (pv 5)) am_nil)))) am_nil)))))))))) (fun h => ps_set (i := 7) sc_8.nd rfl (Or.inl rfl) h))
      (sm_cons (sm_set (pm_op op_plus s_plus (pm_var 7 (pv 7)) (pm_lst (am_cons (pm_tup (am_cons pm_str (am_cons (pm_var 3 (pv 3)) (am_cons (pm_var 4 (pv 4)) am_nil)))) (am_cons (pm_tup (am_cons pm_str (am_cons (pm_var 3 (pv 3)) (am_cons (pm_var 4 (pv 4)) am_nil)))) (am_cons (pm_tup (am_cons pm_str (am_cons (pm_var 3 (pv 3)) am_nil))) (am_cons (pm_tup (am_cons pm_str (am_cons (pm_var 3 (pv 3)) (am_cons (pm_var 6 (pv 6)) am_nil)))) am_nil)))))) (fun h => ps_set (i := 7) sc_8.nd rfl (Or.inl rfl) h))
      (sm_cons (sm_set (pm_op op_plus s_plus (pm_var 7 (pv 7)) (pm_lst (am_cons (pm_tup (am_cons pm_str (am_cons (pm_var 4 (pv 4)) (am_cons (pm_var 6 (pv 6)) am_nil)))) (am_cons (pm_tup (am_cons pm_str (am_cons (pm_var 3 (pv 3)) (am_cons (pm_var 5 (pv 5)) am_nil)))) (am_cons (pm_tup (am_cons pm_str (am_cons (pm_tup (am_cons pm_str (am_cons (pm_var 3 (pv 3)) am_nil))) (am_cons (pm_var 4 (pv 4)) am_nil)))) am_nil))))) (fun h => ps_set (i := 7) sc_8.nd rfl (Or.inl rfl) h))
      (sm_one (sm_ret (pm_ix ix_seq s_ix (pm_var 7 (pv 7)) (pm_op op_mod s_mod (pm_cb s_int1 (pe_callTy call_int1 (by rfl) T.z_int PyProof.Rows.boot_int (am_cons (pm_var 0 (pv 0)) am_nil))) pm_int)))))))))))
theorem d_9 (T : Txt G.K w mg ad fd) (IH : All G M P w mg base ad fd k) : FnOk P w G.K mg base (L2.CX P w) (k + 1) (ad 9) (fd 9) ["one", "two", "names", "great", "few", "plain"] (spF G 6 (fn M (k + 1) 9)) := by
  refine fn_okF (N := N_9) (m := b_9 (fn M k) M) T.F9 sc_9 fun cdv A outer s H E hr => ?_
  have tk : Takes (cxOf (L2.CX P w) P w G.K mg base N_9 "_law_leaf" (defScope (top 16)) (ad 9) cdv A outer s H E) (fun c d _ H => E c d H) := takes_of rfl rfl rfl rfl
  exact (sm_cons (sm_if (tm_cmp op_lt s_lt (pm_op op_mod s_mod (pm_cb s_int1 (pe_callTy call_int1 (by rfl) T.z_int PyProof.Rows.boot_int (am_cons (pm_var 0 (pv 0)) am_nil))) pm_int) (pm_var 5 (pv 5)) (nomark _))
      (sm_one (sm_ret (pm_ix ix_seq s_ix (pm_lst (am_cons (pm_tup (am_cons pm_str am_nil)) (am_cons (pm_tup (am_cons pm_str am_nil)) am_nil))) (pm_op op_mod s_mod (pm_cb s_int1 (pe_callTy call_int1 (by rfl) T.z_int PyProof.Rows.boot_int (am_cons (pm_var 1 (pv 1)) am_nil))) pm_int))))
      sm_nil)
      (sm_cons (sm_set (pm_ix ix_seq s_ix (pm_lst (am_cons pm_str (am_cons pm_str (am_cons pm_str am_nil)))) (pm_op op_mod s_mod (pm_op op_fdiv s_fdiv (pm_cb s_int1 (pe_callTy call_int1 (by rfl) T.z_int PyProof.Rows.boot_int (am_cons (pm_var 0 (pv 0)) am_nil))) pm_int) pm_int)) (fun h => ps_set (i := 6) sc_9.nd rfl (Or.inl rfl) h))
      (sm_cons (sm_if (tm_val (pm_var 4 (pv 4)))
      (sm_one (sm_ret (pm_tup (am_cons (pm_var 6 (pv 6)) (am_cons (pm_tup (am_cons pm_str (am_cons (pm_ix ix_seq s_ix (pm_var 2 (pv 2)) (pm_op op_mod s_mod (pm_op op_fdiv s_fdiv (pm_cb s_int1 (pe_callTy call_int1 (by rfl) T.z_int PyProof.Rows.boot_int (am_cons (pm_var 0 (pv 0)) am_nil))) pm_int) (pm_cb s_len (pe_callB call_lenA (by rfl) T.z_len PySem.boot_len (am_cons (pm_var 2 (pv 2)) am_nil))))) am_nil))) (am_cons (pm_tup (am_cons pm_str (am_cons (pm_op op_mod s_mod (pm_cb s_int1 (pe_callTy call_int1 (by rfl) T.z_int PyProof.Rows.boot_int (am_cons (pm_var 1 (pv 1)) am_nil))) pm_int) am_nil))) am_nil))))))
      sm_nil)
      (sm_one (sm_ret (pm_tup (am_cons (pm_var 6 (pv 6)) (am_cons (pm_call fn_len_8 (pe_callS IH.f8 hr rfl T.m8 T.F8.kp T.b8 (fun σ => passAt tk σ) (am_cons (pm_op op_plus s_plus (pm_op op_fdiv s_fdiv (pm_cb s_int1 (pe_callTy call_int1 (by rfl) T.z_int PyProof.Rows.boot_int (am_cons (pm_var 0 (pv 0)) am_nil))) pm_int) (pm_op op_times s_times (pm_op op_mod s_mod (pm_cb s_int1 (pe_callTy call_int1 (by rfl) T.z_int PyProof.Rows.boot_int (am_cons (pm_var 1 (pv 1)) am_nil))) pm_int) pm_int)) (am_cons (pm_var 2 (pv 2)) (am_cons (pm_var 3 (pv 3)) am_nil))))) (am_cons (pm_call fn_len_8 (pe_callS IH.f8 hr rfl T.m8 T.F8.kp T.b8 (fun σ => passAt tk σ) (am_cons (pm_var 1 (pv 1)) (am_cons (pm_var 2 (pv 2)) (am_cons (pm_var 3 (pv 3)) am_nil))))) am_nil)))))))))
theorem d_10 (T : Txt G.K w mg ad fd) (IH : All G M P w mg base ad fd k) : FnOk P w G.K mg base (L2.CX P w) (k + 1) (ad 10) (fd 10) ["draws", "names", "great", "few", "plain"] (spF G 5 (fn M (k + 1) 10)) := by
  refine fn_okF (N := N_10) (m := b_10 (fn M k) M) T.F10 sc_10 fun cdv A outer s H E hr => ?_
  have tk : Takes (cxOf (L2.CX P w) P w G.K mg base N_10 "_law_formula" (defScope (top 17)) (ad 10) cdv A outer s H E) (fun c d _ H => E c d H) := takes_of rfl rfl rfl rfl
  exact (sm_cons (sm_set (pm_lst (am_cons pm_str (am_cons pm_str (am_cons pm_str (am_cons pm_str (am_cons pm_str (am_cons pm_str am_nil))))))) (fun h => ps_set (i := 5) sc_10.nd rfl (Or.inl rfl) h))
      (sm_cons (sm_set (pm_lst (am_cons pm_str (am_cons pm_str (am_cons pm_str (am_cons pm_str (am_cons pm_str (am_cons pm_str (am_cons pm_str (am_cons pm_str am_nil))))))))) (fun h => ps_set (i := 6) sc_10.nd rfl (Or.inl rfl) h))
      (sm_cons (sm_set (pm_lst am_nil) (fun h => ps_set (i := 7) sc_10.nd rfl (Or.inl rfl) h))
      (sm_cons (sm_for (ps_for (passes_of rfl) rfl (im_r1 (pi_range1 rfl T.z_range (am_cons (pm_op op_fdiv s_fdiv (pm_cb s_len (pe_callB call_lenA (by rfl) T.z_len PySem.boot_len (am_cons (pm_var 0 (pv 0)) am_nil))) pm_int) am_nil))) (gm_name (pg_name (i := 8) sc_10.nd rfl (Or.inl rfl)))
      (sm_cons (sm_set (pm_op op_mod s_mod (pm_cb s_int1 (pe_callTy call_int1 (by rfl) T.z_int PyProof.Rows.boot_int (am_cons (pm_ix ix_seq s_ix (pm_var 0 (pv 0)) (pm_op op_times s_times pm_int (pm_var 8 (pv 8)))) am_nil))) pm_int) (fun h => ps_set (i := 9) sc_10.nd rfl (Or.inl rfl) h))
      (sm_one (sm_if (tm_bool (wm_and (tm_cmp op_ge s_ge (pm_var 9 (pv 9)) pm_int (nomark _)) (wm_and1 (tm_cmp op_gt s_gt (pm_cb s_len (pe_callB call_lenA (by rfl) T.z_len PySem.boot_len (am_cons (pm_var 7 (pv 7)) am_nil))) pm_int (nomark _)))))
      (sm_cons (sm_set (pm_mt0 s_pop (pe_bm0 PySem.F.plainAttrs_list PySem.F.slot_list_pop PySem.F.type_list_pop mt_pop (pm_var 7 (pv 7)))) (fun h => ps_set (i := 10) sc_10.nd rfl (Or.inl rfl) h))
      (sm_cons (sm_set (pm_mt0 s_pop (pe_bm0 PySem.F.plainAttrs_list PySem.F.slot_list_pop PySem.F.type_list_pop mt_pop (pm_var 7 (pv 7)))) (fun h => ps_set (i := 11) sc_10.nd rfl (Or.inl rfl) h))
      (sm_one (sm_expr (pm_mt s_app (pe_bm PySem.F.plainAttrs_list PySem.F.slot_list_append PySem.F.type_list_append mt_append (pm_var 7 (pv 7)) (am_cons (pm_tup (am_cons (pm_ix ix_seq s_ix (pm_var 6 (pv 6)) (pm_op op_sub s_sub (pm_var 9 (pv 9)) pm_int)) (am_cons (pm_var 11 (pv 11)) (am_cons (pm_var 10 (pv 10)) am_nil)))) am_nil)))))))
      (sm_one (sm_if (tm_bool (wm_and (tm_cmp op_le s_le pm_int (pm_var 9 (pv 9)) (nomark _)) (wm_and (tm_cmp op_lt s_lt (pm_var 9 (pv 9)) pm_int (nomark _)) (wm_and1 (tm_cmp op_gt s_gt (pm_cb s_len (pe_callB call_lenA (by rfl) T.z_len PySem.boot_len (am_cons (pm_var 7 (pv 7)) am_nil))) pm_int (nomark _))))))
      (sm_cons (sm_set (pm_mt0 s_pop (pe_bm0 PySem.F.plainAttrs_list PySem.F.slot_list_pop PySem.F.type_list_pop mt_pop (pm_var 7 (pv 7)))) (fun h => ps_set (i := 11) sc_10.nd rfl (Or.inl rfl) h))
      (sm_one (sm_expr (pm_mt s_app (pe_bm PySem.F.plainAttrs_list PySem.F.slot_list_append PySem.F.type_list_append mt_append (pm_var 7 (pv 7)) (am_cons (pm_tup (am_cons (pm_ix ix_seq s_ix (pm_var 5 (pv 5)) (pm_op op_sub s_sub (pm_var 9 (pv 9)) pm_int)) (am_cons (pm_var 11 (pv 11)) am_nil))) am_nil))))))
      (sm_one (sm_expr (pm_mt s_app (pe_bm PySem.F.plainAttrs_list PySem.F.slot_list_append PySem.F.type_list_append mt_append (pm_var 7 (pv 7)) (am_cons (pm_call fn_len_9 (pe_callS IH.f9 hr rfl T.m9 T.F9.kp T.b9 (fun σ => passAt tk σ) (am_cons (pm_ix ix_seq s_ix (pm_var 0 (pv 0)) (pm_op op_plus s_plus (pm_op op_times s_times pm_int (pm_var 8 (pv 8))) pm_int)) (am_cons (pm_ix ix_seq s_ix (pm_var 0 (pv 0)) (pm_op op_plus s_plus (pm_op op_times s_times pm_int (pm_var 8 (pv 8))) pm_int)) (am_cons (pm_var 1 (pv 1)) (am_cons (pm_var 2 (pv 2)) (am_cons (pm_var 3 (pv 3)) (am_cons (pm_var 4 (pv 4)) am_nil)))))))) am_nil))))))))))))
      (sm_cons (sm_for (ps_for (passes_of rfl) rfl (im_r1 (pi_range1 rfl T.z_range (am_cons (pm_op op_sub s_sub (pm_cb s_len (pe_callB call_lenA (by rfl) T.z_len PySem.boot_len (am_cons (pm_var 7 (pv 7)) am_nil))) pm_int) am_nil))) (gm_name (pg_name (i := 8) sc_10.nd rfl (Or.inl rfl)))
      (sm_cons (sm_set (pm_mt0 s_pop (pe_bm0 PySem.F.plainAttrs_list PySem.F.slot_list_pop PySem.F.type_list_pop mt_pop (pm_var 7 (pv 7)))) (fun h => ps_set (i := 10) sc_10.nd rfl (Or.inl rfl) h))
      (sm_cons (sm_set (pm_mt0 s_pop (pe_bm0 PySem.F.plainAttrs_list PySem.F.slot_list_pop PySem.F.type_list_pop mt_pop (pm_var 7 (pv 7)))) (fun h => ps_set (i := 11) sc_10.nd rfl (Or.inl rfl) h))
      (sm_one (sm_expr (pm_mt s_app (pe_bm PySem.F.plainAttrs_list PySem.F.slot_list_append PySem.F.type_list_append mt_append (pm_var 7 (pv 7)) (am_cons (pm_tup (am_cons (pm_ix ix_seq s_ix (pm_var 6 (pv 6)) (pm_op op_mod s_mod (pm_cb s_int1 (pe_callTy call_int1 (by rfl) T.z_int PyProof.Rows.boot_int (am_cons (pm_ix ix_seq s_ix (pm_var 0 (pv 0)) (pm_var 8 (pv 8))) am_nil))) pm_int)) (am_cons (pm_var 11 (pv 11)) (am_cons (pm_var 10 (pv 10)) am_nil)))) am_nil)))))))))
      (sm_one (sm_ret (pm_ix ix_seq s_ix (pm_var 7 (pv 7)) pm_int))))))))
theorem d_11 (T : Txt G.K w mg ad fd) (IH : All G M P w mg base ad fd k) : FnOk P w G.K mg base (L2.CX P w) (k + 1) (ad 11) (fd 11) ["actual", "expected"] (spF G 2 (fn M (k + 1) 11)) := by
  refine fn_okF (N := N_11) (m := b_11 (fn M k) M) T.F11 sc_11 fun cdv A outer s H E hr => ?_
  have tk : Takes (cxOf (L2.CX P w) P w G.K mg base N_11 "_law_same" (defScope (top 18)) (ad 11) cdv A outer s H E) (fun c d _ H => E c d H) := takes_of rfl rfl rfl rfl
  exact (sm_cons (sm_if (tm_val (pm_isi rfl (pe_callB call_isi (by rfl) T.z_isinstance PyProof.Rows.boot_isinstance (pa_cons (pm_var 1 (pv 1)) (pa_cons (pe_bltn (by rfl) T.z_str PyProof.Rows.boot_str rfl) pa_nil)))))
      (sm_one (sm_ret (pm_and (pm_isi rfl (pe_callB call_isi (by rfl) T.z_isinstance PyProof.Rows.boot_isinstance (pa_cons (pm_var 0 (pv 0)) (pa_cons (pe_bltn (by rfl) T.z_str PyProof.Rows.boot_str rfl) pa_nil)))) (pm_one (pm_cmp (op_eqA hr.units) s_eqA (pm_var 0 (pv 0)) (pm_var 1 (pv 1)) (nomark _))))))
      sm_nil)
      (sm_cons (sm_if (tm_val (pm_isi rfl (pe_callB call_isi (by rfl) T.z_isinstance PyProof.Rows.boot_isinstance (pa_cons (pm_var 1 (pv 1)) (pa_cons (pe_bltn (by rfl) T.z_int PyProof.Rows.boot_int rfl) pa_nil)))))
      (sm_one (sm_ret (pm_and (pm_isi rfl (pe_callB call_isi (by rfl) T.z_isinstance PyProof.Rows.boot_isinstance (pa_cons (pm_var 0 (pv 0)) (pa_cons (pe_bltn (by rfl) T.z_int PyProof.Rows.boot_int rfl) pa_nil)))) (pm_and (pm_not (pm_isi rfl (pe_callB call_isi (by rfl) T.z_isinstance PyProof.Rows.boot_isinstance (pa_cons (pm_var 0 (pv 0)) (pa_cons (pe_bltn (by rfl) T.z_bool PyProof.Rows.boot_bool rfl) pa_nil))))) (pm_one (pm_cmp (op_eqA hr.units) s_eqA (pm_var 0 (pv 0)) (pm_var 1 (pv 1)) (nomark _)))))))
      sm_nil)
      (sm_cons (sm_if (tm_bool (wm_and (tm_val (pm_isi rfl (pe_callB call_isi (by rfl) T.z_isinstance PyProof.Rows.boot_isinstance (pa_cons (pm_var 1 (pv 1)) (pa_cons (pe_bltn (by rfl) T.z_tuple PyProof.Rows.boot_tuple rfl) pa_nil))))) (wm_and1 (tm_not (tm_val (pm_isi rfl (pe_callB call_isi (by rfl) T.z_isinstance PyProof.Rows.boot_isinstance (pa_cons (pm_var 0 (pv 0)) (pa_cons (pe_bltn (by rfl) T.z_tuple PyProof.Rows.boot_tuple rfl) pa_nil)))))))))
      (sm_one (sm_ret pm_bl))
      sm_nil)
      (sm_cons (sm_if (tm_bool (wm_and (tm_val (pm_isi rfl (pe_callB call_isi (by rfl) T.z_isinstance PyProof.Rows.boot_isinstance (pa_cons (pm_var 1 (pv 1)) (pa_cons (pe_bltn (by rfl) T.z_list PyProof.Rows.boot_list rfl) pa_nil))))) (wm_and1 (tm_not (tm_val (pm_isi rfl (pe_callB call_isi (by rfl) T.z_isinstance PyProof.Rows.boot_isinstance (pa_cons (pm_var 0 (pv 0)) (pa_cons (pe_bltn (by rfl) T.z_list PyProof.Rows.boot_list rfl) pa_nil)))))))))
      (sm_one (sm_ret pm_bl))
      sm_nil)
      (sm_cons (sm_if (tm_cmp (op_neA hr.units) s_neA (pm_cb s_len (pe_callB call_lenA (by rfl) T.z_len PySem.boot_len (am_cons (pm_var 0 (pv 0)) am_nil))) (pm_cb s_len (pe_callB call_lenA (by rfl) T.z_len PySem.boot_len (am_cons (pm_var 1 (pv 1)) am_nil))) (nomark _))
      (sm_one (sm_ret pm_bl))
      sm_nil)
      (sm_cons (sm_for (ps_for (passes_of rfl) rfl (im_r1 (pi_range1 rfl T.z_range (am_cons (pm_cb s_len (pe_callB call_lenA (by rfl) T.z_len PySem.boot_len (am_cons (pm_var 1 (pv 1)) am_nil))) am_nil))) (gm_name (pg_name (i := 2) sc_11.nd rfl (Or.inl rfl)))
      (sm_one (sm_if (tm_not (tm_val (pm_call fn_len_11 (pe_callS IH.f11 hr rfl T.m11 T.F11.kp T.b11 (fun σ => passAt tk σ) (am_cons (pm_ix ix_seq s_ix (pm_var 0 (pv 0)) (pm_var 2 (pv 2))) (am_cons (pm_ix ix_seq s_ix (pm_var 1 (pv 1)) (pm_var 2 (pv 2))) am_nil))))))
      (sm_one (sm_ret pm_bl))
      sm_nil))))
      (sm_one (sm_ret pm_bl))))))))
theorem d_12 (T : Txt G.K w mg ad fd) (IH : All G M P w mg base ad fd k) : FnOk P w G.K mg base (L2.CX P w) (k + 1) (ad 12) (fd 12) ["tree"] (spF G 1 (fn M (k + 1) 12)) := by
  refine fn_okF (N := N_12) (m := b_12 (fn M k) M) T.F12 sc_12 fun cdv A outer s H E hr => ?_
  have tk : Takes (cxOf (L2.CX P w) P w G.K mg base N_12 "_law_size" (defScope (top 19)) (ad 12) cdv A outer s H E) (fun c d _ H => E c d H) := takes_of rfl rfl rfl rfl
  exact (sm_cons (sm_if (tm_cmp op_inA s_in (pm_ix ix_seq s_ix (pm_var 0 (pv 0)) pm_int) (pm_tup (am_cons pm_str (am_cons pm_str (am_cons pm_str am_nil)))))
      (sm_one (sm_ret pm_int))
      sm_nil)
      (sm_cons (sm_set pm_int (fun h => ps_set (i := 1) sc_12.nd rfl (Or.inl rfl) h))
      (sm_cons (sm_for (ps_for (passes_of rfl) rfl (im_seq rfl (pm_slice sl_any s_sl (pm_var 0 (pv 0)) (om_some pm_int) om_none)) (gm_name (pg_name (i := 2) sc_12.nd rfl (Or.inl rfl)))
      (sm_one (sm_set (pm_op op_plus s_plus (pm_var 1 (pv 1)) (pm_call fn_len_12 (pe_callS IH.f12 hr rfl T.m12 T.F12.kp T.b12 (fun σ => passAt tk σ) (am_cons (pm_var 2 (pv 2)) am_nil)))) (fun h => ps_set (i := 1) sc_12.nd rfl (Or.inl rfl) h)))))
      (sm_one (sm_ret (pm_var 1 (pv 1)))))))
theorem d_13 (T : Txt G.K w mg ad fd) (IH : All G M P w mg base ad fd k) : FnOk P w G.K mg base (L2.CX P w) (k + 1) (ad 13) (fd 13) ["tree"] (spF G 1 (fn M (k + 1) 13)) := by
  refine fn_okF (N := N_13) (m := b_13 (fn M k) M) T.F13 sc_13 fun cdv A outer s H E hr => ?_
  have tk : Takes (cxOf (L2.CX P w) P w G.K mg base N_13 "_law_found" (defScope (top 20)) (ad 13) cdv A outer s H E) (fun c d _ H => E c d H) := takes_of rfl rfl rfl rfl
  exact (sm_cons (sm_if (tm_cmp op_inA s_in (pm_ix ix_seq s_ix (pm_var 0 (pv 0)) pm_int) (pm_tup (am_cons pm_str (am_cons pm_str (am_cons pm_str am_nil)))))
      (sm_one (sm_ret (pm_lst (am_cons (pm_var 0 (pv 0)) am_nil))))
      sm_nil)
      (sm_cons (sm_set (pm_lst am_nil) (fun h => ps_set (i := 1) sc_13.nd rfl (Or.inl rfl) h))
      (sm_cons (sm_for (ps_for (passes_of rfl) rfl (im_seq rfl (pm_slice sl_any s_sl (pm_var 0 (pv 0)) (om_some pm_int) om_none)) (gm_name (pg_name (i := 2) sc_13.nd rfl (Or.inl rfl)))
      (sm_one (sm_set (pm_op op_plus s_plus (pm_var 1 (pv 1)) (pm_call fn_len_13 (pe_callS IH.f13 hr rfl T.m13 T.F13.kp T.b13 (fun σ => passAt tk σ) (am_cons (pm_var 2 (pv 2)) am_nil)))) (fun h => ps_set (i := 1) sc_13.nd rfl (Or.inl rfl) h)))))
      (sm_one (sm_ret (pm_var 1 (pv 1)))))))
theorem d_14 (T : Txt G.K w mg ad fd) (IH : All G M P w mg base ad fd k) : FnOk P w G.K mg base (L2.CX P w) (k + 1) (ad 14) (fd 14) ["tree", "allowed"] (spF G 2 (fn M (k + 1) 14)) := by
  refine fn_okF (N := N_14) (m := b_14 (fn M k) M) T.F14 sc_14 fun cdv A outer s H E hr => ?_
  have tk : Takes (cxOf (L2.CX P w) P w G.K mg base N_14 "_law_good" (defScope (top 21)) (ad 14) cdv A outer s H E) (fun c d _ H => E c d H) := takes_of rfl rfl rfl rfl
  exact (sm_cons (sm_if (tm_bool (wm_or (tm_not (tm_val (pm_isi rfl (pe_callB call_isi (by rfl) T.z_isinstance PyProof.Rows.boot_isinstance (pa_cons (pm_var 0 (pv 0)) (pa_cons (pe_bltn (by rfl) T.z_tuple PyProof.Rows.boot_tuple rfl) pa_nil)))))) (wm_or (tm_cmp op_eq s_eq (pm_cb s_len (pe_callB call_lenA (by rfl) T.z_len PySem.boot_len (am_cons (pm_var 0 (pv 0)) am_nil))) pm_int (nomark _)) (wm_or1 (tm_not (tm_val (pm_isi rfl (pe_callB call_isi (by rfl) T.z_isinstance PyProof.Rows.boot_isinstance (pa_cons (pm_ix ix_seq s_ix (pm_var 0 (pv 0)) pm_int) (pa_cons (pe_bltn (by rfl) T.z_str PyProof.Rows.boot_str rfl) pa_nil))))))))))
      (sm_one (sm_ret pm_bl))
      sm_nil)
      (sm_cons (sm_if (tm_cmp op_inA s_in (pm_ix ix_seq s_ix (pm_var 0 (pv 0)) pm_int) (pm_tup (am_cons pm_str (am_cons pm_str (am_cons pm_str am_nil)))))
      (sm_cons (sm_for (ps_for (passes_of rfl) rfl (im_seq rfl (pm_var 1 (pv 1))) (gm_name (pg_name (i := 4) sc_14.nd rfl (Or.inl rfl)))
      (sm_one (sm_if (tm_val (pm_call fn_len_11 (pe_callS IH.f11 hr rfl T.m11 T.F11.kp T.b11 (fun σ => passAt tk σ) (am_cons (pm_var 0 (pv 0)) (am_cons (pm_var 4 (pv 4)) am_nil)))))
      (sm_one (sm_ret pm_bl))
      sm_nil))))
      (sm_one (sm_ret pm_bl)))
      sm_nil)
      (sm_cons (sm_set (pm_un un_neg s_neg pm_int) (fun h => ps_set (i := 2) sc_14.nd rfl (Or.inl rfl) h))
      (sm_cons (sm_if (tm_cmp op_inA s_in (pm_ix ix_seq s_ix (pm_var 0 (pv 0)) pm_int) (pm_tup (am_cons pm_str (am_cons pm_str am_nil))))
      (sm_one (sm_set pm_int (fun h => ps_set (i := 2) sc_14.nd rfl (Or.inl rfl) h)))
      (sm_one (sm_if (tm_cmp op_inA s_in (pm_ix ix_seq s_ix (pm_var 0 (pv 0)) pm_int) (pm_tup (am_cons pm_str (am_cons pm_str (am_cons pm_str (am_cons pm_str am_nil))))))
      (sm_one (sm_set pm_int (fun h => ps_set (i := 2) sc_14.nd rfl (Or.inl rfl) h)))
      (sm_one (sm_if (tm_cmp op_inA s_in (pm_ix ix_seq s_ix (pm_var 0 (pv 0)) pm_int) (pm_tup (am_cons pm_str (am_cons pm_str (am_cons pm_str (am_cons pm_str (am_cons pm_str (am_cons pm_str (am_cons pm_str (am_cons pm_str am_nil))))))))))
      (sm_one (sm_set pm_int (fun h => ps_set (i := 2) sc_14.nd rfl (Or.inl rfl) h)))
      sm_nil)))))
      (sm_cons (sm_if (tm_cmp (op_neA hr.units) s_neA (pm_cb s_len (pe_callB call_lenA (by rfl) T.z_len PySem.boot_len (am_cons (pm_var 0 (pv 0)) am_nil))) (pm_op op_plus s_plus (pm_var 2 (pv 2)) pm_int) (nomark _))
      (sm_one (sm_ret pm_bl))
      sm_nil)
      (sm_cons (sm_for (ps_for (passes_of rfl) rfl (im_seq rfl (pm_slice sl_any s_sl (pm_var 0 (pv 0)) (om_some pm_int) om_none)) (gm_name (pg_name (i := 3) sc_14.nd rfl (Or.inl rfl)))
      (sm_one (sm_if (tm_not (tm_val (pm_call fn_len_14 (pe_callS IH.f14 hr rfl T.m14 T.F14.kp T.b14 (fun σ => passAt tk σ) (am_cons (pm_var 3 (pv 3)) (am_cons (pm_var 1 (pv 1)) am_nil))))))
      (sm_one (sm_ret pm_bl))
      sm_nil))))
      (sm_one (sm_ret pm_bl))))))))
theorem d_15 (T : Txt G.K w mg ad fd) (IH : All G M P w mg base ad fd k) : FnOk P w G.K mg base (L2.CX P w) (k + 1) (ad 15) (fd 15) ["term", "names", "state"] (spF G 3 (fn M (k + 1) 15)) := by
  refine fn_okF (N := N_15) (m := b_15 (fn M k) M) T.F15 sc_15 fun cdv A outer s H E hr => ?_
  have tk : Takes (cxOf (L2.CX P w) P w G.K mg base N_15 "_law_value" (defScope (top 22)) (ad 15) cdv A outer s H E) (fun c d _ H => E c d H) := takes_of rfl rfl rfl rfl
  exact (sm_cons (sm_if (tm_cmp op_eq s_eq (pm_ix ix_seq s_ix (pm_var 0 (pv 0)) pm_int) pm_str (nomark _))
      (sm_one (sm_ret (pm_ix ix_seq s_ix (pm_var 0 (pv 0)) pm_int)))
      sm_nil)
      (sm_cons (sm_if (tm_cmp op_eq s_eq (pm_ix ix_seq s_ix (pm_var 0 (pv 0)) pm_int) pm_str (nomark _))
      (sm_one (sm_ret (pm_ix ix_seq s_ix (pm_var 2 (pv 2)) (pm_mt s_index (pe_bm PySem.F.plainAttrs_list PySem.F.slot_list_index PySem.F.type_list_index (mt_indexD (units65 hr)) (pm_var 1 (pv 1)) (am_cons (pm_ix ix_seq s_ix (pm_var 0 (pv 0)) pm_int) am_nil))))))
      sm_nil)
      (sm_cons (sm_set (pm_call fn_len_15 (pe_callS IH.f15 hr rfl T.m15 T.F15.kp T.b15 (fun σ => passAt tk σ) (am_cons (pm_ix ix_seq s_ix (pm_var 0 (pv 0)) pm_int) (am_cons (pm_var 1 (pv 1)) (am_cons (pm_var 2 (pv 2)) am_nil))))) (fun h => ps_set (i := 3) sc_15.nd rfl (Or.inl rfl) h))
      (sm_cons (sm_if (tm_cmp op_eq s_eq (pm_ix ix_seq s_ix (pm_var 0 (pv 0)) pm_int) pm_str (nomark _))
      (sm_one (sm_ret (pm_op op_sub s_sub pm_int (pm_var 3 (pv 3)))))
      sm_nil)
      (sm_cons (sm_if (tm_cmp op_eq s_eq (pm_ix ix_seq s_ix (pm_var 0 (pv 0)) pm_int) pm_str (nomark _))
      (sm_one (sm_ret (pm_op op_fdiv s_fdiv (pm_var 3 (pv 3)) (pm_ix ix_seq s_ix (pm_var 0 (pv 0)) pm_int))))
      sm_nil)
      (sm_cons (sm_if (tm_cmp op_eq s_eq (pm_ix ix_seq s_ix (pm_var 0 (pv 0)) pm_int) pm_str (nomark _))
      (sm_one (sm_ret (pm_op op_sub s_sub (pm_var 3 (pv 3)) (pm_op op_times s_times (pm_op op_fdiv s_fdiv (pm_var 3 (pv 3)) (pm_ix ix_seq s_ix (pm_var 0 (pv 0)) pm_int)) (pm_ix ix_seq s_ix (pm_var 0 (pv 0)) pm_int)))))
      sm_nil)
      (sm_cons (sm_set (pm_call fn_len_15 (pe_callS IH.f15 hr rfl T.m15 T.F15.kp T.b15 (fun σ => passAt tk σ) (am_cons (pm_ix ix_seq s_ix (pm_var 0 (pv 0)) pm_int) (am_cons (pm_var 1 (pv 1)) (am_cons (pm_var 2 (pv 2)) am_nil))))) (fun h => ps_set (i := 4) sc_15.nd rfl (Or.inl rfl) h))
      (sm_cons (sm_if (tm_cmp op_eq s_eq (pm_ix ix_seq s_ix (pm_var 0 (pv 0)) pm_int) pm_str (nomark _))
      (sm_one (sm_ret (pm_op op_plus s_plus (pm_var 3 (pv 3)) (pm_var 4 (pv 4)))))
      sm_nil)
      (sm_cons (sm_if (tm_cmp op_eq s_eq (pm_ix ix_seq s_ix (pm_var 0 (pv 0)) pm_int) pm_str (nomark _))
      (sm_one (sm_ret (pm_op op_sub s_sub (pm_var 3 (pv 3)) (pm_var 4 (pv 4)))))
      sm_nil)
      (sm_cons (sm_if (tm_cmp op_eq s_eq (pm_ix ix_seq s_ix (pm_var 0 (pv 0)) pm_int) pm_str (nomark _))
      (sm_one (sm_ret (pm_op op_times s_times (pm_var 3 (pv 3)) (pm_var 4 (pv 4)))))
      sm_nil)
      (sm_cons (sm_if (tm_cmp op_eq s_eq (pm_ix ix_seq s_ix (pm_var 0 (pv 0)) pm_int) pm_str (nomark _))
      (sm_one (sm_ret (pm_cb s_min2 (pe_callB (call_min2 rfl) (by rfl) T.z_min PyProof.Rows.boot_min (am_cons (pm_var 3 (pv 3)) (am_cons (pm_var 4 (pv 4)) am_nil))))))
      sm_nil)
      (sm_one (sm_ret (pm_cb s_max2 (pe_callB (call_max2 rfl) (by rfl) T.z_max PyProof.Rows.boot_max (am_cons (pm_var 3 (pv 3)) (am_cons (pm_var 4 (pv 4)) am_nil)))))))))))))))))
theorem d_16 (T : Txt G.K w mg ad fd) (IH : All G M P w mg base ad fd k) : FnOk P w G.K mg base (L2.CX P w) (k + 1) (ad 16) (fd 16) ["comparison", "names", "state"] (spF G 3 (fn M (k + 1) 16)) := by
  refine fn_okF (N := N_16) (m := b_16 (fn M k) M) T.F16 sc_16 fun cdv A outer s H E hr => ?_
  have tk : Takes (cxOf (L2.CX P w) P w G.K mg base N_16 "_law_holds" (defScope (top 23)) (ad 16) cdv A outer s H E) (fun c d _ H => E c d H) := takes_of rfl rfl rfl rfl
  exact (sm_cons (sm_set (pm_call fn_len_15 (pe_callS IH.f15 hr rfl T.m15 T.F15.kp T.b15 (fun σ => passAt tk σ) (am_cons (pm_ix ix_seq s_ix (pm_var 0 (pv 0)) pm_int) (am_cons (pm_var 1 (pv 1)) (am_cons (pm_var 2 (pv 2)) am_nil))))) (fun h => ps_set (i := 3) sc_16.nd rfl (Or.inl rfl) h))
      (sm_cons (sm_set (pm_call fn_len_15 (pe_callS IH.f15 hr rfl T.m15 T.F15.kp T.b15 (fun σ => passAt tk σ) (am_cons (pm_ix ix_seq s_ix (pm_var 0 (pv 0)) pm_int) (am_cons (pm_var 1 (pv 1)) (am_cons (pm_var 2 (pv 2)) am_nil))))) (fun h => ps_set (i := 4) sc_16.nd rfl (Or.inl rfl) h))
      (sm_cons (sm_if (tm_cmp op_eq s_eq (pm_ix ix_seq s_ix (pm_var 0 (pv 0)) pm_int) pm_str (nomark _))
      (sm_one (sm_ret (pm_cmp (op_eqA hr.units) s_eqA (pm_var 3 (pv 3)) (pm_var 4 (pv 4)) (nomark _))))
      sm_nil)
      (sm_cons (sm_if (tm_cmp op_eq s_eq (pm_ix ix_seq s_ix (pm_var 0 (pv 0)) pm_int) pm_str (nomark _))
      (sm_one (sm_ret (pm_cmp op_lt s_lt (pm_var 3 (pv 3)) (pm_var 4 (pv 4)) (nomark _))))
      sm_nil)
      (sm_one (sm_ret (pm_cmp op_le s_le (pm_var 3 (pv 3)) (pm_var 4 (pv 4)) (nomark _))))))))
theorem d_17 (T : Txt G.K w mg ad fd) (IH : All G M P w mg base ad fd k) : FnOk P w G.K mg base (L2.CX P w) (k + 1) (ad 17) (fd 17) ["place", "back", "many"] (spF G 3 (fn M (k + 1) 17)) := by
  refine fn_okF (N := N_17) (m := b_17 (fn M k) M) T.F17 sc_17 fun cdv A outer s H E hr => ?_
  have tk : Takes (cxOf (L2.CX P w) P w G.K mg base N_17 "_law_after" (defScope (top 24)) (ad 17) cdv A outer s H E) (fun c d _ H => E c d H) := takes_of rfl rfl rfl rfl
  exact (sm_cons (sm_if (tm_cmp op_lt s_lt (pm_op op_plus s_plus (pm_var 0 (pv 0)) pm_int) (pm_var 2 (pv 2)) (nomark _))
      (sm_one (sm_ret (pm_op op_plus s_plus (pm_var 0 (pv 0)) pm_int)))
      sm_nil)
      (sm_one (sm_ret (pm_var 1 (pv 1)))))
theorem d_18 (T : Txt G.K w mg ad fd) (IH : All G M P w mg base ad fd k) : FnOk P w G.K mg base (L2.CX P w) (k + 1) (ad 18) (fd 18) ["place", "back", "first", "second", "end"] (spF G 5 (fn M (k + 1) 18)) := by
  refine fn_okF (N := N_18) (m := b_18 (fn M k) M) T.F18 sc_18 fun cdv A outer s H E hr => ?_
  have tk : Takes (cxOf (L2.CX P w) P w G.K mg base N_18 "_law_walk" (defScope (top 25)) (ad 18) cdv A outer s H E) (fun c d _ H => E c d H) := takes_of rfl rfl rfl rfl
  exact (sm_cons (sm_for (ps_for (passes_of rfl) rfl (im_r1 (pi_range1 rfl T.z_range (am_cons (pm_cb s_len (pe_callB call_lenA (by rfl) T.z_len PySem.boot_len (am_cons (pm_var 2 (pv 2)) am_nil))) am_nil))) (gm_name (pg_name (i := 5) sc_18.nd rfl (Or.inl rfl)))
      (sm_cons (sm_if (tm_val (pm_ix ix_seq s_ix (pm_var 3 (pv 3)) (pm_var 0 (pv 0))))
      (sm_one (sm_ret pm_bl))
      sm_nil)
      (sm_cons (sm_if (tm_not (tm_val (pm_ix ix_seq s_ix (pm_var 2 (pv 2)) (pm_var 0 (pv 0)))))
      (sm_one (sm_ret pm_bl))
      sm_nil)
      (sm_one (sm_set (pm_call fn_len_17 (pe_callS IH.f17 hr rfl T.m17 T.F17.kp T.b17 (fun σ => passAt tk σ) (am_cons (pm_var 0 (pv 0)) (am_cons (pm_var 1 (pv 1)) (am_cons (pm_cb s_len (pe_callB call_lenA (by rfl) T.z_len PySem.boot_len (am_cons (pm_var 2 (pv 2)) am_nil))) am_nil))))) (fun h => ps_set (i := 0) sc_18.nd rfl (Or.inl rfl) h)))))))
      (sm_one (sm_ret (pm_var 4 (pv 4)))))
theorem d_19 (T : Txt G.K w mg ad fd) (IH : All G M P w mg base ad fd k) : FnOk P w G.K mg base (L2.CX P w) (k + 1) (ad 19) (fd 19) ["word", "first", "second", "back"] (spF G 4 (fn M (k + 1) 19)) := by
  refine fn_okF (N := N_19) (m := b_19 (fn M k) M) T.F19 sc_19 fun cdv A outer s H E hr => ?_
  have tk : Takes (cxOf (L2.CX P w) P w G.K mg base N_19 "_law_temporal" (defScope (top 26)) (ad 19) cdv A outer s H E) (fun c d _ H => E c d H) := takes_of rfl rfl rfl rfl
  exact (sm_cons (sm_set (pm_cb s_len (pe_callB call_lenA (by rfl) T.z_len PySem.boot_len (am_cons (pm_var 1 (pv 1)) am_nil))) (fun h => ps_set (i := 4) sc_19.nd rfl (Or.inl rfl) h))
      (sm_cons (sm_if (tm_cmp op_eq s_eq (pm_var 0 (pv 0)) pm_str (nomark _))
      (sm_one (sm_ret (pm_lc (j := 9) (vs := [9]) (by decide) (pe_lc (own := [("k", 9)]) (g := gName 9) rfl sc_19.nd (im_r1 (pi_range1 rfl T.z_range (am_cons (pm_var 4 (pv 4)) am_nil))) (blkOk_by (N := N_19) (sc := defScope (top 26)) (by decide +kernel)) (fun _ _ _ _ _ => pg_name (i := 9) sc_19.nd rfl (Or.inl rfl)) (fun _ _ _ _ _ => tms_nil) (fun _ _ _ _ _ => (pm_call fn_len_18 (pe_callS IH.f18 hr rfl T.m18 T.F18.kp T.b18 (fun σ => passAt takes0 σ) (am_cons (pm_var 9 (pv 9)) (am_cons (pm_var 3 (pv 3)) (am_cons (pm_var 1 (pv 1)) (am_cons (pm_var 2 (pv 2)) (am_cons pm_bl am_nil))))))))))))
      sm_nil)
      (sm_cons (sm_if (tm_cmp op_eq s_eq (pm_var 0 (pv 0)) pm_str (nomark _))
      (sm_one (sm_ret (pm_lc (j := 9) (vs := [9]) (by decide) (pe_lc (own := [("k", 9)]) (g := gName 9) rfl sc_19.nd (im_r1 (pi_range1 rfl T.z_range (am_cons (pm_var 4 (pv 4)) am_nil))) (blkOk_by (N := N_19) (sc := defScope (top 26)) (by decide +kernel)) (fun _ _ _ _ _ => pg_name (i := 9) sc_19.nd rfl (Or.inl rfl)) (fun _ _ _ _ _ => tms_nil) (fun _ _ _ _ _ => (pm_call fn_len_18 (pe_callS IH.f18 hr rfl T.m18 T.F18.kp T.b18 (fun σ => passAt takes0 σ) (am_cons (pm_var 9 (pv 9)) (am_cons (pm_var 3 (pv 3)) (am_cons (pm_var 1 (pv 1)) (am_cons (pm_var 2 (pv 2)) (am_cons pm_bl am_nil))))))))))))
      sm_nil)
      (sm_cons (sm_if (tm_cmp op_eq s_eq (pm_var 0 (pv 0)) pm_str (nomark _))
      (sm_cons (sm_set (pm_lc (j := 9) (vs := [9]) (by decide) (pe_lc (own := [("k", 9)]) (g := gName 9) rfl sc_19.nd (im_r1 (pi_range1 rfl T.z_range (am_cons (pm_var 4 (pv 4)) am_nil))) (blkOk_by (N := N_19) (sc := defScope (top 26)) (by decide +kernel)) (fun _ _ _ _ _ => pg_name (i := 9) sc_19.nd rfl (Or.inl rfl)) (fun _ _ _ _ _ => tms_nil) (fun _ _ _ _ _ => (pm_and (pm_ix ix_seq s_ix (pm_var 1 (pv 1)) (pm_var 9 (pv 9))) (pm_one (pm_ix ix_seq s_ix (pm_var 2 (pv 2)) (pm_var 9 (pv 9)))))))) (fun h => ps_set (i := 7) sc_19.nd rfl (Or.inr rfl) h))
      (sm_one (sm_ret (pm_lc (j := 9) (vs := [9]) (by decide) (pe_lc (own := [("k", 9)]) (g := gName 9) rfl sc_19.nd (im_r1 (pi_range1 rfl T.z_range (am_cons (pm_var 4 (pv 4)) am_nil))) (blkOk_by (N := N_19) (sc := defScope (top 26)) (by decide +kernel)) (fun _ _ _ _ _ => pg_name (i := 9) sc_19.nd rfl (Or.inl rfl)) (fun _ _ _ _ _ => tms_nil) (fun _ _ _ _ _ => (pm_call fn_len_18 (pe_callS IH.f18 hr rfl T.m18 T.F18.kp T.b18 (fun σ => passAt takes0 σ) (am_cons (pm_var 9 (pv 9)) (am_cons (pm_var 3 (pv 3)) (am_cons (pm_var 2 (pv 2)) (am_cons (pm_var 7 (pv 7)) (am_cons pm_bl am_nil)))))))))))))
      sm_nil)
      (sm_cons (sm_set (pm_lc (j := 8) (vs := [8]) (by decide) (pe_lc (own := [("bit", 8)]) (g := gName 8) rfl sc_19.nd (im_seq rfl (pm_var 1 (pv 1))) (blkOk_by (N := N_19) (sc := defScope (top 26)) (by decide +kernel)) (fun _ _ _ _ _ => pg_name (i := 8) sc_19.nd rfl (Or.inl rfl)) (fun _ _ _ _ _ => tms_nil) (fun _ _ _ _ _ => (pm_not (pm_var 8 (pv 8)))))) (fun h => ps_set (i := 5) sc_19.nd rfl (Or.inr rfl) h))
      (sm_cons (sm_set (pm_lc (j := 8) (vs := [8]) (by decide) (pe_lc (own := [("bit", 8)]) (g := gName 8) rfl sc_19.nd (im_seq rfl (pm_var 2 (pv 2))) (blkOk_by (N := N_19) (sc := defScope (top 26)) (by decide +kernel)) (fun _ _ _ _ _ => pg_name (i := 8) sc_19.nd rfl (Or.inl rfl)) (fun _ _ _ _ _ => tms_nil) (fun _ _ _ _ _ => (pm_not (pm_var 8 (pv 8)))))) (fun h => ps_set (i := 6) sc_19.nd rfl (Or.inr rfl) h))
      (sm_one (sm_ret (pm_lc (j := 9) (vs := [9]) (by decide) (pe_lc (own := [("k", 9)]) (g := gName 9) rfl sc_19.nd (im_r1 (pi_range1 rfl T.z_range (am_cons (pm_var 4 (pv 4)) am_nil))) (blkOk_by (N := N_19) (sc := defScope (top 26)) (by decide +kernel)) (fun _ _ _ _ _ => pg_name (i := 9) sc_19.nd rfl (Or.inl rfl)) (fun _ _ _ _ _ => tms_nil) (fun _ _ _ _ _ => (pm_not (pm_call fn_len_18 (pe_callS IH.f18 hr rfl T.m18 T.F18.kp T.b18 (fun σ => passAt takes0 σ) (am_cons (pm_var 9 (pv 9)) (am_cons (pm_var 3 (pv 3)) (am_cons (pm_var 5 (pv 5)) (am_cons (pm_var 6 (pv 6)) (am_cons pm_bl am_nil)))))))))))))))))))
theorem d_20 (T : Txt G.K w mg ad fd) (IH : All G M P w mg base ad fd k) : FnOk P w G.K mg base (L2.CX P w) (k + 1) (ad 20) (fd 20) ["tree", "names", "run", "back"] (spF G 4 (fn M (k + 1) 20)) := by
  refine fn_okF (N := N_20) (m := b_20 (fn M k) M) T.F20 sc_20 fun cdv A outer s H E hr => ?_
  have tk : Takes (cxOf (L2.CX P w) P w G.K mg base N_20 "_law_along" (defScope (top 27)) (ad 20) cdv A outer s H E) (fun c d _ H => E c d H) := takes_of rfl rfl rfl rfl
  exact (sm_cons (sm_set (pm_ix ix_seq s_ix (pm_var 0 (pv 0)) pm_int) (fun h => ps_set (i := 4) sc_20.nd rfl (Or.inr rfl) h))
      (sm_cons (sm_set (pm_cb s_len (pe_callB call_lenA (by rfl) T.z_len PySem.boot_len (am_cons (pm_var 2 (pv 2)) am_nil))) (fun h => ps_set (i := 5) sc_20.nd rfl (Or.inr rfl) h))
      (sm_cons (sm_if (tm_bool (wm_or (tm_cmp op_eq s_eq (pm_var 4 (pv 4)) pm_str (nomark _)) (wm_or1 (tm_cmp op_eq s_eq (pm_var 4 (pv 4)) pm_str (nomark _)))))
      (sm_one (sm_ret (pm_lc (j := 8) (vs := [8]) (by decide) (pe_lc (own := [("state", 8)]) (g := gName 8) rfl sc_20.nd (im_seq rfl (pm_var 2 (pv 2))) (blkOk_by (N := N_20) (sc := defScope (top 27)) (by decide +kernel)) (fun _ _ _ _ _ => pg_name (i := 8) sc_20.nd rfl (Or.inl rfl)) (fun _ _ _ _ _ => tms_nil) (fun _ _ _ _ _ => (pm_cmp op_eq s_eq (pm_var 4 (pv 4)) pm_str (nomark _)))))))
      sm_nil)
      (sm_cons (sm_if (tm_cmp op_inA s_in (pm_var 4 (pv 4)) (pm_tup (am_cons pm_str (am_cons pm_str (am_cons pm_str am_nil)))))
      (sm_one (sm_ret (pm_lc (j := 8) (vs := [8]) (by decide) (pe_lc (own := [("state", 8)]) (g := gName 8) rfl sc_20.nd (im_seq rfl (pm_var 2 (pv 2))) (blkOk_by (N := N_20) (sc := defScope (top 27)) (by decide +kernel)) (fun _ _ _ _ _ => pg_name (i := 8) sc_20.nd rfl (Or.inl rfl)) (fun _ _ _ _ _ => tms_nil) (fun _ _ _ _ _ => (pm_call fn_len_16 (pe_callS IH.f16 hr rfl T.m16 T.F16.kp T.b16 (fun σ => passAt takes0 σ) (am_cons (pm_var 0 (pv 0)) (am_cons (pm_var 1 (pv 1)) (am_cons (pm_var 8 (pv 8)) am_nil))))))))))
      sm_nil)
      (sm_cons (sm_set (pm_call fn_len_20 (pe_callS IH.f20 hr rfl T.m20 T.F20.kp T.b20 (fun σ => passAt tk σ) (am_cons (pm_ix ix_seq s_ix (pm_var 0 (pv 0)) pm_int) (am_cons (pm_var 1 (pv 1)) (am_cons (pm_var 2 (pv 2)) (am_cons (pm_var 3 (pv 3)) am_nil)))))) (fun h => ps_set (i := 6) sc_20.nd rfl (Or.inr rfl) h))
      (sm_cons (sm_if (tm_cmp op_eq s_eq (pm_var 4 (pv 4)) pm_str (nomark _))
      (sm_one (sm_ret (pm_lc (j := 9) (vs := [9]) (by decide) (pe_lc (own := [("bit", 9)]) (g := gName 9) rfl sc_20.nd (im_seq rfl (pm_var 6 (pv 6))) (blkOk_by (N := N_20) (sc := defScope (top 27)) (by decide +kernel)) (fun _ _ _ _ _ => pg_name (i := 9) sc_20.nd rfl (Or.inl rfl)) (fun _ _ _ _ _ => tms_nil) (fun _ _ _ _ _ => (pm_not (pm_var 9 (pv 9))))))))
      sm_nil)
      (sm_cons (sm_if (tm_cmp op_eq s_eq (pm_var 4 (pv 4)) pm_str (nomark _))
      (sm_one (sm_ret (pm_lc (j := 10) (vs := [10]) (by decide) (pe_lc (own := [("k", 10)]) (g := gName 10) rfl sc_20.nd (im_r1 (pi_range1 rfl T.z_range (am_cons (pm_var 5 (pv 5)) am_nil))) (blkOk_by (N := N_20) (sc := defScope (top 27)) (by decide +kernel)) (fun _ _ _ _ _ => pg_name (i := 10) sc_20.nd rfl (Or.inl rfl)) (fun _ _ _ _ _ => tms_nil) (fun _ _ _ _ _ => (pm_ix ix_seq s_ix (pm_var 6 (pv 6)) (pm_call fn_len_17 (pe_callS IH.f17 hr rfl T.m17 T.F17.kp T.b17 (fun σ => passAt takes0 σ) (am_cons (pm_var 10 (pv 10)) (am_cons (pm_var 3 (pv 3)) (am_cons (pm_var 5 (pv 5)) am_nil)))))))))))
      sm_nil)
      (sm_cons (sm_if (tm_cmp op_eq s_eq (pm_var 4 (pv 4)) pm_str (nomark _))
      (sm_one (sm_ret (pm_lc (j := 10) (vs := [10]) (by decide) (pe_lc (own := [("k", 10)]) (g := gName 10) rfl sc_20.nd (im_r1 (pi_range1 rfl T.z_range (am_cons (pm_var 5 (pv 5)) am_nil))) (blkOk_by (N := N_20) (sc := defScope (top 27)) (by decide +kernel)) (fun _ _ _ _ _ => pg_name (i := 10) sc_20.nd rfl (Or.inl rfl)) (fun _ _ _ _ _ => tms_nil) (fun _ _ _ _ _ => (pm_call fn_len_18 (pe_callS IH.f18 hr rfl T.m18 T.F18.kp T.b18 (fun σ => passAt takes0 σ) (am_cons (pm_var 10 (pv 10)) (am_cons (pm_var 3 (pv 3)) (am_cons (pm_lc (j := 9) (vs := [9]) (by decide) (pe_lc (own := [("bit", 9)]) (g := gName 9) rfl sc_20.nd (im_seq rfl (pm_var 6 (pv 6))) (blkOk_re (N := N_20) (by decide +kernel)) (fun _ _ _ _ _ => pg_name (i := 9) sc_20.nd rfl (Or.inl rfl)) (fun _ _ _ _ _ => tms_nil) (fun _ _ _ _ _ => pm_bl))) (am_cons (pm_var 6 (pv 6)) (am_cons pm_bl am_nil))))))))))))
      sm_nil)
      (sm_cons (sm_if (tm_cmp op_eq s_eq (pm_var 4 (pv 4)) pm_str (nomark _))
      (sm_one (sm_ret (pm_lc (j := 10) (vs := [10]) (by decide) (pe_lc (own := [("k", 10)]) (g := gName 10) rfl sc_20.nd (im_r1 (pi_range1 rfl T.z_range (am_cons (pm_var 5 (pv 5)) am_nil))) (blkOk_by (N := N_20) (sc := defScope (top 27)) (by decide +kernel)) (fun _ _ _ _ _ => pg_name (i := 10) sc_20.nd rfl (Or.inl rfl)) (fun _ _ _ _ _ => tms_nil) (fun _ _ _ _ _ => (pm_call fn_len_18 (pe_callS IH.f18 hr rfl T.m18 T.F18.kp T.b18 (fun σ => passAt takes0 σ) (am_cons (pm_var 10 (pv 10)) (am_cons (pm_var 3 (pv 3)) (am_cons (pm_var 6 (pv 6)) (am_cons (pm_lc (j := 9) (vs := [9]) (by decide) (pe_lc (own := [("bit", 9)]) (g := gName 9) rfl sc_20.nd (im_seq rfl (pm_var 6 (pv 6))) (blkOk_re (N := N_20) (by decide +kernel)) (fun _ _ _ _ _ => pg_name (i := 9) sc_20.nd rfl (Or.inl rfl)) (fun _ _ _ _ _ => tms_nil) (fun _ _ _ _ _ => pm_bl))) (am_cons pm_bl am_nil))))))))))))
      sm_nil)
      (sm_cons (sm_set (pm_call fn_len_20 (pe_callS IH.f20 hr rfl T.m20 T.F20.kp T.b20 (fun σ => passAt tk σ) (am_cons (pm_ix ix_seq s_ix (pm_var 0 (pv 0)) pm_int) (am_cons (pm_var 1 (pv 1)) (am_cons (pm_var 2 (pv 2)) (am_cons (pm_var 3 (pv 3)) am_nil)))))) (fun h => ps_set (i := 7) sc_20.nd rfl (Or.inr rfl) h))
      (sm_cons (sm_if (tm_cmp op_eq s_eq (pm_var 4 (pv 4)) pm_str (nomark _))
      (sm_one (sm_ret (pm_lc (j := 10) (vs := [10]) (by decide) (pe_lc (own := [("k", 10)]) (g := gName 10) rfl sc_20.nd (im_r1 (pi_range1 rfl T.z_range (am_cons (pm_var 5 (pv 5)) am_nil))) (blkOk_by (N := N_20) (sc := defScope (top 27)) (by decide +kernel)) (fun _ _ _ _ _ => pg_name (i := 10) sc_20.nd rfl (Or.inl rfl)) (fun _ _ _ _ _ => tms_nil) (fun _ _ _ _ _ => (pm_and (pm_ix ix_seq s_ix (pm_var 6 (pv 6)) (pm_var 10 (pv 10))) (pm_one (pm_ix ix_seq s_ix (pm_var 7 (pv 7)) (pm_var 10 (pv 10))))))))))
      sm_nil)
      (sm_cons (sm_if (tm_cmp op_eq s_eq (pm_var 4 (pv 4)) pm_str (nomark _))
      (sm_one (sm_ret (pm_lc (j := 10) (vs := [10]) (by decide) (pe_lc (own := [("k", 10)]) (g := gName 10) rfl sc_20.nd (im_r1 (pi_range1 rfl T.z_range (am_cons (pm_var 5 (pv 5)) am_nil))) (blkOk_by (N := N_20) (sc := defScope (top 27)) (by decide +kernel)) (fun _ _ _ _ _ => pg_name (i := 10) sc_20.nd rfl (Or.inl rfl)) (fun _ _ _ _ _ => tms_nil) (fun _ _ _ _ _ => (pm_or (pm_ix ix_seq s_ix (pm_var 6 (pv 6)) (pm_var 10 (pv 10))) (pm_one (pm_ix ix_seq s_ix (pm_var 7 (pv 7)) (pm_var 10 (pv 10))))))))))
      sm_nil)
      (sm_cons (sm_if (tm_cmp op_eq s_eq (pm_var 4 (pv 4)) pm_str (nomark _))
      (sm_one (sm_ret (pm_lc (j := 10) (vs := [10]) (by decide) (pe_lc (own := [("k", 10)]) (g := gName 10) rfl sc_20.nd (im_r1 (pi_range1 rfl T.z_range (am_cons (pm_var 5 (pv 5)) am_nil))) (blkOk_by (N := N_20) (sc := defScope (top 27)) (by decide +kernel)) (fun _ _ _ _ _ => pg_name (i := 10) sc_20.nd rfl (Or.inl rfl)) (fun _ _ _ _ _ => tms_nil) (fun _ _ _ _ _ => (pm_or (pm_not (pm_ix ix_seq s_ix (pm_var 6 (pv 6)) (pm_var 10 (pv 10)))) (pm_one (pm_ix ix_seq s_ix (pm_var 7 (pv 7)) (pm_var 10 (pv 10))))))))))
      sm_nil)
      (sm_cons (sm_if (tm_cmp op_eq s_eq (pm_var 4 (pv 4)) pm_str (nomark _))
      (sm_one (sm_ret (pm_lc (j := 10) (vs := [10]) (by decide) (pe_lc (own := [("k", 10)]) (g := gName 10) rfl sc_20.nd (im_r1 (pi_range1 rfl T.z_range (am_cons (pm_var 5 (pv 5)) am_nil))) (blkOk_by (N := N_20) (sc := defScope (top 27)) (by decide +kernel)) (fun _ _ _ _ _ => pg_name (i := 10) sc_20.nd rfl (Or.inl rfl)) (fun _ _ _ _ _ => tms_nil) (fun _ _ _ _ _ => (pm_cmp (op_eqA hr.units) s_eqA (pm_ix ix_seq s_ix (pm_var 6 (pv 6)) (pm_var 10 (pv 10))) (pm_ix ix_seq s_ix (pm_var 7 (pv 7)) (pm_var 10 (pv 10))) (nomark _)))))))
      sm_nil)
      (sm_one (sm_ret (pm_call fn_len_19 (pe_callS IH.f19 hr rfl T.m19 T.F19.kp T.b19 (fun σ => passAt tk σ) (am_cons (pm_var 4 (pv 4)) (am_cons (pm_var 6 (pv 6)) (am_cons (pm_var 7 (pv 7)) (am_cons (pm_var 3 (pv 3)) am_nil))))))))))))))))))))))
theorem d_21 (T : Txt G.K w mg ad fd) (IH : All G M P w mg base ad fd k) : FnOk P w G.K mg base (L2.CX P w) (k + 1) (ad 21) (fd 21) ["tree"] (spF G 1 (fn M (k + 1) 21)) := by
  refine fn_okF (N := N_21) (m := b_21 (fn M k) M) T.F21 sc_21 fun cdv A outer s H E hr => ?_
  have tk : Takes (cxOf (L2.CX P w) P w G.K mg base N_21 "_law_depth" (defScope (top 28)) (ad 21) cdv A outer s H E) (fun c d _ H => E c d H) := takes_of rfl rfl rfl rfl
  exact (sm_cons (sm_set pm_int (fun h => ps_set (i := 1) sc_21.nd rfl (Or.inl rfl) h))
      (sm_cons (sm_for (ps_for (passes_of rfl) rfl (im_seq rfl (pm_slice sl_any s_sl (pm_var 0 (pv 0)) (om_some pm_int) om_none)) (gm_name (pg_name (i := 2) sc_21.nd rfl (Or.inl rfl)))
      (sm_one (sm_if (tm_val (pm_isi rfl (pe_callB call_isi (by rfl) T.z_isinstance PyProof.Rows.boot_isinstance (pa_cons (pm_var 2 (pv 2)) (pa_cons (pe_bltn (by rfl) T.z_tuple PyProof.Rows.boot_tuple rfl) pa_nil)))))
      (sm_one (sm_set (pm_cb s_max2 (pe_callB (call_max2 rfl) (by rfl) T.z_max PyProof.Rows.boot_max (am_cons (pm_var 1 (pv 1)) (am_cons (pm_call fn_len_21 (pe_callS IH.f21 hr rfl T.m21 T.F21.kp T.b21 (fun σ => passAt tk σ) (am_cons (pm_var 2 (pv 2)) am_nil))) am_nil)))) (fun h => ps_set (i := 1) sc_21.nd rfl (Or.inl rfl) h)))
      sm_nil))))
      (sm_one (sm_ret (pm_op op_plus s_plus (pm_var 1 (pv 1)) pm_int)))))
theorem d_22 (T : Txt G.K w mg ad fd) (IH : All G M P w mg base ad fd k) : FnOk P w G.K mg base (L2.CX P w) (k + 1) (ad 22) (fd 22) ["tree", "waits"] (spF G 2 (fn M (k + 1) 22)) := by
  refine fn_okF (N := N_22) (m := b_22 (fn M k) M) T.F22 sc_22 fun cdv A outer s H E hr => ?_
  have tk : Takes (cxOf (L2.CX P w) P w G.K mg base N_22 "_law_waits" (defScope (top 29)) (ad 22) cdv A outer s H E) (fun c d _ H => E c d H) := takes_of rfl rfl rfl rfl
  exact (sm_cons (sm_for (ps_for (passes_of rfl) rfl (im_seq rfl (pm_slice sl_any s_sl (pm_var 0 (pv 0)) (om_some pm_int) om_none)) (gm_name (pg_name (i := 2) sc_22.nd rfl (Or.inl rfl)))
      (sm_one (sm_if (tm_val (pm_isi rfl (pe_callB call_isi (by rfl) T.z_isinstance PyProof.Rows.boot_isinstance (pa_cons (pm_var 2 (pv 2)) (pa_cons (pe_bltn (by rfl) T.z_tuple PyProof.Rows.boot_tuple rfl) pa_nil)))))
      (sm_one (sm_set (pm_call fn_len_22 (pe_callS IH.f22 hr rfl T.m22 T.F22.kp T.b22 (fun σ => passAt tk σ) (am_cons (pm_var 2 (pv 2)) (am_cons (pm_var 1 (pv 1)) am_nil)))) (fun h => ps_set (i := 1) sc_22.nd rfl (Or.inl rfl) h)))
      sm_nil))))
      (sm_cons (sm_if (tm_bool (wm_and (tm_cmp op_inA s_in (pm_ix ix_seq s_ix (pm_var 0 (pv 0)) pm_int) (pm_tup (am_cons pm_str (am_cons pm_str (am_cons pm_str (am_cons pm_str (am_cons pm_str (am_cons pm_str (am_cons pm_str am_nil))))))))) (wm_and1 (tm_cmp (op_ninDD (units65 hr)) s_inDD (pm_var 0 (pv 0)) (pm_var 1 (pv 1))))))
      (sm_one (sm_ret (pm_op op_plus s_plus (pm_var 1 (pv 1)) (pm_lst (am_cons (pm_var 0 (pv 0)) am_nil)))))
      sm_nil)
      (sm_one (sm_ret (pm_var 1 (pv 1))))))
theorem d_23 (T : Txt G.K w mg ad fd) (IH : All G M P w mg base ad fd k) : FnOk P w G.K mg base (L2.CX P w) (k + 1) (ad 23) (fd 23) ["tree"] (spF G 1 (fn M (k + 1) 23)) := by
  refine fn_okF (N := N_23) (m := b_23 (fn M k) M) T.F23 sc_23 fun cdv A outer s H E hr => ?_
  have tk : Takes (cxOf (L2.CX P w) P w G.K mg base N_23 "_law_constants" (defScope (top 30)) (ad 23) cdv A outer s H E) (fun c d _ H => E c d H) := takes_of rfl rfl rfl rfl
  exact (sm_cons (sm_if (tm_cmp op_inA s_in (pm_ix ix_seq s_ix (pm_var 0 (pv 0)) pm_int) (pm_tup (am_cons pm_str (am_cons pm_str (am_cons pm_str am_nil)))))
      (sm_one (sm_ret pm_int))
      sm_nil)
      (sm_cons (sm_set (pm_cb s_int1 (pe_callTy call_int1 (by rfl) T.z_int PyProof.Rows.boot_int (am_cons (pm_cmp op_inA s_in (pm_ix ix_seq s_ix (pm_var 0 (pv 0)) pm_int) (pm_tup (am_cons pm_str (am_cons pm_str am_nil)))) am_nil))) (fun h => ps_set (i := 1) sc_23.nd rfl (Or.inl rfl) h))
      (sm_cons (sm_for (ps_for (passes_of rfl) rfl (im_seq rfl (pm_slice sl_any s_sl (pm_var 0 (pv 0)) (om_some pm_int) om_none)) (gm_name (pg_name (i := 2) sc_23.nd rfl (Or.inl rfl)))
      (sm_one (sm_set (pm_op op_plus s_plus (pm_var 1 (pv 1)) (pm_call fn_len_23 (pe_callS IH.f23 hr rfl T.m23 T.F23.kp T.b23 (fun σ => passAt tk σ) (am_cons (pm_var 2 (pv 2)) am_nil)))) (fun h => ps_set (i := 1) sc_23.nd rfl (Or.inl rfl) h)))))
      (sm_one (sm_ret (pm_var 1 (pv 1)))))))
theorem d_24 (T : Txt G.K w mg ad fd) (IH : All G M P w mg base ad fd k) : FnOk P w G.K mg base (L2.CX P w) (k + 1) (ad 24) (fd 24) ["answer", "formula"] (spF G 2 (fn M (k + 1) 24)) := by
  refine fn_okF (N := N_24) (m := b_24 (fn M k) M) T.F24 sc_24 fun cdv A outer s H E hr => ?_
  have tk : Takes (cxOf (L2.CX P w) P w G.K mg base N_24 "_law_shrunk" (defScope (top 31)) (ad 24) cdv A outer s H E) (fun c d _ H => E c d H) := takes_of rfl rfl rfl rfl
  exact (sm_cons (sm_if (tm_bool (wm_or (tm_not (tm_val (pm_call fn_len_14 (pe_callS IH.f14 hr rfl T.m14 T.F14.kp T.b14 (fun σ => passAt tk σ) (am_cons (pm_var 0 (pv 0)) (am_cons (pm_call fn_len_13 (pe_callS IH.f13 hr rfl T.m13 T.F13.kp T.b13 (fun σ => passAt tk σ) (am_cons (pm_var 1 (pv 1)) am_nil))) am_nil)))))) (wm_or1 (tm_cmp op_gt s_gt (pm_call fn_len_12 (pe_callS IH.f12 hr rfl T.m12 T.F12.kp T.b12 (fun σ => passAt tk σ) (am_cons (pm_var 0 (pv 0)) am_nil))) (pm_call fn_len_12 (pe_callS IH.f12 hr rfl T.m12 T.F12.kp T.b12 (fun σ => passAt tk σ) (am_cons (pm_var 1 (pv 1)) am_nil))) (nomark _)))))
      (sm_one (sm_ret pm_bl))
      sm_nil)
      (sm_cons (sm_if (tm_bool (wm_or (tm_cmp op_gt s_gt (pm_call fn_len_21 (pe_callS IH.f21 hr rfl T.m21 T.F21.kp T.b21 (fun σ => passAt tk σ) (am_cons (pm_var 0 (pv 0)) am_nil))) (pm_call fn_len_21 (pe_callS IH.f21 hr rfl T.m21 T.F21.kp T.b21 (fun σ => passAt tk σ) (am_cons (pm_var 1 (pv 1)) am_nil))) (nomark _)) (wm_or1 (tm_cmp op_gt s_gt (pm_cb s_len (pe_callB call_lenA (by rfl) T.z_len PySem.boot_len (am_cons (pm_call fn_len_22 (pe_callS IH.f22 hr rfl T.m22 T.F22.kp T.b22 (fun σ => passAt tk σ) (am_cons (pm_var 0 (pv 0)) (am_cons (pm_lst am_nil) am_nil)))) am_nil))) (pm_cb s_len (pe_callB call_lenA (by rfl) T.z_len PySem.boot_len (am_cons (pm_call fn_len_22 (pe_callS IH.f22 hr rfl T.m22 T.F22.kp T.b22 (fun σ => passAt tk σ) (am_cons (pm_var 1 (pv 1)) (am_cons (pm_lst am_nil) am_nil)))) am_nil))) (nomark _)))))
      (sm_one (sm_ret pm_bl))
      sm_nil)
      (sm_one (sm_ret (pm_or (pm_cmp op_eq s_eq (pm_call fn_len_23 (pe_callS IH.f23 hr rfl T.m23 T.F23.kp T.b23 (fun σ => passAt tk σ) (am_cons (pm_var 0 (pv 0)) am_nil))) pm_int (nomark _)) (pm_one (pm_cmp op_eq s_eq (pm_cb s_len (pe_callB call_lenA (by rfl) T.z_len PySem.boot_len (am_cons (pm_var 0 (pv 0)) am_nil))) pm_int (nomark _))))))))
theorem d_25 (T : Txt G.K w mg ad fd) (IH : All G M P w mg base ad fd k) : FnOk P w G.K mg base (L2.CX P w) (k + 1) (ad 25) (fd 25) ["script"] (spF G 1 (fn M (k + 1) 25)) := by
  refine fn_okF (N := N_25) (m := b_25 (fn M k) M) T.F25 sc_25 fun cdv A outer s H E hr => ?_
  have tk : Takes (cxOf (L2.CX P w) P w G.K mg base N_25 "law" (defScope (top 32)) (ad 25) cdv A outer s H E) (fun c d _ H => E c d H) := takes_of rfl rfl rfl rfl
  exact (sm_cons (sm_set (pm_call fn_len_7 (pe_callS IH.f7 hr rfl T.m7 T.F7.kp T.b7 (fun σ => passAt tk σ) (am_cons (pm_call fn_len_4 (pe_callS IH.f4 hr rfl T.m4 T.F4.kp T.b4 (fun σ => passAt tk σ) (am_cons (pm_var 0 (pv 0)) (am_cons pm_int am_nil)))) (am_cons pm_int am_nil)))) (fun h => ps_set (i := 1) sc_25.nd rfl (Or.inl rfl) h))
      (sm_cons (sm_set (pm_op op_mod s_mod (pm_cb s_int1 (pe_callTy call_int1 (by rfl) T.z_int PyProof.Rows.boot_int (am_cons (pm_call fn_len_4 (pe_callS IH.f4 hr rfl T.m4 T.F4.kp T.b4 (fun σ => passAt tk σ) (am_cons (pm_var 0 (pv 0)) (am_cons pm_int am_nil)))) am_nil))) (pm_op op_sub s_sub (pm_op op_pow s_pow pm_int pm_int) pm_int)) (fun h => ps_set (i := 2) sc_25.nd rfl (Or.inl rfl) h))
      (sm_cons (sm_set (pm_op op_mod s_mod (pm_cb s_int1 (pe_callTy call_int1 (by rfl) T.z_int PyProof.Rows.boot_int (am_cons (pm_call fn_len_4 (pe_callS IH.f4 hr rfl T.m4 T.F4.kp T.b4 (fun σ => passAt tk σ) (am_cons (pm_var 0 (pv 0)) (am_cons pm_int am_nil)))) am_nil))) pm_int) (fun h => ps_set (i := 3) sc_25.nd rfl (Or.inl rfl) h))
      (sm_cons (sm_set (pm_call fn_len_5 (pe_callS IH.f5 hr rfl T.m5 T.F5.kp T.b5 (fun σ => passAt tk σ) (am_cons (pm_var 0 (pv 0)) (am_cons pm_int (am_cons (pm_op op_times s_times pm_int (pm_call fn_len_6 (pe_callS IH.f6 hr rfl T.m6 T.F6.kp T.b6 (fun σ => passAt tk σ) (am_cons (pm_call fn_len_4 (pe_callS IH.f4 hr rfl T.m4 T.F4.kp T.b4 (fun σ => passAt tk σ) (am_cons (pm_var 0 (pv 0)) (am_cons pm_int am_nil)))) am_nil)))) am_nil))))) (fun h => ps_set (i := 4) sc_25.nd rfl (Or.inl rfl) h))
      (sm_cons (sm_set (pm_call fn_len_10 (pe_callS IH.f10 hr rfl T.m10 T.F10.kp T.b10 (fun σ => passAt tk σ) (am_cons (pm_var 4 (pv 4)) (am_cons (pm_var 1 (pv 1)) (am_cons (pm_var 2 (pv 2)) (am_cons (pm_cmp op_eq s_eq (pm_op op_fdiv s_fdiv (pm_var 3 (pv 3)) pm_int) pm_int (nomark _)) (am_cons (pm_ix ix_seq s_ix (pm_lst (am_cons pm_int (am_cons pm_int (am_cons pm_int (am_cons pm_int am_nil))))) (pm_op op_mod s_mod (pm_var 3 (pv 3)) pm_int)) am_nil))))))) (fun h => ps_set (i := 5) sc_25.nd rfl (Or.inl rfl) h))
      (sm_cons (sm_set (pm_call fn_len_0 (pe_callS IH.f0 hr rfl T.m0 T.F0.kp T.b0 (fun σ => passAt tk σ) (am_cons (pm_var 5 (pv 5)) am_nil))) (fun h => ps_set (i := 6) sc_25.nd rfl (Or.inl rfl) h))
      (sm_cons (sm_if (tm_not (tm_val (pm_call fn_len_24 (pe_callS IH.f24 hr rfl T.m24 T.F24.kp T.b24 (fun σ => passAt tk σ) (am_cons (pm_var 6 (pv 6)) (am_cons (pm_var 5 (pv 5)) am_nil))))))
      (sm_one (sm_ret pm_bl))
      sm_nil)
      (sm_cons (sm_set (pm_call fn_len_0 (pe_callS IH.f0 hr rfl T.m0 T.F0.kp T.b0 (fun σ => passAt tk σ) (am_cons (pm_var 6 (pv 6)) am_nil))) (fun h => ps_set (i := 7) sc_25.nd rfl (Or.inl rfl) h))
      (sm_cons (sm_if (tm_not (tm_val (pm_call fn_len_24 (pe_callS IH.f24 hr rfl T.m24 T.F24.kp T.b24 (fun σ => passAt tk σ) (am_cons (pm_var 7 (pv 7)) (am_cons (pm_var 6 (pv 6)) am_nil))))))
      (sm_one (sm_ret pm_bl))
      sm_nil)
      (sm_cons (sm_if (tm_cmp op_eq s_eq (pm_cb s_len (pe_callB call_lenA (by rfl) T.z_len PySem.boot_len (am_cons (pm_call fn_len_13 (pe_callS IH.f13 hr rfl T.m13 T.F13.kp T.b13 (fun σ => passAt tk σ) (am_cons (pm_var 5 (pv 5)) am_nil))) am_nil))) pm_int (nomark _))
      (sm_cons (sm_set (pm_call fn_len_20 (pe_callS IH.f20 hr rfl T.m20 T.F20.kp T.b20 (fun σ => passAt tk σ) (am_cons (pm_var 5 (pv 5)) (am_cons (pm_var 1 (pv 1)) (am_cons (pm_lst (am_cons (pm_tup (am_cons pm_int (am_cons pm_int (am_cons pm_int am_nil)))) am_nil)) (am_cons pm_int am_nil)))))) (fun h => ps_set (i := 8) sc_25.nd rfl (Or.inl rfl) h))
      (sm_one (sm_ret (pm_and (pm_cmp (op_eqA hr.units) s_eqA (pm_ix ix_seq s_ix (pm_var 6 (pv 6)) pm_int) (pm_ix ix_seq s_ix (pm_lst (am_cons pm_str (am_cons pm_str am_nil))) (pm_cb s_int1 (pe_callTy call_int1 (by rfl) T.z_int PyProof.Rows.boot_int (am_cons (pm_ix ix_seq s_ix (pm_var 8 (pv 8)) pm_int) am_nil)))) (nomark _)) (pm_one (pm_cmp (op_eqA hr.units) s_eqA (pm_var 7 (pv 7)) (pm_var 6 (pv 6)) (nomark _)))))))
      sm_nil)
      (sm_one (sm_ret pm_bl))))))))))))
theorem all (T : Txt G.K w mg ad fd) : ∀ k, All G M P w mg base ad fd k
  | 0 => ⟨fn_zero fun _ _ => rfl, fn_zero fun _ _ => rfl, fn_zero fun _ _ => rfl, fn_zero fun _ _ => rfl, fn_zero fun _ _ => rfl, fn_zero fun _ _ => rfl, fn_zero fun _ _ => rfl, fn_zero fun _ _ => rfl, fn_zero fun _ _ => rfl, fn_zero fun _ _ => rfl, fn_zero fun _ _ => rfl, fn_zero fun _ _ => rfl, fn_zero fun _ _ => rfl, fn_zero fun _ _ => rfl, fn_zero fun _ _ => rfl, fn_zero fun _ _ => rfl, fn_zero fun _ _ => rfl, fn_zero fun _ _ => rfl, fn_zero fun _ _ => rfl, fn_zero fun _ _ => rfl, fn_zero fun _ _ => rfl, fn_zero fun _ _ => rfl, fn_zero fun _ _ => rfl, fn_zero fun _ _ => rfl, fn_zero fun _ _ => rfl, fn_zero fun _ _ => rfl⟩
  | k + 1 => have IH := all T k; ⟨d_0 T IH, d_1 T IH, d_2 T IH, d_3 T IH, d_4 T IH, d_5 T IH, d_6 T IH, d_7 T IH, d_8 T IH, d_9 T IH, d_10 T IH, d_11 T IH, d_12 T IH, d_13 T IH, d_14 T IH, d_15 T IH, d_16 T IH, d_17 T IH, d_18 T IH, d_19 T IH, d_20 T IH, d_21 T IH, d_22 T IH, d_23 T IH, d_24 T IH, d_25 T IH⟩
end
theorem all_mk {l : PySem.W.OpenLaw} {w : World} {K : PySem.W.Frag} {h : Heap} {mg : Str → Option Value} {fa : Addr} {cad : Nat → Addr} {M dep : Nat} (X : K.In h) (Gn : h.Ns mainGlobals mg) (hfa : mg "law" = some (.ref fa))
    {f0 f1 f2 f3 f4 f5 f6 f7 f8 f9 f10 f11 f12 f13 f14 f15 f16 f17 f18 f19 f20 f21 f22 f23 f24 f25 : Addr} {od0 od1 od2 od3 od4 od5 od6 od7 od8 od9 od10 od11 od12 od13 od14 od15 od16 od17 od18 od19 od20 od21 od22 od23 od24 od25 an0 an1 an2 an3 an4 an5 an6 an7 an8 an9 an10 an11 an12 an13 an14 an15 an16 an17 an18 an19 an20 an21 an22 an23 an24 an25 : Option Addr} {sl0 sl1 sl2 sl3 sl4 sl5 sl6 sl7 sl8 sl9 sl10 sl11 sl12 sl13 sl14 sl15 sl16 sl17 sl18 sl19 sl20 sl21 sl22 sl23 sl24 sl25 : Array (Option Value)} {oc0 oc1 oc2 oc3 oc4 oc5 oc6 oc7 oc8 oc9 oc10 oc11 oc12 oc13 oc14 oc15 oc16 oc17 oc18 oc19 oc20 oc21 oc22 oc23 oc24 oc25 kV0 kV1 kV2 kV3 kV4 kV5 kV6 kV7 kV8 kV9 kV10 kV11 kV12 kV13 kV14 kV15 kV16 kV17 kV18 kV19 kV20 kV21 kV22 kV23 kV24 kV25 dc0 dc1 dc2 dc3 dc4 dc5 dc6 dc7 dc8 dc9 dc10 dc11 dc12 dc13 dc14 dc15 dc16 dc17 dc18 dc19 dc20 dc21 dc22 dc23 dc24 dc25 pm0 pm1 pm2 pm3 pm4 pm5 pm6 pm7 pm8 pm9 pm10 pm11 pm12 pm13 pm14 pm15 pm16 pm17 pm18 pm19 pm20 pm21 pm22 pm23 pm24 pm25 cd0 cd1 cd2 cd3 cd4 cd5 cd6 cd7 cd8 cd9 cd10 cd11 cd12 cd13 cd14 cd15 cd16 cd17 cd18 cd19 cd20 cd21 cd22 cd23 cd24 cd25 ct0 ct1 ct2 ct3 ct4 ct5 ct6 ct7 ct8 ct9 ct10 ct11 ct12 ct13 ct14 ct15 ct16 ct17 ct18 ct19 ct20 ct21 ct22 ct23 ct24 ct25 : Value}
    {t_COMPARISONS : Addr} {to_COMPARISONS : Option Addr} {ti_COMPARISONS : Array Value} {tn_COMPARISONS : Nat} {ts_COMPARISONS : Array (Option Value)}
    {t_LEFT_TRUE : Addr} {es_LEFT_TRUE : Array DictEntry} {en_LEFT_TRUE : Nat}
    {t_LEFT_FALSE : Addr} {es_LEFT_FALSE : Array DictEntry} {en_LEFT_FALSE : Nat}
    {t_RIGHT_TRUE : Addr} {es_RIGHT_TRUE : Array DictEntry} {en_RIGHT_TRUE : Nat}
    {t_RIGHT_FALSE : Addr} {es_RIGHT_FALSE : Array DictEntry} {en_RIGHT_FALSE : Nat}
    (a0 : PySem.W.nsIn K mainGlobals "shrink" = some (some (.ref f0)))
    (l0 : K.lookup f0 = some ⟨oc0, od0, .func (PySem.W.fnOf "shrink" "shrink" (defArgs (top 6)) (defBody (top 6)) (defScope (top 6)) .none kV0 dc0 pm0 an0 cd0 ct0), sl0⟩)
    (c0 : PySem.W.codeIn K cd0 "shrink" = true)
    (k0 : PySem.W.keepIn K (.ref f0) = true)
    (a1 : PySem.W.nsIn K mainGlobals "shrunk_one" = some (some (.ref f1)))
    (l1 : K.lookup f1 = some ⟨oc1, od1, .func (PySem.W.fnOf "shrunk_one" "shrunk_one" (defArgs (top 7)) (defBody (top 7)) (defScope (top 7)) .none kV1 dc1 pm1 an1 cd1 ct1), sl1⟩)
    (c1 : PySem.W.codeIn K cd1 "shrunk_one" = true)
    (k1 : PySem.W.keepIn K (.ref f1) = true)
    (a2 : PySem.W.nsIn K mainGlobals "shrunk_two" = some (some (.ref f2)))
    (l2 : K.lookup f2 = some ⟨oc2, od2, .func (PySem.W.fnOf "shrunk_two" "shrunk_two" (defArgs (top 8)) (defBody (top 8)) (defScope (top 8)) .none kV2 dc2 pm2 an2 cd2 ct2), sl2⟩)
    (c2 : PySem.W.codeIn K cd2 "shrunk_two" = true)
    (k2 : PySem.W.keepIn K (.ref f2) = true)
    (a3 : PySem.W.nsIn K mainGlobals "shrunk_rest" = some (some (.ref f3)))
    (l3 : K.lookup f3 = some ⟨oc3, od3, .func (PySem.W.fnOf "shrunk_rest" "shrunk_rest" (defArgs (top 9)) (defBody (top 9)) (defScope (top 9)) .none kV3 dc3 pm3 an3 cd3 ct3), sl3⟩)
    (c3 : PySem.W.codeIn K cd3 "shrunk_rest" = true)
    (k3 : PySem.W.keepIn K (.ref f3) = true)
    (a4 : PySem.W.nsIn K mainGlobals "_law_cell" = some (some (.ref f4)))
    (l4 : K.lookup f4 = some ⟨oc4, od4, .func (PySem.W.fnOf "_law_cell" "_law_cell" (defArgs (top 11)) (defBody (top 11)) (defScope (top 11)) .none kV4 dc4 pm4 an4 cd4 ct4), sl4⟩)
    (c4 : PySem.W.codeIn K cd4 "_law_cell" = true)
    (k4 : PySem.W.keepIn K (.ref f4) = true)
    (a5 : PySem.W.nsIn K mainGlobals "_law_draws" = some (some (.ref f5)))
    (l5 : K.lookup f5 = some ⟨oc5, od5, .func (PySem.W.fnOf "_law_draws" "_law_draws" (defArgs (top 12)) (defBody (top 12)) (defScope (top 12)) .none kV5 dc5 pm5 an5 cd5 ct5), sl5⟩)
    (c5 : PySem.W.codeIn K cd5 "_law_draws" = true)
    (k5 : PySem.W.keepIn K (.ref f5) = true)
    (a6 : PySem.W.nsIn K mainGlobals "_law_many" = some (some (.ref f6)))
    (l6 : K.lookup f6 = some ⟨oc6, od6, .func (PySem.W.fnOf "_law_many" "_law_many" (defArgs (top 13)) (defBody (top 13)) (defScope (top 13)) .none kV6 dc6 pm6 an6 cd6 ct6), sl6⟩)
    (c6 : PySem.W.codeIn K cd6 "_law_many" = true)
    (k6 : PySem.W.keepIn K (.ref f6) = true)
    (a7 : PySem.W.nsIn K mainGlobals "_law_names" = some (some (.ref f7)))
    (l7 : K.lookup f7 = some ⟨oc7, od7, .func (PySem.W.fnOf "_law_names" "_law_names" (defArgs (top 14)) (defBody (top 14)) (defScope (top 14)) .none kV7 dc7 pm7 an7 cd7 ct7), sl7⟩)
    (c7 : PySem.W.codeIn K cd7 "_law_names" = true)
    (k7 : PySem.W.keepIn K (.ref f7) = true)
    (a8 : PySem.W.nsIn K mainGlobals "_law_term" = some (some (.ref f8)))
    (l8 : K.lookup f8 = some ⟨oc8, od8, .func (PySem.W.fnOf "_law_term" "_law_term" (defArgs (top 15)) (defBody (top 15)) (defScope (top 15)) .none kV8 dc8 pm8 an8 cd8 ct8), sl8⟩)
    (c8 : PySem.W.codeIn K cd8 "_law_term" = true)
    (k8 : PySem.W.keepIn K (.ref f8) = true)
    (a9 : PySem.W.nsIn K mainGlobals "_law_leaf" = some (some (.ref f9)))
    (l9 : K.lookup f9 = some ⟨oc9, od9, .func (PySem.W.fnOf "_law_leaf" "_law_leaf" (defArgs (top 16)) (defBody (top 16)) (defScope (top 16)) .none kV9 dc9 pm9 an9 cd9 ct9), sl9⟩)
    (c9 : PySem.W.codeIn K cd9 "_law_leaf" = true)
    (k9 : PySem.W.keepIn K (.ref f9) = true)
    (a10 : PySem.W.nsIn K mainGlobals "_law_formula" = some (some (.ref f10)))
    (l10 : K.lookup f10 = some ⟨oc10, od10, .func (PySem.W.fnOf "_law_formula" "_law_formula" (defArgs (top 17)) (defBody (top 17)) (defScope (top 17)) .none kV10 dc10 pm10 an10 cd10 ct10), sl10⟩)
    (c10 : PySem.W.codeIn K cd10 "_law_formula" = true)
    (k10 : PySem.W.keepIn K (.ref f10) = true)
    (a11 : PySem.W.nsIn K mainGlobals "_law_same" = some (some (.ref f11)))
    (l11 : K.lookup f11 = some ⟨oc11, od11, .func (PySem.W.fnOf "_law_same" "_law_same" (defArgs (top 18)) (defBody (top 18)) (defScope (top 18)) .none kV11 dc11 pm11 an11 cd11 ct11), sl11⟩)
    (c11 : PySem.W.codeIn K cd11 "_law_same" = true)
    (k11 : PySem.W.keepIn K (.ref f11) = true)
    (a12 : PySem.W.nsIn K mainGlobals "_law_size" = some (some (.ref f12)))
    (l12 : K.lookup f12 = some ⟨oc12, od12, .func (PySem.W.fnOf "_law_size" "_law_size" (defArgs (top 19)) (defBody (top 19)) (defScope (top 19)) .none kV12 dc12 pm12 an12 cd12 ct12), sl12⟩)
    (c12 : PySem.W.codeIn K cd12 "_law_size" = true)
    (k12 : PySem.W.keepIn K (.ref f12) = true)
    (a13 : PySem.W.nsIn K mainGlobals "_law_found" = some (some (.ref f13)))
    (l13 : K.lookup f13 = some ⟨oc13, od13, .func (PySem.W.fnOf "_law_found" "_law_found" (defArgs (top 20)) (defBody (top 20)) (defScope (top 20)) .none kV13 dc13 pm13 an13 cd13 ct13), sl13⟩)
    (c13 : PySem.W.codeIn K cd13 "_law_found" = true)
    (k13 : PySem.W.keepIn K (.ref f13) = true)
    (a14 : PySem.W.nsIn K mainGlobals "_law_good" = some (some (.ref f14)))
    (l14 : K.lookup f14 = some ⟨oc14, od14, .func (PySem.W.fnOf "_law_good" "_law_good" (defArgs (top 21)) (defBody (top 21)) (defScope (top 21)) .none kV14 dc14 pm14 an14 cd14 ct14), sl14⟩)
    (c14 : PySem.W.codeIn K cd14 "_law_good" = true)
    (k14 : PySem.W.keepIn K (.ref f14) = true)
    (a15 : PySem.W.nsIn K mainGlobals "_law_value" = some (some (.ref f15)))
    (l15 : K.lookup f15 = some ⟨oc15, od15, .func (PySem.W.fnOf "_law_value" "_law_value" (defArgs (top 22)) (defBody (top 22)) (defScope (top 22)) .none kV15 dc15 pm15 an15 cd15 ct15), sl15⟩)
    (c15 : PySem.W.codeIn K cd15 "_law_value" = true)
    (k15 : PySem.W.keepIn K (.ref f15) = true)
    (a16 : PySem.W.nsIn K mainGlobals "_law_holds" = some (some (.ref f16)))
    (l16 : K.lookup f16 = some ⟨oc16, od16, .func (PySem.W.fnOf "_law_holds" "_law_holds" (defArgs (top 23)) (defBody (top 23)) (defScope (top 23)) .none kV16 dc16 pm16 an16 cd16 ct16), sl16⟩)
    (c16 : PySem.W.codeIn K cd16 "_law_holds" = true)
    (k16 : PySem.W.keepIn K (.ref f16) = true)
    (a17 : PySem.W.nsIn K mainGlobals "_law_after" = some (some (.ref f17)))
    (l17 : K.lookup f17 = some ⟨oc17, od17, .func (PySem.W.fnOf "_law_after" "_law_after" (defArgs (top 24)) (defBody (top 24)) (defScope (top 24)) .none kV17 dc17 pm17 an17 cd17 ct17), sl17⟩)
    (c17 : PySem.W.codeIn K cd17 "_law_after" = true)
    (k17 : PySem.W.keepIn K (.ref f17) = true)
    (a18 : PySem.W.nsIn K mainGlobals "_law_walk" = some (some (.ref f18)))
    (l18 : K.lookup f18 = some ⟨oc18, od18, .func (PySem.W.fnOf "_law_walk" "_law_walk" (defArgs (top 25)) (defBody (top 25)) (defScope (top 25)) .none kV18 dc18 pm18 an18 cd18 ct18), sl18⟩)
    (c18 : PySem.W.codeIn K cd18 "_law_walk" = true)
    (k18 : PySem.W.keepIn K (.ref f18) = true)
    (a19 : PySem.W.nsIn K mainGlobals "_law_temporal" = some (some (.ref f19)))
    (l19 : K.lookup f19 = some ⟨oc19, od19, .func (PySem.W.fnOf "_law_temporal" "_law_temporal" (defArgs (top 26)) (defBody (top 26)) (defScope (top 26)) .none kV19 dc19 pm19 an19 cd19 ct19), sl19⟩)
    (c19 : PySem.W.codeIn K cd19 "_law_temporal" = true)
    (k19 : PySem.W.keepIn K (.ref f19) = true)
    (a20 : PySem.W.nsIn K mainGlobals "_law_along" = some (some (.ref f20)))
    (l20 : K.lookup f20 = some ⟨oc20, od20, .func (PySem.W.fnOf "_law_along" "_law_along" (defArgs (top 27)) (defBody (top 27)) (defScope (top 27)) .none kV20 dc20 pm20 an20 cd20 ct20), sl20⟩)
    (c20 : PySem.W.codeIn K cd20 "_law_along" = true)
    (k20 : PySem.W.keepIn K (.ref f20) = true)
    (a21 : PySem.W.nsIn K mainGlobals "_law_depth" = some (some (.ref f21)))
    (l21 : K.lookup f21 = some ⟨oc21, od21, .func (PySem.W.fnOf "_law_depth" "_law_depth" (defArgs (top 28)) (defBody (top 28)) (defScope (top 28)) .none kV21 dc21 pm21 an21 cd21 ct21), sl21⟩)
    (c21 : PySem.W.codeIn K cd21 "_law_depth" = true)
    (k21 : PySem.W.keepIn K (.ref f21) = true)
    (a22 : PySem.W.nsIn K mainGlobals "_law_waits" = some (some (.ref f22)))
    (l22 : K.lookup f22 = some ⟨oc22, od22, .func (PySem.W.fnOf "_law_waits" "_law_waits" (defArgs (top 29)) (defBody (top 29)) (defScope (top 29)) .none kV22 dc22 pm22 an22 cd22 ct22), sl22⟩)
    (c22 : PySem.W.codeIn K cd22 "_law_waits" = true)
    (k22 : PySem.W.keepIn K (.ref f22) = true)
    (a23 : PySem.W.nsIn K mainGlobals "_law_constants" = some (some (.ref f23)))
    (l23 : K.lookup f23 = some ⟨oc23, od23, .func (PySem.W.fnOf "_law_constants" "_law_constants" (defArgs (top 30)) (defBody (top 30)) (defScope (top 30)) .none kV23 dc23 pm23 an23 cd23 ct23), sl23⟩)
    (c23 : PySem.W.codeIn K cd23 "_law_constants" = true)
    (k23 : PySem.W.keepIn K (.ref f23) = true)
    (a24 : PySem.W.nsIn K mainGlobals "_law_shrunk" = some (some (.ref f24)))
    (l24 : K.lookup f24 = some ⟨oc24, od24, .func (PySem.W.fnOf "_law_shrunk" "_law_shrunk" (defArgs (top 31)) (defBody (top 31)) (defScope (top 31)) .none kV24 dc24 pm24 an24 cd24 ct24), sl24⟩)
    (c24 : PySem.W.codeIn K cd24 "_law_shrunk" = true)
    (k24 : PySem.W.keepIn K (.ref f24) = true)
    (a25 : PySem.W.nsIn K mainGlobals "law" = some (some (.ref f25)))
    (l25 : K.lookup f25 = some ⟨oc25, od25, .func (PySem.W.fnOf "law" "law" (defArgs (top 32)) (defBody (top 32)) (defScope (top 32)) .none kV25 dc25 pm25 an25 cd25 ct25), sl25⟩)
    (c25 : PySem.W.codeIn K cd25 "law" = true)
    (k25 : PySem.W.keepIn K (.ref f25) = true)
    (z_bool : PySem.W.nsIn K mainGlobals "bool" = some none)
    (z_int : PySem.W.nsIn K mainGlobals "int" = some none)
    (z_isinstance : PySem.W.nsIn K mainGlobals "isinstance" = some none)
    (z_len : PySem.W.nsIn K mainGlobals "len" = some none)
    (z_list : PySem.W.nsIn K mainGlobals "list" = some none)
    (z_max : PySem.W.nsIn K mainGlobals "max" = some none)
    (z_min : PySem.W.nsIn K mainGlobals "min" = some none)
    (z_range : PySem.W.nsIn K mainGlobals "range" = some none)
    (z_str : PySem.W.nsIn K mainGlobals "str" = some none)
    (z_tuple : PySem.W.nsIn K mainGlobals "tuple" = some none)
    (g_COMPARISONS : PySem.W.nsIn K mainGlobals "COMPARISONS" = some (some (.ref t_COMPARISONS)))
    (h_COMPARISONS : K.lookup t_COMPARISONS = some ⟨.type "tuple", to_COMPARISONS, .seq ti_COMPARISONS tn_COMPARISONS, ts_COMPARISONS⟩)
    (v_COMPARISONS : Vals ([("equal" : Str), ("below" : Str), ("upto" : Str)].map V.str) ti_COMPARISONS.toList)
    (n_COMPARISONS : ti_COMPARISONS.size ≤ 1000)
    (g_LEFT_TRUE : PySem.W.nsIn K mainGlobals "LEFT_TRUE" = some (some (.ref t_LEFT_TRUE)))
    (h_LEFT_TRUE : K.lookup t_LEFT_TRUE = some ⟨.type "dict", none, .dict es_LEFT_TRUE en_LEFT_TRUE, #[]⟩)
    (l_LEFT_TRUE : PySem.W.KeysLit w.params es_LEFT_TRUE.toList)
    (e_LEFT_TRUE : KEnts K k_LEFT_TRUE es_LEFT_TRUE.toList)
    (o_LEFT_TRUE : (t_LEFT_TRUE == sysModules) = false)
    (g_LEFT_FALSE : PySem.W.nsIn K mainGlobals "LEFT_FALSE" = some (some (.ref t_LEFT_FALSE)))
    (h_LEFT_FALSE : K.lookup t_LEFT_FALSE = some ⟨.type "dict", none, .dict es_LEFT_FALSE en_LEFT_FALSE, #[]⟩)
    (l_LEFT_FALSE : PySem.W.KeysLit w.params es_LEFT_FALSE.toList)
    (e_LEFT_FALSE : KEnts K k_LEFT_FALSE es_LEFT_FALSE.toList)
    (o_LEFT_FALSE : (t_LEFT_FALSE == sysModules) = false)
    (g_RIGHT_TRUE : PySem.W.nsIn K mainGlobals "RIGHT_TRUE" = some (some (.ref t_RIGHT_TRUE)))
    (h_RIGHT_TRUE : K.lookup t_RIGHT_TRUE = some ⟨.type "dict", none, .dict es_RIGHT_TRUE en_RIGHT_TRUE, #[]⟩)
    (l_RIGHT_TRUE : PySem.W.KeysLit w.params es_RIGHT_TRUE.toList)
    (e_RIGHT_TRUE : KEnts K k_RIGHT_TRUE es_RIGHT_TRUE.toList)
    (o_RIGHT_TRUE : (t_RIGHT_TRUE == sysModules) = false)
    (g_RIGHT_FALSE : PySem.W.nsIn K mainGlobals "RIGHT_FALSE" = some (some (.ref t_RIGHT_FALSE)))
    (h_RIGHT_FALSE : K.lookup t_RIGHT_FALSE = some ⟨.type "dict", none, .dict es_RIGHT_FALSE en_RIGHT_FALSE, #[]⟩)
    (l_RIGHT_FALSE : PySem.W.KeysLit w.params es_RIGHT_FALSE.toList)
    (e_RIGHT_FALSE : KEnts K k_RIGHT_FALSE es_RIGHT_FALSE.toList)
    (o_RIGHT_FALSE : (t_RIGHT_FALSE == sysModules) = false)
    : ∃ fd : FuncData, (∀ (s : Shared) (v : Value), BindsTo s fd ⟨[v], []⟩ [("script", v)]) ∧ ∀ base : Heap, K.In base → base.Ns mainGlobals mg → FnOk l.prog w K mg base (L2.CX l.prog w) dep fa fd ["script"] (spF ⟨K, cad⟩ 1 (fn M dep 25)) := by
  have e := hfa.symm.trans (PySem.W.mg_of X Gn a25)
  cases e
  have F0 := fun_mk (st := (top 6)) l0 c0 k0
  have F1 := fun_mk (st := (top 7)) l1 c1 k1
  have F2 := fun_mk (st := (top 8)) l2 c2 k2
  have F3 := fun_mk (st := (top 9)) l3 c3 k3
  have F4 := fun_mk (st := (top 11)) l4 c4 k4
  have F5 := fun_mk (st := (top 12)) l5 c5 k5
  have F6 := fun_mk (st := (top 13)) l6 c6 k6
  have F7 := fun_mk (st := (top 14)) l7 c7 k7
  have F8 := fun_mk (st := (top 15)) l8 c8 k8
  have F9 := fun_mk (st := (top 16)) l9 c9 k9
  have F10 := fun_mk (st := (top 17)) l10 c10 k10
  have F11 := fun_mk (st := (top 18)) l11 c11 k11
  have F12 := fun_mk (st := (top 19)) l12 c12 k12
  have F13 := fun_mk (st := (top 20)) l13 c13 k13
  have F14 := fun_mk (st := (top 21)) l14 c14 k14
  have F15 := fun_mk (st := (top 22)) l15 c15 k15
  have F16 := fun_mk (st := (top 23)) l16 c16 k16
  have F17 := fun_mk (st := (top 24)) l17 c17 k17
  have F18 := fun_mk (st := (top 25)) l18 c18 k18
  have F19 := fun_mk (st := (top 26)) l19 c19 k19
  have F20 := fun_mk (st := (top 27)) l20 c20 k20
  have F21 := fun_mk (st := (top 28)) l21 c21 k21
  have F22 := fun_mk (st := (top 29)) l22 c22 k22
  have F23 := fun_mk (st := (top 30)) l23 c23 k23
  have F24 := fun_mk (st := (top 31)) l24 c24 k24
  have F25 := fun_mk (st := (top 32)) l25 c25 k25
  have b0 := F0.binds (ps := ["formula"]) fun _ _ _ _ _ _ us hl => match us, hl with | [_], _ => rfl
  have b1 := F1.binds (ps := ["word", "part"]) fun _ _ _ _ _ _ us hl => match us, hl with | [_, _], _ => rfl
  have b2 := F2.binds (ps := ["word", "left", "right"]) fun _ _ _ _ _ _ us hl => match us, hl with | [_, _, _], _ => rfl
  have b3 := F3.binds (ps := ["rest", "part"]) fun _ _ _ _ _ _ us hl => match us, hl with | [_, _], _ => rfl
  have b4 := F4.binds (ps := ["script", "k"]) fun _ _ _ _ _ _ us hl => match us, hl with | [_, _], _ => rfl
  have b5 := F5.binds (ps := ["script", "first", "count"]) fun _ _ _ _ _ _ us hl => match us, hl with | [_, _, _], _ => rfl
  have b6 := F6.binds (ps := ["cell"]) fun _ _ _ _ _ _ us hl => match us, hl with | [_], _ => rfl
  have b7 := F7.binds (ps := ["cell", "many"]) fun _ _ _ _ _ _ us hl => match us, hl with | [_, _], _ => rfl
  have b8 := F8.binds (ps := ["draw", "names", "great"]) fun _ _ _ _ _ _ us hl => match us, hl with | [_, _, _], _ => rfl
  have b9 := F9.binds (ps := ["one", "two", "names", "great", "few", "plain"]) fun _ _ _ _ _ _ us hl => match us, hl with | [_, _, _, _, _, _], _ => rfl
  have b10 := F10.binds (ps := ["draws", "names", "great", "few", "plain"]) fun _ _ _ _ _ _ us hl => match us, hl with | [_, _, _, _, _], _ => rfl
  have b11 := F11.binds (ps := ["actual", "expected"]) fun _ _ _ _ _ _ us hl => match us, hl with | [_, _], _ => rfl
  have b12 := F12.binds (ps := ["tree"]) fun _ _ _ _ _ _ us hl => match us, hl with | [_], _ => rfl
  have b13 := F13.binds (ps := ["tree"]) fun _ _ _ _ _ _ us hl => match us, hl with | [_], _ => rfl
  have b14 := F14.binds (ps := ["tree", "allowed"]) fun _ _ _ _ _ _ us hl => match us, hl with | [_, _], _ => rfl
  have b15 := F15.binds (ps := ["term", "names", "state"]) fun _ _ _ _ _ _ us hl => match us, hl with | [_, _, _], _ => rfl
  have b16 := F16.binds (ps := ["comparison", "names", "state"]) fun _ _ _ _ _ _ us hl => match us, hl with | [_, _, _], _ => rfl
  have b17 := F17.binds (ps := ["place", "back", "many"]) fun _ _ _ _ _ _ us hl => match us, hl with | [_, _, _], _ => rfl
  have b18 := F18.binds (ps := ["place", "back", "first", "second", "end"]) fun _ _ _ _ _ _ us hl => match us, hl with | [_, _, _, _, _], _ => rfl
  have b19 := F19.binds (ps := ["word", "first", "second", "back"]) fun _ _ _ _ _ _ us hl => match us, hl with | [_, _, _, _], _ => rfl
  have b20 := F20.binds (ps := ["tree", "names", "run", "back"]) fun _ _ _ _ _ _ us hl => match us, hl with | [_, _, _, _], _ => rfl
  have b21 := F21.binds (ps := ["tree"]) fun _ _ _ _ _ _ us hl => match us, hl with | [_], _ => rfl
  have b22 := F22.binds (ps := ["tree", "waits"]) fun _ _ _ _ _ _ us hl => match us, hl with | [_, _], _ => rfl
  have b23 := F23.binds (ps := ["tree"]) fun _ _ _ _ _ _ us hl => match us, hl with | [_], _ => rfl
  have b24 := F24.binds (ps := ["answer", "formula"]) fun _ _ _ _ _ _ us hl => match us, hl with | [_, _], _ => rfl
  have b25 := F25.binds (ps := ["script"]) fun _ _ _ _ _ _ us hl => match us, hl with | [_], _ => rfl
  let ad : Nat → Addr := fun i => match i with | 0 => f0 | 1 => f1 | 2 => f2 | 3 => f3 | 4 => f4 | 5 => f5 | 6 => f6 | 7 => f7 | 8 => f8 | 9 => f9 | 10 => f10 | 11 => f11 | 12 => f12 | 13 => f13 | 14 => f14 | 15 => f15 | 16 => f16 | 17 => f17 | 18 => f18 | 19 => f19 | 20 => f20 | 21 => f21 | 22 => f22 | 23 => f23 | 24 => f24 | 25 => fa | _ => 0
  let fd : Nat → FuncData := fun i => match i with | 0 => PySem.W.fnOf "shrink" "shrink" (defArgs (top 6)) (defBody (top 6)) (defScope (top 6)) .none kV0 dc0 pm0 an0 cd0 ct0 | 1 => PySem.W.fnOf "shrunk_one" "shrunk_one" (defArgs (top 7)) (defBody (top 7)) (defScope (top 7)) .none kV1 dc1 pm1 an1 cd1 ct1 | 2 => PySem.W.fnOf "shrunk_two" "shrunk_two" (defArgs (top 8)) (defBody (top 8)) (defScope (top 8)) .none kV2 dc2 pm2 an2 cd2 ct2 | 3 => PySem.W.fnOf "shrunk_rest" "shrunk_rest" (defArgs (top 9)) (defBody (top 9)) (defScope (top 9)) .none kV3 dc3 pm3 an3 cd3 ct3 | 4 => PySem.W.fnOf "_law_cell" "_law_cell" (defArgs (top 11)) (defBody (top 11)) (defScope (top 11)) .none kV4 dc4 pm4 an4 cd4 ct4 | 5 => PySem.W.fnOf "_law_draws" "_law_draws" (defArgs (top 12)) (defBody (top 12)) (defScope (top 12)) .none kV5 dc5 pm5 an5 cd5 ct5 | 6 => PySem.W.fnOf "_law_many" "_law_many" (defArgs (top 13)) (defBody (top 13)) (defScope (top 13)) .none kV6 dc6 pm6 an6 cd6 ct6 | 7 => PySem.W.fnOf "_law_names" "_law_names" (defArgs (top 14)) (defBody (top 14)) (defScope (top 14)) .none kV7 dc7 pm7 an7 cd7 ct7 | 8 => PySem.W.fnOf "_law_term" "_law_term" (defArgs (top 15)) (defBody (top 15)) (defScope (top 15)) .none kV8 dc8 pm8 an8 cd8 ct8 | 9 => PySem.W.fnOf "_law_leaf" "_law_leaf" (defArgs (top 16)) (defBody (top 16)) (defScope (top 16)) .none kV9 dc9 pm9 an9 cd9 ct9 | 10 => PySem.W.fnOf "_law_formula" "_law_formula" (defArgs (top 17)) (defBody (top 17)) (defScope (top 17)) .none kV10 dc10 pm10 an10 cd10 ct10 | 11 => PySem.W.fnOf "_law_same" "_law_same" (defArgs (top 18)) (defBody (top 18)) (defScope (top 18)) .none kV11 dc11 pm11 an11 cd11 ct11 | 12 => PySem.W.fnOf "_law_size" "_law_size" (defArgs (top 19)) (defBody (top 19)) (defScope (top 19)) .none kV12 dc12 pm12 an12 cd12 ct12 | 13 => PySem.W.fnOf "_law_found" "_law_found" (defArgs (top 20)) (defBody (top 20)) (defScope (top 20)) .none kV13 dc13 pm13 an13 cd13 ct13 | 14 => PySem.W.fnOf "_law_good" "_law_good" (defArgs (top 21)) (defBody (top 21)) (defScope (top 21)) .none kV14 dc14 pm14 an14 cd14 ct14 | 15 => PySem.W.fnOf "_law_value" "_law_value" (defArgs (top 22)) (defBody (top 22)) (defScope (top 22)) .none kV15 dc15 pm15 an15 cd15 ct15 | 16 => PySem.W.fnOf "_law_holds" "_law_holds" (defArgs (top 23)) (defBody (top 23)) (defScope (top 23)) .none kV16 dc16 pm16 an16 cd16 ct16 | 17 => PySem.W.fnOf "_law_after" "_law_after" (defArgs (top 24)) (defBody (top 24)) (defScope (top 24)) .none kV17 dc17 pm17 an17 cd17 ct17 | 18 => PySem.W.fnOf "_law_walk" "_law_walk" (defArgs (top 25)) (defBody (top 25)) (defScope (top 25)) .none kV18 dc18 pm18 an18 cd18 ct18 | 19 => PySem.W.fnOf "_law_temporal" "_law_temporal" (defArgs (top 26)) (defBody (top 26)) (defScope (top 26)) .none kV19 dc19 pm19 an19 cd19 ct19 | 20 => PySem.W.fnOf "_law_along" "_law_along" (defArgs (top 27)) (defBody (top 27)) (defScope (top 27)) .none kV20 dc20 pm20 an20 cd20 ct20 | 21 => PySem.W.fnOf "_law_depth" "_law_depth" (defArgs (top 28)) (defBody (top 28)) (defScope (top 28)) .none kV21 dc21 pm21 an21 cd21 ct21 | 22 => PySem.W.fnOf "_law_waits" "_law_waits" (defArgs (top 29)) (defBody (top 29)) (defScope (top 29)) .none kV22 dc22 pm22 an22 cd22 ct22 | 23 => PySem.W.fnOf "_law_constants" "_law_constants" (defArgs (top 30)) (defBody (top 30)) (defScope (top 30)) .none kV23 dc23 pm23 an23 cd23 ct23 | 24 => PySem.W.fnOf "_law_shrunk" "_law_shrunk" (defArgs (top 31)) (defBody (top 31)) (defScope (top 31)) .none kV24 dc24 pm24 an24 cd24 ct24 | 25 => PySem.W.fnOf "law" "law" (defArgs (top 32)) (defBody (top 32)) (defScope (top 32)) .none kV25 dc25 pm25 an25 cd25 ct25 | _ => PySem.W.fnOf "" "" (defArgs (top 0)) (defBody (top 0)) (defScope (top 0)) .none .none .none .none none .none .none
  have T : Txt K w mg ad fd := ⟨F0, PySem.W.mg_of X Gn a0, b0, F1, PySem.W.mg_of X Gn a1, b1, F2, PySem.W.mg_of X Gn a2, b2, F3, PySem.W.mg_of X Gn a3, b3, F4, PySem.W.mg_of X Gn a4, b4, F5, PySem.W.mg_of X Gn a5, b5, F6, PySem.W.mg_of X Gn a6, b6, F7, PySem.W.mg_of X Gn a7, b7, F8, PySem.W.mg_of X Gn a8, b8, F9, PySem.W.mg_of X Gn a9, b9, F10, PySem.W.mg_of X Gn a10, b10, F11, PySem.W.mg_of X Gn a11, b11, F12, PySem.W.mg_of X Gn a12, b12, F13, PySem.W.mg_of X Gn a13, b13, F14, PySem.W.mg_of X Gn a14, b14, F15, PySem.W.mg_of X Gn a15, b15, F16, PySem.W.mg_of X Gn a16, b16, F17, PySem.W.mg_of X Gn a17, b17, F18, PySem.W.mg_of X Gn a18, b18, F19, PySem.W.mg_of X Gn a19, b19, F20, PySem.W.mg_of X Gn a20, b20, F21, PySem.W.mg_of X Gn a21, b21, F22, PySem.W.mg_of X Gn a22, b22, F23, PySem.W.mg_of X Gn a23, b23, F24, PySem.W.mg_of X Gn a24, b24, F25, PySem.W.mg_of X Gn a25, b25, PySem.W.mg_none_of X Gn z_bool, PySem.W.mg_none_of X Gn z_int, PySem.W.mg_none_of X Gn z_isinstance, PySem.W.mg_none_of X Gn z_len, PySem.W.mg_none_of X Gn z_list, PySem.W.mg_none_of X Gn z_max, PySem.W.mg_none_of X Gn z_min, PySem.W.mg_none_of X Gn z_range, PySem.W.mg_none_of X Gn z_str, PySem.W.mg_none_of X Gn z_tuple, ktup_strs (PySem.W.mg_of X Gn g_COMPARISONS) h_COMPARISONS v_COMPARISONS n_COMPARISONS, ⟨_, _, _, PySem.W.mg_of X Gn g_LEFT_TRUE, ⟨h_LEFT_TRUE, l_LEFT_TRUE, o_LEFT_TRUE⟩, e_LEFT_TRUE⟩, ⟨_, _, _, PySem.W.mg_of X Gn g_LEFT_FALSE, ⟨h_LEFT_FALSE, l_LEFT_FALSE, o_LEFT_FALSE⟩, e_LEFT_FALSE⟩, ⟨_, _, _, PySem.W.mg_of X Gn g_RIGHT_TRUE, ⟨h_RIGHT_TRUE, l_RIGHT_TRUE, o_RIGHT_TRUE⟩, e_RIGHT_TRUE⟩, ⟨_, _, _, PySem.W.mg_of X Gn g_RIGHT_FALSE, ⟨h_RIGHT_FALSE, l_RIGHT_FALSE, o_RIGHT_FALSE⟩, e_RIGHT_FALSE⟩⟩
  exact ⟨fd 25, fun s v => .of_eq rfl, fun base _ _ => (all (G := ⟨K, cad⟩) (M := M) (P := l.prog) (w := w) (base := base) T dep).f25⟩
end K15
namespace K15
open PySem L2 Mi GA
local macro_rules | `(tactic| walk_at "w1") => `(tactic| try simp (decide := true) only [n_next, n_set, n_drop, n_ret, n_retN, n_brk, n_cnt, n_if, n_for, n_aug, w_r1, w_r2, w_c, w_var, w_op, w_un, w_nil, w_cons, w_tup, w_lst, w_cb, w_test, w_bl, w_not, w_and, w_or, w_notV, w_andV, w_orV, w_if, w_yes, w_oN, w_oS, w_ie, w_sl, w_mt, w_isi, w_chain, satE_ok, satE_ite,
  List.getD_cons_zero, List.getD_cons_succ, List.set_cons_zero, List.set_cons_succ, List.map_cons, List.map_nil, List.replicate, List.append_nil, List.cons_append, List.nil_append, List.length_cons, List.length_nil, Nat.reduceAdd, Nat.reduceSub, Nat.zero_add, Int.reduceToNat, Int.reducePow, Int.reduceNeg,
  addD_ii, subD_ii, mulD_ii, mulD_si, fdivD_ii, modD_ii, powD_ii, negD_i, eqD_ii, eqD_ss, eqD_bb, neD_ii, neD_ss, neD_bb, ltD_ii, leD_ii, gtD_ii, geD_ii, intD_i, absD_i, max2_ii, min2_ii, addI_ii, subI_ii, mulC_r, true_and, and_true, and_self, if_true, if_false, ite_true, ite_false])
local macro_rules | `(tactic| walk_at "s") => `(tactic| (rw [n_seq]; walk_at "w1"))
local macro_rules | `(tactic| walk_at "wp") => `(tactic| try simp (decide := true) only [n_next, n_seq, n_set, n_drop, n_ret, n_retN, n_brk, n_cnt, n_if, n_for, n_aug, w_r1, w_r2, w_c, w_var, w_op, w_un, w_nil, w_cons, w_tup, w_lst, w_cb, w_test, w_bl, w_not, w_and, w_or, w_notV, w_andV, w_orV, w_if, w_yes, w_oN, w_oS, w_ie, w_sl, w_mt, w_isi, w_chain, satE_ok, satE_ite,
  List.getD_cons_zero, List.getD_cons_succ, List.set_cons_zero, List.set_cons_succ, List.map_cons, List.map_nil, List.replicate, List.append_nil, List.cons_append, List.nil_append, List.length_cons, List.length_nil, Nat.reduceAdd, Nat.reduceSub, Nat.zero_add, Int.reduceToNat, Int.reducePow, Int.reduceNeg,
  addD_ii, subD_ii, mulD_ii, mulD_si, fdivD_ii, modD_ii, powD_ii, negD_i, eqD_ii, eqD_ss, eqD_bb, neD_ii, neD_ss, neD_bb, ltD_ii, leD_ii, gtD_ii, geD_ii, intD_i, absD_i, max2_ii, min2_ii, addI_ii, subI_ii, mulC_r, true_and, and_true, and_self, if_true, if_false, ite_true, ite_false])
local macro_rules | `(tactic| walk_at "wq") => `(tactic| try simp (decide := true) only [tyS, tyI, tyB, tyT, w_ty, subTy, eq_self, Bool.or_self, intD_b, w_ixNew, atI_0, atI_1, atI_2, lookD, Option.isSome_some, Option.isSome_none, w_ixT0, w_ixT1, w_ixT2, w_inT, w_lenT, w_kd, w_kin, w_star, List.any_cons, List.any_nil, List.all_cons, List.all_nil, eqF_ss, decide_true, decide_false, Bool.or_false, Bool.or_true, Bool.true_or, Bool.false_or, Bool.and_true, Bool.true_and, Bool.and_false, Bool.false_and, Bool.not_true, Bool.not_false, Bool.false_eq_true, Bool.true_eq_false, flatD, eqDD_ii, eqDD_ss, eqDD_bb, neDD_ii, neDD_ss, neDD_bb, n_next, n_seq, n_set, n_drop, n_ret, n_retN, n_brk, n_cnt, n_if, n_for, n_aug, w_r1, w_r2, w_c, w_var, w_op, w_un, w_nil, w_cons, w_tup, w_lst, w_cb, w_test, w_bl, w_not, w_and, w_or, w_notV, w_andV, w_orV, w_if, w_yes, w_oN, w_oS, w_ie, w_sl, w_mt, w_isi, w_chain, satE_ok, satE_ite,
  List.getD_cons_zero, List.getD_cons_succ, List.set_cons_zero, List.set_cons_succ, List.map_cons, List.map_nil, List.replicate, List.append_nil, List.cons_append, List.nil_append, List.length_cons, List.length_nil, Nat.reduceAdd, Nat.reduceSub, Nat.zero_add, Int.reduceToNat, Int.reducePow, Int.reduceNeg,
  addD_ii, subD_ii, mulD_ii, mulD_si, fdivD_ii, modD_ii, powD_ii, negD_i, eqD_ii, eqD_ss, eqD_bb, neD_ii, neD_ss, neD_bb, ltD_ii, leD_ii, gtD_ii, geD_ii, intD_i, absD_i, max2_ii, min2_ii, addI_ii, subI_ii, mulC_r, true_and, and_true, and_self, if_true, if_false, ite_true, ite_false])
section
variable {M k : Nat}
theorem cS : CellS (fn M (k + 1) 4) := cell_S
theorem dS : DrawsS (fn M (k + 2) 5) := draws_S cS
theorem nS : NamesS (fn M (k + 1) 7) := names_S
theorem tS : TermS (fn M (k + 1) 8) := term_S
theorem lS : LeafS (fn M (k + 2) 9) := leaf_S tS
theorem fS : FormS (fn M (k + 3) 10) := form_S lS
theorem o1 : OneS (fn M (k + 1) 1) := fun _ _ _ => one_S
theorem o3 : RestS (fn M (k + 2) 3) := rest_S o1
theorem o2 : TwoS (fn M (k + 3) 2) := two_S o3
end
theorem saS {M : Nat} : SameS fun k => fn M k 11 := same_S fun _ _ _ => rfl
theorem lszS {M : Nat} : LsizeS fun k => fn M k 12 := lsize_S fun _ _ _ => rfl
theorem fdS {M : Nat} : FoundS fun k => fn M k 13 := found_S fun _ _ _ => rfl
theorem gdS {M : Nat} : GoodS fun k => fn M k 14 := good_S saS fun _ _ _ => rfl
theorem dpS {M : Nat} : LdepS fun k => fn M k 21 := ldep_S fun _ _ _ => rfl
theorem wtS {M : Nat} {zs : List Str} (hz : ∀ z ∈ zs, ChOk z) : LwaitS (fun k => fn M k 22) zs 59 := lwait_S hz (by decide) fun _ _ _ => rfl
theorem csS {M : Nat} : LcstS fun k => fn M k 23 := lcst_S fun _ _ _ => rfl
theorem shS {M : Nat} : ShrS fun k => fn M k 0 := shr_S (Fo := fun k => fn M k 1) (Ft := fun k => fn M k 2) (fun _ => o1) (fun _ => o2) fun _ _ _ => rfl
theorem af {M k : Nat} : AfterS (fn M (k + 1) 17) := after_S
theorem wl {M k : Nat} : WalkS (fn M (k + 2) 18) := walk_S af
theorem tp {M k : Nat} : TempS (fn M (k + 3) 19) := temp_S wl
theorem alS {M r : Nat} {nr : D} {ss : List D} (hl : ss.length = 1) : AlongS (fun k => fn M (k + 3) 20) 1 0 (fun _ _ => true) nr (.ref r) (fun h => h[r]? = some (.lst ss)) (fun _ => False) :=
  along_S (F := fun k => fn M k 20) (Fh := fun k => fn M k 16) (Fa := fun k => fn M k 17) (Fw := fun k => fn M k 18) (Ft := fun k => fn M k 19) (ss := ss) (by decide) (by decide) 3 (fun h h' a k => k _ _ a) (fun h a => a) hl (fun _ _ _ => rfl)
    (fun k => by rw [Nat.add_comm]; exact af) (fun k => by rw [Nat.add_comm]; exact wl) (fun k => by rw [Nat.add_comm]; exact tp) (fun k h w t u i s _ g _ => g.elim)
theorem shrunk_ok {M k : Nat} {zs : List Str} (hz : ∀ z ∈ zs, ChOk z) (f : Fm) (h : DH) (ok : f.Ok zs) (fz : f.sz ≤ 48) : SatE (fn M (k + 80) 24 [f.shr.d, f.d] h) fun d h' => Keep h h' ∧ d = .bl true := by
  have fd : f.dep ≤ 48 := Nat.le_trans f.dep_sz fz
  have aok := shr_ok f ok
  have az := shr_sz f
  have ad : f.shr.dep ≤ 48 := Nat.le_trans f.shr.dep_sz (by omega)
  have adp := shr_dp f
  have acs := shr_cst f
  have afn := shr_fnd f
  have tsb1 := shr_tsb f
  generalize hA : f.shr = a at *
  rw [e_24]
  refine w_def rfl ?_; unfold b_24
  rw [n_seq]; walk_at "w1"
  refine (fdS 60 (k + 19) f h (by omega) (by omega)).imp ?_
  rintro _ h1 ⟨n, rfl, k1, l1, e1⟩
  refine (gdS 60 (k + 14) a zs n f.fnd h1 aok (by omega) e1 (fun c hc => fnd_ok ok c hc) afn).imp ?_
  rintro _ h2 ⟨q, rfl⟩
  subst q
  walk_at "wq"
  refine (lszS 60 (k + 19) a _ (by omega)).imp ?_
  rintro _ h3 ⟨q, rfl⟩
  subst q
  walk_at "wq"
  refine (lszS 60 (k + 19) f _ (by omega)).imp ?_
  rintro _ h4 ⟨q, rfl⟩
  subst q
  have c1 : decide ((f.sz : Int) < a.sz) = false := decide_eq_false (by omega)
  rw [gtD_ii, c1]
  walk_at "wq"
  refine (dpS 63 (k + 16) a.d _ (fm_td a 60 aok (by omega))).imp ?_
  rintro _ h5 ⟨q, rfl⟩
  subst q
  walk_at "wq"
  refine (dpS 63 (k + 16) f.d _ (fm_td f 60 ok (by omega))).imp ?_
  rintro _ h6 ⟨q, rfl⟩
  subst q
  rw [fm_dep, fm_dep]
  have c2 : decide ((f.dp : Int) < a.dp) = false := decide_eq_false (by omega)
  rw [gtD_ii, c2]
  walk_at "wq"
  refine (wtS hz 59 (k + 16) a _ [] _ aok (by omega) (by omega) (get_last _ _) (fun w hw => nomatch hw) (by simp; omega)).imp ?_
  rintro _ h7 ⟨n1, w1, rfl, k7, e7, _, nd1, m1, ln1⟩
  rw [w_len (items_lst e7), List.length_map]
  walk_at "wq"
  refine (wtS hz 59 (k + 16) f _ [] _ ok (by omega) (by omega) (get_last _ _) (fun w hw => nomatch hw) (by simp; omega)).imp ?_
  rintro _ h8 ⟨n2, w2, rfl, k8, e8, _, nd2, m2, ln2⟩
  rw [w_len (items_lst e8), List.length_map]
  have wl : w1.length ≤ w2.length := waits_le (f := f) (nd1 (by simp)) (fun x => by rw [m1, hA]; simp) (fun x => by rw [m2]; simp)
  have c3 : decide ((w2.length : Int) < w1.length) = false := decide_eq_false (by omega)
  rw [gtD_ii, c3]
  walk_at "wq"
  refine (csS 60 (k + 19) a _ (by omega)).imp ?_
  rintro _ h9 ⟨q, rfl⟩
  subst q
  rw [eqD_ii, satE_ok]
  refine ⟨_, rfl, ?_⟩
  have kk := k1.trans ((Keep.app _ [DO.lst []]).trans (k7.trans ((Keep.app _ [DO.lst []]).trans k8)))
  by_cases c4 : a.cst = 0
  · rw [if_pos (by rw [c4]; rfl)]
    first | exact ⟨kk, rfl⟩ | exact kk
  · rw [if_neg (by simpa using (by omega : ¬ (a.cst : Int) = 0))]
    rcases acs with q | q
    · exact absurd q c4
    · cases a with
      | tt => simp only [Fm.d]; walk_at "wq"; exact kk
      | ff => simp only [Fm.d]; walk_at "wq"; exact kk
      | _ => cases q
theorem law_ok {ns : List Int} {k : Nat} (M : Nat) (h : DH) (hs : Scr ns h) : SatE (fn M (k + 102) 25 [.ref 0] h) fun d h' => d = .bl true := by
  rw [e_25]
  refine w_def rfl ?_; unfold b_25
  rw [n_seq]; walk_at "w1"
  refine (cS (k := k + 100)) ns _ _ hs (by decide) _ ?_
  refine ((nS (k := k + 100)) _ _ _ (by omega)).imp ?_
  rintro _ h1 ⟨n, zs, rfl, ⟨k1, l1, q1⟩, hl, hz⟩
  have hs1 := hs.keep k1
  rw [n_seq]; walk_at "w1"
  refine (cS (k := k + 100)) ns _ _ hs1 (by decide) _ ?_
  walk_at "w1"
  generalize hg : GA.cellOf ns 2 % (1000000000000000000 - 2) = g
  have hg : 0 ≤ g ∧ g < 10 ^ 18 := by omega
  rw [n_seq]; walk_at "w1"
  refine (cS (k := k + 100)) ns _ _ hs1 (by decide) _ ?_
  walk_at "w1"
  generalize hc : GA.cellOf ns 3 % 8 = c
  have hc : 0 ≤ c ∧ c < 8 := by omega
  rw [n_seq]; walk_at "w1"
  refine (cS (k := k + 100)) ns _ _ hs1 (by decide) _ ?_
  refine (many_S (c := GA.cellOf ns 0) (h := h1) fun m hm => ?_)
  walk_at "w1"
  refine ⟨.inl ⟨by decide, by decide⟩, ?_⟩
  refine ((dS (k := k + 99)) ns h1 1 (3 * m) hs1 (by decide) (by omega)).imp ?_
  rintro _ h2 ⟨n2, xs, rfl, ⟨k2, l2, e2⟩, hxl, hx⟩
  rw [n_seq]; walk_at "w1"
  obtain ⟨p, p1, p2, p3⟩ := some_ix (xs := [D.int 2, .int 4, .int 6, .int 8]) (i := c % 4) (by omega) (by show c % 4 < 4; omega)
  rw [w_ixs (items_lst (get_last _ _)) p3]
  obtain ⟨pl, rfl⟩ : ∃ pl, p = .int pl := by
    simp only [List.mem_cons, List.not_mem_nil, or_false] at p1
    rcases p1 with rfl | rfl | rfl | rfl <;> exact ⟨_, rfl⟩
  have k3 : Keep h2 (h2 ++ [DO.lst [D.int 2, .int 4, .int 6, .int 8]]) := Keep.app _ _
  refine ((fS (k := k + 98)) _ n2 n xs zs g pl (decide (c / 4 = 0)) m.toNat (k3 _ _ e2) (by omega) (by omega) hx hg (k3 _ _ (k2 _ _ q1)) (by rw [hl]; decide)).imp ?_
  rintro _ h4 ⟨k4, f, rfl, gf⟩
  obtain ⟨ok, fz⟩ : f.Ok zs ∧ f.sz ≤ 48 := gf.mono (by omega)
  have fd : f.dep ≤ 48 := Nat.le_trans f.dep_sz fz
  have aok := shr_ok f ok
  have az := shr_sz f
  rw [n_seq]; walk_at "w1"
  refine (shS 60 (k + 39) f h4 (by omega)).imp ?_
  rintro _ h5 ⟨k5, rfl⟩
  rw [n_seq]; walk_at "w1"
  refine (shrunk_ok (k := k + 21) hz f h5 ok fz).imp ?_
  rintro _ h6 ⟨k6, rfl⟩
  walk_at "w1"
  try simp only [Bool.not_true, Bool.false_eq_true, if_false]
  (first | rw [n_seq] | rw [n_next, n_seq]); walk_at "w1"
  refine (shS 60 (k + 39) f.shr h6 (by have := f.shr.dep_sz; omega)).imp ?_
  rintro _ h7 ⟨k7, rfl⟩
  rw [n_seq]; walk_at "w1"
  refine (shrunk_ok (k := k + 21) hz f.shr h7 aok (by omega)).imp ?_
  rintro _ h8 ⟨k8, rfl⟩
  walk_at "w1"
  try simp only [Bool.not_true, Bool.false_eq_true, if_false]
  (first | rw [n_seq] | rw [n_next, n_seq]); walk_at "w1"
  refine (fdS 60 (k + 41) f h8 (by omega) (by omega)).imp ?_
  rintro _ h9 ⟨n9, rfl, k9, _, e9⟩
  rw [w_len (items_lst e9), List.length_map]
  walk_at "w1"
  by_cases c0 : f.fnd = []
  · rw [if_pos (by rw [c0]; rfl)]
    rw [n_seq]; walk_at "w1"
    refine alS (M := M) (r := h9.length) (nr := .ref n) (ss := [.tup [.int 0, .int 0, .int 0]]) rfl 60 (k + 38) f _ (by omega) (by rw [c0]; exact fun c hc => nomatch hc) (get_last _ _) _ fun h10 n10 k10 _ e10 => ?_
    walk_at "w1"
    have cq := shr_const (fun _ _ => true) f c0
    have e11 : itemsD (.ref n10) h10 = some [.bl (f.al 1 0 (fun _ _ => true) 0)] := items_lst e10
    rw [cq]
    generalize f.al 1 0 (fun _ _ => true) 0 = b at *
    cases b with
    | true =>
      simp only [tf, Fm.d]
      walk_at "wq"
      rw [w_ixs ((Keep.app _ _).items e11) (x := .bl true) atI_0]
      walk_at "wq"
      refine w_eqDD_lay (j := 2) (k := 2) (.tup fun x hx => by rw [List.mem_singleton.mp hx]; exact .str (by decide +kernel)) (.tup fun x hx => by rw [List.mem_singleton.mp hx]; exact .str (by decide +kernel)) (by decide) (by decide) ⟨_, rfl⟩ fun c hc => ?_
      rw [hc.mpr rfl]
    | false =>
      simp only [tf, Fm.d]
      walk_at "wq"
      rw [w_ixs ((Keep.app _ _).items e11) (x := .bl false) atI_0]
      walk_at "wq"
      refine w_eqDD_lay (j := 2) (k := 2) (.tup fun x hx => by rw [List.mem_singleton.mp hx]; exact .str (by decide +kernel)) (.tup fun x hx => by rw [List.mem_singleton.mp hx]; exact .str (by decide +kernel)) (by decide) (by decide) ⟨_, rfl⟩ fun c hc => ?_
      rw [hc.mpr rfl]
  · rw [if_neg (by intro q; exact c0 (List.eq_nil_of_length_eq_zero (by simpa using q)))]
    trivial
theorem main (ns : List Int) (hl : ns.length ≤ 63) : ∃ h', fn 1000000 200 25 [.ref 0] [.fro (ns.map D.int)] = .ok (.bl true) h' := by
  obtain ⟨a, h', e, p⟩ := (law_ok (ns := ns) (k := 98) 1000000 [.fro (ns.map D.int)] rfl).eq
  exact ⟨h', by rw [e, p]⟩
end K15
open PySem PySem.W PyProof.Rows in
set_option maxRecDepth 100000 in
set_option maxHeartbeats 0 in
theorem PySem.Challenge.cw_lassoproof_k15_shrink_size_and_constants_holds : PySem.Challenge.rw_lassoproof_k15_shrink_size_and_constants.Holds := by
  w_on; o_law; k_head; (case hw => w_witness2)
  k_fill
  refine Mi.walk_law (l := PySem.Challenge.rw_lassoproof_k15_shrink_size_and_constants) (F := K15.fn 1000000 200 25) (k := 200) (cad := fun _ _ => 0) rfl rfl ⟨rfl, by decide, by decide⟩ (fun w h Y => PySem.W.kIn_of Y) ?F K15.main
  case F =>
    intro w mg fa h KX G hmg
    refine' K15.all_mk KX G hmg ?a0 ?l0 ?c0 ?k0 ?a1 ?l1 ?c1 ?k1 ?a2 ?l2 ?c2 ?k2 ?a3 ?l3 ?c3 ?k3 ?a4 ?l4 ?c4 ?k4 ?a5 ?l5 ?c5 ?k5 ?a6 ?l6 ?c6 ?k6 ?a7 ?l7 ?c7 ?k7 ?a8 ?l8 ?c8 ?k8 ?a9 ?l9 ?c9 ?k9 ?a10 ?l10 ?c10 ?k10 ?a11 ?l11 ?c11 ?k11 ?a12 ?l12 ?c12 ?k12 ?a13 ?l13 ?c13 ?k13 ?a14 ?l14 ?c14 ?k14 ?a15 ?l15 ?c15 ?k15 ?a16 ?l16 ?c16 ?k16 ?a17 ?l17 ?c17 ?k17 ?a18 ?l18 ?c18 ?k18 ?a19 ?l19 ?c19 ?k19 ?a20 ?l20 ?c20 ?k20 ?a21 ?l21 ?c21 ?k21 ?a22 ?l22 ?c22 ?k22 ?a23 ?l23 ?c23 ?k23 ?a24 ?l24 ?c24 ?k24 ?a25 ?l25 ?c25 ?k25 ?z_bool ?z_int ?z_isinstance ?z_len ?z_list ?z_max ?z_min ?z_range ?z_str ?z_tuple ?g_COMPARISONS ?h_COMPARISONS ?v_COMPARISONS ?n_COMPARISONS ?g_LEFT_TRUE ?h_LEFT_TRUE ?l_LEFT_TRUE ?e_LEFT_TRUE ?o_LEFT_TRUE ?g_LEFT_FALSE ?h_LEFT_FALSE ?l_LEFT_FALSE ?e_LEFT_FALSE ?o_LEFT_FALSE ?g_RIGHT_TRUE ?h_RIGHT_TRUE ?l_RIGHT_TRUE ?e_RIGHT_TRUE ?o_RIGHT_TRUE ?g_RIGHT_FALSE ?h_RIGHT_FALSE ?l_RIGHT_FALSE ?e_RIGHT_FALSE ?o_RIGHT_FALSE
    (case a0 => k_is)
    (case l0 => k_is)
    (case c0 => k_is)
    (case k0 => k_is)
    (case a1 => k_is)
    (case l1 => k_is)
    (case c1 => k_is)
    (case k1 => k_is)
    (case a2 => k_is)
    (case l2 => k_is)
    (case c2 => k_is)
    (case k2 => k_is)
    (case a3 => k_is)
    (case l3 => k_is)
    (case c3 => k_is)
    (case k3 => k_is)
    (case a4 => k_is)
    (case l4 => k_is)
    (case c4 => k_is)
    (case k4 => k_is)
    (case a5 => k_is)
    (case l5 => k_is)
    (case c5 => k_is)
    (case k5 => k_is)
    (case a6 => k_is)
    (case l6 => k_is)
    (case c6 => k_is)
    (case k6 => k_is)
    (case a7 => k_is)
    (case l7 => k_is)
    (case c7 => k_is)
    (case k7 => k_is)
    (case a8 => k_is)
    (case l8 => k_is)
    (case c8 => k_is)
    (case k8 => k_is)
    (case a9 => k_is)
    (case l9 => k_is)
    (case c9 => k_is)
    (case k9 => k_is)
    (case a10 => k_is)
    (case l10 => k_is)
    (case c10 => k_is)
    (case k10 => k_is)
    (case a11 => k_is)
    (case l11 => k_is)
    (case c11 => k_is)
    (case k11 => k_is)
    (case a12 => k_is)
    (case l12 => k_is)
    (case c12 => k_is)
    (case k12 => k_is)
    (case a13 => k_is)
    (case l13 => k_is)
    (case c13 => k_is)
    (case k13 => k_is)
    (case a14 => k_is)
    (case l14 => k_is)
    (case c14 => k_is)
    (case k14 => k_is)
    (case a15 => k_is)
    (case l15 => k_is)
    (case c15 => k_is)
    (case k15 => k_is)
    (case a16 => k_is)
    (case l16 => k_is)
    (case c16 => k_is)
    (case k16 => k_is)
    (case a17 => k_is)
    (case l17 => k_is)
    (case c17 => k_is)
    (case k17 => k_is)
    (case a18 => k_is)
    (case l18 => k_is)
    (case c18 => k_is)
    (case k18 => k_is)
    (case a19 => k_is)
    (case l19 => k_is)
    (case c19 => k_is)
    (case k19 => k_is)
    (case a20 => k_is)
    (case l20 => k_is)
    (case c20 => k_is)
    (case k20 => k_is)
    (case a21 => k_is)
    (case l21 => k_is)
    (case c21 => k_is)
    (case k21 => k_is)
    (case a22 => k_is)
    (case l22 => k_is)
    (case c22 => k_is)
    (case k22 => k_is)
    (case a23 => k_is)
    (case l23 => k_is)
    (case c23 => k_is)
    (case k23 => k_is)
    (case a24 => k_is)
    (case l24 => k_is)
    (case c24 => k_is)
    (case k24 => k_is)
    (case a25 => k_is)
    (case l25 => k_is)
    (case c25 => k_is)
    (case k25 => k_is)
    (case z_bool => k_is)
    (case z_int => k_is)
    (case z_isinstance => k_is)
    (case z_len => k_is)
    (case z_list => k_is)
    (case z_max => k_is)
    (case z_min => k_is)
    (case z_range => k_is)
    (case z_str => k_is)
    (case z_tuple => k_is)
    (case g_COMPARISONS => k_is)
    (case h_COMPARISONS => k_is)
    (case v_COMPARISONS => first | exact .nil | (repeat (first | exact .nil | refine .cons ⟨_, rfl⟩ ?_)))
    (case n_COMPARISONS => decide)
    (case g_LEFT_TRUE => k_is)
    (case h_LEFT_TRUE => k_is)
    (case l_LEFT_TRUE => k_keys)
    (case e_LEFT_TRUE => refine And.intro ⟨_, rfl⟩ (And.intro (by exact Mi.kv_str) ?_); refine And.intro ⟨_, rfl⟩ (And.intro (by exact Mi.kv_str) ?_); refine And.intro ⟨_, rfl⟩ (And.intro (by exact Mi.kv_str) ?_); refine And.intro ⟨_, rfl⟩ (And.intro (by exact Mi.kv_str) ?_); refine And.intro ⟨_, rfl⟩ (And.intro (by exact Mi.kv_str) ?_); refine And.intro ⟨_, rfl⟩ (And.intro (by exact Mi.kv_str) ?_); refine And.intro ⟨_, rfl⟩ (And.intro (by exact Mi.kv_str) ?_); refine And.intro ⟨_, rfl⟩ (And.intro (by exact Mi.kv_str) ?_); exact True.intro)
    (case o_LEFT_TRUE => decide)
    (case g_LEFT_FALSE => k_is)
    (case h_LEFT_FALSE => k_is)
    (case l_LEFT_FALSE => k_keys)
    (case e_LEFT_FALSE => refine And.intro ⟨_, rfl⟩ (And.intro (by exact Mi.kv_str) ?_); refine And.intro ⟨_, rfl⟩ (And.intro (by exact Mi.kv_str) ?_); refine And.intro ⟨_, rfl⟩ (And.intro (by exact Mi.kv_str) ?_); refine And.intro ⟨_, rfl⟩ (And.intro (by exact Mi.kv_str) ?_); refine And.intro ⟨_, rfl⟩ (And.intro (by exact Mi.kv_str) ?_); refine And.intro ⟨_, rfl⟩ (And.intro (by exact Mi.kv_str) ?_); refine And.intro ⟨_, rfl⟩ (And.intro (by exact Mi.kv_str) ?_); refine And.intro ⟨_, rfl⟩ (And.intro (by exact Mi.kv_str) ?_); exact True.intro)
    (case o_LEFT_FALSE => decide)
    (case g_RIGHT_TRUE => k_is)
    (case h_RIGHT_TRUE => k_is)
    (case l_RIGHT_TRUE => k_keys)
    (case e_RIGHT_TRUE => refine And.intro ⟨_, rfl⟩ (And.intro (by exact Mi.kv_str) ?_); refine And.intro ⟨_, rfl⟩ (And.intro (by exact Mi.kv_str) ?_); refine And.intro ⟨_, rfl⟩ (And.intro (by exact Mi.kv_str) ?_); refine And.intro ⟨_, rfl⟩ (And.intro (by exact Mi.kv_str) ?_); refine And.intro ⟨_, rfl⟩ (And.intro (by exact Mi.kv_str) ?_); refine And.intro ⟨_, rfl⟩ (And.intro (by exact Mi.kv_str) ?_); refine And.intro ⟨_, rfl⟩ (And.intro (by exact Mi.kv_str) ?_); refine And.intro ⟨_, rfl⟩ (And.intro (by exact Mi.kv_str) ?_); exact True.intro)
    (case o_RIGHT_TRUE => decide)
    (case g_RIGHT_FALSE => k_is)
    (case h_RIGHT_FALSE => k_is)
    (case l_RIGHT_FALSE => k_keys)
    (case e_RIGHT_FALSE => refine And.intro ⟨_, rfl⟩ (And.intro (by exact Mi.kv_str) ?_); refine And.intro ⟨_, rfl⟩ (And.intro (by exact Mi.kv_str) ?_); refine And.intro ⟨_, rfl⟩ (And.intro (by exact Mi.kv_str) ?_); refine And.intro ⟨_, rfl⟩ (And.intro (by exact Mi.kv_str) ?_); refine And.intro ⟨_, rfl⟩ (And.intro (by exact Mi.kv_str) ?_); refine And.intro ⟨_, rfl⟩ (And.intro (by exact Mi.kv_str) ?_); refine And.intro ⟨_, rfl⟩ (And.intro (by exact Mi.kv_str) ?_); refine And.intro ⟨_, rfl⟩ (And.intro (by exact Mi.kv_str) ?_); exact True.intro)
    (case o_RIGHT_FALSE => decide)

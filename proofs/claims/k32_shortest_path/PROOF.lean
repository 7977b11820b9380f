import PyProof.Rows.All
import Wide.All
import OpenK.AllK
import Wide.FinOn
import HandS.ForMost
import HandS.ForExc
import HandS.IsInst
import HandS.Deep
import HandS.More
import HandS.Star
import HandS.Iter
import HandS.Rev
import HandS.Zip
import HandS.Defaults
import HandS.Dict
import HandS.Conv
import HandS.DictComp
import HandS.SortInts
import KE.KDictList
import KE.KRevIter
import HandS.RevTup
import HandS.List
import HandS.SetFor
import HandS.Set
import PySem.Challenge.RW_lassoproof_k32_shortest_path
set_option Elab.async false
set_option linter.all false
set_option maxRecDepth 100000
set_option maxHeartbeats 4000000
/-! A small deterministic machine over plain data; its runs are sound for the readings of the hand layer. -/
namespace Mi
open PySem L2
/-! ### 1. data -/
inductive D where
  | non | bl (b : Bool) | int (i : Int) | str (x : Str) | tup (xs : List D) | ref (n : Nat)
  deriving Inhabited
inductive DO where
  | lst (xs : List D) | fro (xs : List D) | dK (kvs : List (Key × D)) | ins (c : Nat) (fs : List (Str × D))
abbrev DH := List DO
structure DX where
  cls : Nat
  fs : List (Str × D)
inductive Res (α : Type) where
  | ok (a : α) (h : DH) | exc (e : DX) (h : DH) | no
def Res.bind {α β : Type} (r : Res α) (f : α → DH → Res β) : Res β :=
  match r with
  | .ok a h => f a h
  | .exc e h => .exc e h
  | .no => .no
abbrev DSt := List (Option D)
abbrev EM := DSt → DH → Res D
abbrev TM := DSt → DH → Res Bool
abbrev AM := DSt → DH → Res (List D)
inductive RS where
  | nx (s : DSt) (h : DH) | rt (d : D) (h : DH) | bk (s : DSt) (h : DH) | ct (s : DSt) (h : DH) | exc (e : DX) (s : DSt) (h : DH) | no
abbrev SM := DSt → DH → RS
def DO.mu : DO → Bool
  | .fro _ => false
  | _ => true
/-! ### 2. what the data stand for -/
structure Cw where
  K : PySem.W.Frag
  cad : Nat → Addr
section
variable (G : Cw)
mutual
def RV (μ : List Addr) (H : Hp) : D → V → Prop
  | .non, v => v = .non
  | .bl b, v => v = .bl b
  | .int i, v => v = .int i
  | .str s, v => v = .str s
  | .tup xs, v => ∃ a vs, v = .ref a ∧ SqT G.K H a vs ∧ RVs μ H xs vs
  | .ref n, v => ∃ a, v = .ref a ∧ μ[n]? = some a
def RVs (μ : List Addr) (H : Hp) : List D → List V → Prop
  | [], vs => vs = []
  | d :: ds, vs => ∃ v ws, vs = v :: ws ∧ RV μ H d v ∧ RVs μ H ds ws
end
/-- a list that is never written: the script -/
def SqF (H : Hp) (a : Addr) (vs : List V) : Prop := (∃ o, H a = some (.frz o (.lst vs))) ∨ (∀ H' : Hp, SqL G.K H' a vs)
def RObj (μ : List Addr) (H : Hp) (a : Addr) : DO → Prop
  | .lst xs => ∃ vs, H a = some (.lst vs) ∧ RVs G μ H xs vs
  | .fro xs => ∃ vs, SqF G H a vs ∧ RVs G μ H xs vs
  | .dK kvs => ∃ ws, H a = some (.dK ws) ∧ ws.map (·.1) = kvs.map (·.1) ∧ RVs G μ H (kvs.map (·.2)) (ws.map (·.2))
  | .ins c fs => ∃ dx ws, H a = some (.ins (G.cad c) dx ws) ∧ ws.map (·.1) = fs.map (·.1) ∧ RVs G μ H (fs.map (·.2)) (ws.map (·.2))
structure Wd (μ : List Addr) (h : DH) (H : Hp) : Prop where
  len : μ.length = h.length
  ob : ∀ (n : Nat) a o, μ[n]? = some a → h[n]? = some o → RObj G μ H a o
  nd : ∀ (n m : Nat) a o o', μ[n]? = some a → μ[m]? = some a → h[n]? = some o → h[m]? = some o' → o.mu = true → o'.mu = true → n = m
structure Ext (μ : List Addr) (H : Hp) (μ' : List Addr) (H' : Hp) : Prop where
  pre : ∀ (n : Nat) a, μ[n]? = some a → μ'[n]? = some a
  tup : ∀ a xs, SqT G.K H a xs → SqT G.K H' a xs
structure RSt (μ : List Addr) (H : Hp) (ds : DSt) (σ : St) : Prop where
  len : ds.length = σ.length
  at_ : ∀ (i : Nat) d, ds[i]? = some (some d) → ∃ v, σ[i]? = some (some v) ∧ RV G μ H d v
def RX (μ : List Addr) (H : Hp) (e : DX) (cls : Value) (d : Option Addr) : Prop :=
  cls = .ref (G.cad e.cls) ∧ ∃ dd ws, d = some dd ∧ H dd = some (.xd ws) ∧ ws.map (·.1) = e.fs.map (·.1) ∧ RVs G μ H (e.fs.map (·.2)) (ws.map (·.2))
end
section
variable {G : Cw} {μ μ' μ'' : List Addr} {H H' H'' : Hp} {h h' : DH} {ds : DSt} {σ : St}
theorem Ext.refl : Ext G μ H μ H := ⟨fun _ _ e => e, fun _ _ e => e⟩
theorem Ext.trans (a : Ext G μ H μ' H') (b : Ext G μ' H' μ'' H'') : Ext G μ H μ'' H'' := ⟨fun n x e => b.pre n x (a.pre n x e), fun x xs e => b.tup x xs (a.tup x xs e)⟩
mutual
theorem RV.mono (e : Ext G μ H μ' H') : ∀ (d : D) (v : V), RV G μ H d v → RV G μ' H' d v
  | .non, v, r => by simp only [RV] at r ⊢; exact r
  | .bl b, v, r => by simp only [RV] at r ⊢; exact r
  | .int i, v, r => by simp only [RV] at r ⊢; exact r
  | .str s, v, r => by simp only [RV] at r ⊢; exact r
  | .tup xs, v, r => by
    simp only [RV] at r ⊢
    obtain ⟨a, vs, e1, e2, e3⟩ := r
    exact ⟨a, vs, e1, e.tup _ _ e2, RVs.mono e xs vs e3⟩
  | .ref n, v, r => by
    simp only [RV] at r ⊢
    obtain ⟨a, e1, e2⟩ := r
    exact ⟨a, e1, e.pre _ _ e2⟩
theorem RVs.mono (e : Ext G μ H μ' H') : ∀ (ds : List D) (vs : List V), RVs G μ H ds vs → RVs G μ' H' ds vs
  | [], vs, r => by simp only [RVs] at r ⊢; exact r
  | d :: ds, vs, r => by
    simp only [RVs] at r ⊢
    obtain ⟨v, ws, e1, e2, e3⟩ := r
    exact ⟨v, ws, e1, RV.mono e d v e2, RVs.mono e ds ws e3⟩
end
theorem RVs.nil : RVs G μ H [] [] := by simp only [RVs]
theorem RVs.cons {d : D} {v : V} {ds : List D} {vs : List V} (r : RV G μ H d v) (t : RVs G μ H ds vs) : RVs G μ H (d :: ds) (v :: vs) := by simp only [RVs]; exact ⟨v, vs, rfl, r, t⟩
theorem RVs.length : ∀ {ds : List D} {vs : List V}, RVs G μ H ds vs → ds.length = vs.length
  | [], vs, r => by simp only [RVs] at r; rw [r]; rfl
  | d :: ds, vs, r => by
    simp only [RVs] at r
    obtain ⟨v, ws, e1, _, e3⟩ := r
    rw [e1, List.length_cons, List.length_cons, RVs.length e3]
theorem RVs.get : ∀ {ds : List D} {vs : List V} {i : Nat} {d : D}, RVs G μ H ds vs → ds[i]? = some d → ∃ v, vs[i]? = some v ∧ RV G μ H d v
  | [], vs, i, d, r, e => by simp at e
  | d :: ds, vs, 0, x, r, e => by
    simp only [RVs] at r
    obtain ⟨v, ws, e1, e2, e3⟩ := r
    simp at e; subst e
    exact ⟨v, by rw [e1]; rfl, e2⟩
  | d :: ds, vs, i + 1, x, r, e => by
    simp only [RVs] at r
    obtain ⟨v, ws, e1, e2, e3⟩ := r
    obtain ⟨u, h1, h2⟩ := RVs.get (i := i) e3 (by simpa using e)
    exact ⟨u, by rw [e1]; simpa using h1, h2⟩
theorem RVs.append : ∀ {xs ys : List D} {us ws : List V}, RVs G μ H xs us → RVs G μ H ys ws → RVs G μ H (xs ++ ys) (us ++ ws)
  | [], ys, us, ws, r, s => by simp only [RVs] at r; rw [r]; exact s
  | d :: ds, ys, us, ws, r, s => by
    simp only [RVs] at r
    obtain ⟨v, vs, e1, e2, e3⟩ := r
    rw [e1]
    exact RVs.cons e2 (RVs.append e3 s)
theorem RVs.take : ∀ {xs : List D} {us : List V} (n : Nat), RVs G μ H xs us → RVs G μ H (xs.take n) (us.take n)
  | xs, us, 0, r => by simp only [List.take_zero]; exact RVs.nil
  | [], us, n + 1, r => by simp only [RVs] at r; rw [r]; simp only [List.take_nil]; exact RVs.nil
  | d :: ds, us, n + 1, r => by
    simp only [RVs] at r
    obtain ⟨v, vs, e1, e2, e3⟩ := r
    rw [e1]
    exact RVs.cons e2 (RVs.take n e3)
theorem RVs.drop : ∀ {xs : List D} {us : List V} (n : Nat), RVs G μ H xs us → RVs G μ H (xs.drop n) (us.drop n)
  | xs, us, 0, r => r
  | [], us, n + 1, r => by simp only [RVs] at r; rw [r]; simp only [List.drop_nil]; exact RVs.nil
  | d :: ds, us, n + 1, r => by
    simp only [RVs] at r
    obtain ⟨v, vs, e1, e2, e3⟩ := r
    rw [e1]
    exact RVs.drop n e3
theorem RVs.set {d : D} {v : V} (r0 : RV G μ H d v) : ∀ {xs : List D} {us : List V} (n : Nat), RVs G μ H xs us → RVs G μ H (xs.set n d) (us.set n v)
  | [], us, n, r => by simp only [RVs] at r; rw [r]; simp only [List.set_nil]; exact RVs.nil
  | x :: xs, us, 0, r => by
    simp only [RVs] at r
    obtain ⟨w, vs, e1, e2, e3⟩ := r
    rw [e1]
    exact RVs.cons r0 e3
  | x :: xs, us, n + 1, r => by
    simp only [RVs] at r
    obtain ⟨w, vs, e1, e2, e3⟩ := r
    rw [e1]
    exact RVs.cons e2 (RVs.set r0 n e3)
theorem RVs.ints {ns : List Int} : RVs G μ H (ns.map D.int) (ns.map V.int) := by
  induction ns with
  | nil => exact RVs.nil
  | cons n r ih => exact RVs.cons (by simp only [RV]) ih
theorem RVs.ints_of : ∀ {ns : List Int} {vs : List V}, RVs G μ H (ns.map D.int) vs → vs = ns.map V.int
  | [], vs, r => by simpa only [List.map_nil, RVs] using r
  | n :: ns, vs, r => by
    simp only [List.map_cons, RVs, RV] at r
    obtain ⟨v, ws, e1, e2, e3⟩ := r
    rw [e1, e2, RVs.ints_of e3]; rfl
theorem RVs.bls_of : ∀ {ns : List Bool} {vs : List V}, RVs G μ H (ns.map D.bl) vs → vs = ns.map V.bl
  | [], vs, r => by simpa only [List.map_nil, RVs] using r
  | n :: ns, vs, r => by
    simp only [List.map_cons, RVs, RV] at r
    obtain ⟨v, ws, e1, e2, e3⟩ := r
    rw [e1, e2, RVs.bls_of e3]; rfl
theorem RVs.strs_of : ∀ {ns : List Str} {vs : List V}, RVs G μ H (ns.map D.str) vs → vs = ns.map V.str
  | [], vs, r => by simpa only [List.map_nil, RVs] using r
  | n :: ns, vs, r => by
    simp only [List.map_cons, RVs, RV] at r
    obtain ⟨v, ws, e1, e2, e3⟩ := r
    rw [e1, e2, RVs.strs_of e3]; rfl
theorem RVs.strs {ns : List Str} : RVs G μ H (ns.map D.str) (ns.map V.str) := by
  induction ns with
  | nil => exact RVs.nil
  | cons n r ih => exact RVs.cons (by simp only [RV]) ih
theorem RSt.mono (e : Ext G μ H μ' H') (r : RSt G μ H ds σ) : RSt G μ' H' ds σ := ⟨r.len, fun i d q => let ⟨v, h1, h2⟩ := r.at_ i d q; ⟨v, h1, RV.mono e d v h2⟩⟩
theorem RSt.set {d : D} {v : V} (r : RSt G μ H ds σ) (i : Nat) (q : RV G μ H d v) : RSt G μ H (ds.set i (some d)) (σ.set i (some v)) := by
  refine ⟨by rw [List.length_set, List.length_set, r.len], fun j x e => ?_⟩
  by_cases hj : i = j
  · subst hj
    by_cases hl : i < ds.length
    · rw [List.getElem?_set_self hl] at e
      cases e
      exact ⟨v, by rw [List.getElem?_set_self (by rw [← r.len]; exact hl)], q⟩
    · rw [List.getElem?_eq_none (by simpa using hl)] at e
      cases e
  · rw [List.getElem?_set_ne hj] at e
    rw [List.getElem?_set_ne hj]
    exact r.at_ j x e
theorem RSt.unset (r : RSt G μ H ds σ) (i : Nat) (o : Option V) : RSt G μ H (ds.set i none) (σ.set i o) := by
  refine ⟨by rw [List.length_set, List.length_set, r.len], fun j x e => ?_⟩
  by_cases hj : i = j
  · subst hj
    by_cases hl : i < ds.length
    · rw [List.getElem?_set_self hl] at e
      cases e
    · rw [List.getElem?_eq_none (by simpa using hl)] at e
      cases e
  · rw [List.getElem?_set_ne hj] at e
    rw [List.getElem?_set_ne hj]
    exact r.at_ j x e
end
/-! ### 3. what is wanted behind a run -/
section
variable (G : Cw)
def post {α β : Type} (W : WX) (ds : DSt) (rel : List Addr → Hp → α → β → Prop) (μ : List Addr) (H : Hp) (r : Res α) (Q : β → Hp → Prop) : Prop :=
  match r with
  | .ok a h => ∀ μ' b H', Ext G μ H μ' H' → Wd G μ' h H' → rel μ' H' a b → Q b H'
  | .exc e h => ∀ μ' σ' cls d H', Ext G μ H μ' H' → Wd G μ' h H' → RSt G μ' H' ds σ' → RX G μ' H' e cls d → W cls d σ' H'
  | .no => False
def tE (W : WX) (m : EM) : TE := fun σ H Q => ∃ μ ds h, Wd G μ h H ∧ RSt G μ H ds σ ∧ post G W ds (RV G) μ H (m ds h) Q
def relB (_ : List Addr) (_ : Hp) (a b : Bool) : Prop := a = b
def tT (W : WX) (m : TM) : TT := fun σ H Q => ∃ μ ds h, Wd G μ h H ∧ RSt G μ H ds σ ∧ post G W ds relB μ H (m ds h) Q
def tA (W : WX) (m : AM) : TA := fun σ H Q => ∃ μ ds h, Wd G μ h H ∧ RSt G μ H ds σ ∧ post G W ds (RVs G) μ H (m ds h) Q
def postS (W : WX) (μ : List Addr) (H : Hp) (r : RS) (E : Ends) : Prop :=
  match r with
  | .nx ds h => ∀ μ' σ' H', Ext G μ H μ' H' → Wd G μ' h H' → RSt G μ' H' ds σ' → E.nx σ' H'
  | .bk ds h => ∀ μ' σ' H', Ext G μ H μ' H' → Wd G μ' h H' → RSt G μ' H' ds σ' → E.bk σ' H'
  | .ct ds h => ∀ μ' σ' H', Ext G μ H μ' H' → Wd G μ' h H' → RSt G μ' H' ds σ' → E.ct σ' H'
  | .rt d h => ∀ μ' v H', Ext G μ H μ' H' → Wd G μ' h H' → RV G μ' H' d v → E.rt v H'
  | .exc e ds h => ∀ μ' σ' cls d H', Ext G μ H μ' H' → Wd G μ' h H' → RSt G μ' H' ds σ' → RX G μ' H' e cls d → W cls d σ' H'
  | .no => False
def tS (W : WX) (m : SM) : TS := fun E σ H => ∃ μ ds h, Wd G μ h H ∧ RSt G μ H ds σ ∧ postS G W μ H (m ds h) E
end
section
variable {G : Cw} {α β γ δ : Type} {W : WX} {ds : DSt} {μ μ' : List Addr} {H H' : Hp}
theorem post_mono {rel : List Addr → Hp → α → β → Prop} {r : Res α} {Q : β → Hp → Prop} (e : Ext G μ H μ' H') (p : post G W ds rel μ H r Q) : post G W ds rel μ' H' r Q := by
  cases r with
  | ok a h => exact fun μ2 b H2 e2 => p μ2 b H2 (e.trans e2)
  | exc x h => exact fun μ2 σ2 c d H2 e2 => p μ2 σ2 c d H2 (e.trans e2)
  | no => exact p
theorem postS_mono {r : RS} {E : Ends} (e : Ext G μ H μ' H') (p : postS G W μ H r E) : postS G W μ' H' r E := by
  cases r with
  | nx a h => exact fun μ2 b H2 e2 => p μ2 b H2 (e.trans e2)
  | bk a h => exact fun μ2 b H2 e2 => p μ2 b H2 (e.trans e2)
  | ct a h => exact fun μ2 b H2 e2 => p μ2 b H2 (e.trans e2)
  | rt a h => exact fun μ2 b H2 e2 => p μ2 b H2 (e.trans e2)
  | exc x s h => exact fun μ2 σ2 c d H2 e2 => p μ2 σ2 c d H2 (e.trans e2)
  | no => exact p
theorem post_bind {rel1 : List Addr → Hp → α → β → Prop} {rel2 : List Addr → Hp → γ → δ → Prop} {r : Res α} {f : α → DH → Res γ} {Q1 : β → Hp → Prop} {Q2 : δ → Hp → Prop} (p : post G W ds rel2 μ H (r.bind f) Q2)
    (k : ∀ a h μ' b H', Ext G μ H μ' H' → Wd G μ' h H' → rel1 μ' H' a b → post G W ds rel2 μ' H' (f a h) Q2 → Q1 b H') : post G W ds rel1 μ H r Q1 := by
  cases r with
  | ok a h => exact fun μ2 b H2 e2 w r => k a h μ2 b H2 e2 w r (post_mono e2 p)
  | exc x h => exact p
  | no => exact p
/-- a run that ends at once -/
theorem post_ok {rel : List Addr → Hp → α → β → Prop} {a : α} {h : DH} {b : β} {Q : β → Hp → Prop} (p : post G W ds rel μ H (.ok a h) Q) (w : Wd G μ h H) (r : rel μ H a b) : Q b H := p μ b H Ext.refl w r
/-! ### 4. new and changed objects -/
theorem sqT_new {K : PySem.W.Frag} {H : Hp} {p : Addr} {o : HO} (hn : H p = none) {a : Addr} {xs : List V} (s : SqT K H a xs) : SqT K (upd H p o) a xs := by
  rcases s with (s | ⟨u, s⟩) | s
  · exact .inl (.inl (by rw [upd_ne (ne_of_none s hn)]; exact s))
  · exact .inl (.inr ⟨u, by rw [upd_ne (ne_of_none s hn)]; exact s⟩)
  · exact .inr s
theorem sqF_new {G : Cw} {H : Hp} {p : Addr} {o : HO} (hn : H p = none) {a : Addr} {xs : List V} (s : SqF G H a xs) : SqF G (upd H p o) a xs := by
  rcases s with ⟨u, s⟩ | s
  · exact .inl ⟨u, by rw [upd_ne (ne_of_none s hn)]; exact s⟩
  · exact .inr s
theorem ext_new {p : Addr} {o : HO} (hn : H p = none) : Ext G μ H μ (upd H p o) := ⟨fun _ _ e => e, fun _ _ s => sqT_new hn s⟩
theorem ext_app (ν : List Addr) : Ext G μ H (μ ++ ν) H := ⟨fun n a e => by
  rw [List.getElem?_append_left (List.getElem?_eq_some_iff.mp e).1]; exact e, fun _ _ s => s⟩
theorem RObj.mono {o : DO} {a : Addr} (e : Ext G μ H μ' H') (r : RObj G μ H a o) (k : ∀ u, H a = some u → H' a = some u) : RObj G μ' H' a o := by
  cases o with
  | lst xs => obtain ⟨vs, h1, h2⟩ := r; exact ⟨vs, k _ h1, RVs.mono e _ _ h2⟩
  | fro xs =>
    obtain ⟨vs, h1, h2⟩ := r
    refine ⟨vs, ?_, RVs.mono e _ _ h2⟩
    rcases h1 with ⟨u, h1⟩ | h1
    · exact .inl ⟨u, k _ h1⟩
    · exact .inr h1
  | dK kvs => obtain ⟨ws, h1, h2, h3⟩ := r; exact ⟨ws, k _ h1, h2, RVs.mono e _ _ h3⟩
  | ins c fs => obtain ⟨dx, ws, h1, h2, h3⟩ := r; exact ⟨dx, ws, k _ h1, h2, RVs.mono e _ _ h3⟩
/-- an untracked new thing (a tuple, an instance's dict) -/
theorem Wd.new {h : DH} {p : Addr} {o : HO} (w : Wd G μ h H) (hn : H p = none) : Wd G μ h (upd H p o) :=
  ⟨w.len, fun n a u e1 e2 => (w.ob n a u e1 e2).mono (ext_new hn) fun x hx => by rw [upd_ne (ne_of_none hx hn)]; exact hx, w.nd⟩
theorem RObj.there {o : DO} {a : Addr} (r : RObj G μ H a o) (m : o.mu = true) : ∃ u, H a = some u ∧ Mut (some u) := by
  cases o with
  | lst xs => obtain ⟨vs, h1, _⟩ := r; exact ⟨_, h1, trivial⟩
  | fro xs => cases m
  | dK kvs => obtain ⟨vs, h1, _⟩ := r; exact ⟨_, h1, trivial⟩
  | ins c fs => obtain ⟨dx, vs, h1, _⟩ := r; exact ⟨_, h1, trivial⟩
theorem get_last {α : Type} (l : List α) (x : α) : (l ++ [x])[l.length]? = some x := by simp
theorem get_app {α : Type} {l : List α} {x : α} {n : Nat} {y : α} (h : (l ++ [x])[n]? = some y) : (n < l.length ∧ l[n]? = some y) ∨ (n = l.length ∧ y = x) := by
  by_cases hn : n < l.length
  · rw [List.getElem?_append_left hn] at h; exact .inl ⟨hn, h⟩
  · have := (List.getElem?_eq_some_iff.mp h).1
    simp at this
    have e : n = l.length := by omega
    subst e
    simp at h
    exact .inr ⟨rfl, h.symm⟩
/-- a new tracked object -/
theorem Wd.alloc {h : DH} {p : Addr} {o : HO} {u : DO} (w : Wd G μ h H) (hn : H p = none) (hu : u.mu = true) (r : RObj G (μ ++ [p]) (upd H p o) p u) : Wd G (μ ++ [p]) (h ++ [u]) (upd H p o) := by
  have ex : Ext G μ H (μ ++ [p]) (upd H p o) := (ext_new hn).trans (ext_app [p])
  refine ⟨by simp [w.len], fun n a x e1 e2 => ?_, fun n m a x y e1 e2 e3 e4 m1 m2 => ?_⟩
  · rcases get_app e2 with ⟨l2, e2⟩ | ⟨l2, e2⟩
    · rcases get_app e1 with ⟨l1, e1⟩ | ⟨l1, e1⟩
      · exact (w.ob n a x e1 e2).mono ex fun z hz => by rw [upd_ne (ne_of_none hz hn)]; exact hz
      · have := w.len; omega
    · rcases get_app e1 with ⟨l1, e1⟩ | ⟨l1, e1⟩
      · have := w.len; omega
      · subst e2; subst e1; exact r
  · have fresh : ∀ (k : Nat) (q : DO), μ[k]? = some p → h[k]? = some q → q.mu = true → False := fun k q f1 f2 f3 => by
      obtain ⟨z, hz, _⟩ := (w.ob k p q f1 f2).there f3
      rw [hn] at hz; cases hz
    rcases get_app e1 with ⟨l1, e1'⟩ | ⟨l1, e1⟩
    · rcases get_app e3 with ⟨k1, e3⟩ | ⟨k1, e3⟩
      · rcases get_app e2 with ⟨l2, e2⟩ | ⟨l2, e2⟩
        · rcases get_app e4 with ⟨k2, e4⟩ | ⟨k2, e4⟩
          · exact w.nd n m a x y e1' e2 e3 e4 m1 m2
          · have := w.len; omega
        · subst e2; exact (fresh n x e1' e3 m1).elim
      · have := w.len; omega
    · rcases get_app e2 with ⟨l2, e2'⟩ | ⟨l2, e2⟩
      · rcases get_app e4 with ⟨k2, e4⟩ | ⟨k2, e4⟩
        · subst e1; exact (fresh m y e2' e4 m2).elim
        · have := w.len; omega
      · omega
/-- a tracked object changed -/
theorem Wd.write {h : DH} {n : Nat} {a : Addr} {o : HO} {u u' : DO} (w : Wd G μ h H) (e1 : μ[n]? = some a) (e2 : h[n]? = some u) (m : u.mu = true) (m' : u'.mu = true)
    (ex : Ext G μ H μ (upd H a o)) (r : RObj G μ (upd H a o) a u') : Wd G μ (h.set n u') (upd H a o) := by
  have hl : n < h.length := (List.getElem?_eq_some_iff.mp e2).1
  refine ⟨by rw [List.length_set]; exact w.len, fun k b x f1 f2 => ?_, fun k k' b x y f1 f2 f3 f4 m1 m2 => ?_⟩
  · by_cases hk : n = k
    · subst hk
      rw [List.getElem?_set_self hl] at f2
      cases f2
      rw [e1] at f1; cases f1
      exact r
    · rw [List.getElem?_set_ne hk] at f2
      obtain ⟨z1, hz1, mz⟩ := (w.ob n a u e1 e2).there m
      have near : (∀ z, H b = some z → b ≠ a) → RObj G μ (upd H a o) b x := fun q => (w.ob k b x f1 f2).mono ex fun z hz => by rw [upd_ne (q z hz)]; exact hz
      cases x with
      | fro xs =>
        obtain ⟨vs, q, q2⟩ := w.ob k b _ f1 f2
        rcases q with ⟨ob, q⟩ | q
        · exact near fun z hz e => by
            subst e
            rw [q] at hz1; cases hz1; exact mz
        · exact ⟨vs, .inr q, RVs.mono ex _ _ q2⟩
      | lst xs => exact near fun z hz e => by subst e; exact hk (w.nd n k b u _ e1 f1 e2 f2 m rfl)
      | dK xs => exact near fun z hz e => by subst e; exact hk (w.nd n k b u _ e1 f1 e2 f2 m rfl)
      | ins c xs => exact near fun z hz e => by subst e; exact hk (w.nd n k b u _ e1 f1 e2 f2 m rfl)
  · have hx : ∃ x0, h[k]? = some x0 ∧ x0.mu = true := by
      by_cases hk : n = k
      · subst hk; exact ⟨u, e2, m⟩
      · rw [List.getElem?_set_ne hk] at f3; exact ⟨x, f3, m1⟩
    have hy : ∃ y0, h[k']? = some y0 ∧ y0.mu = true := by
      by_cases hk : n = k'
      · subst hk; exact ⟨u, e2, m⟩
      · rw [List.getElem?_set_ne hk] at f4; exact ⟨y, f4, m2⟩
    obtain ⟨x0, g1, g2⟩ := hx
    obtain ⟨y0, g3, g4⟩ := hy
    exact w.nd k k' b x0 y0 f1 f2 g1 g3 g2 g4
end
end Mi
/-! expressions -/
namespace L2
open PySem
section
variable {X : Cx} {e : Expr} {es : List Expr} {st : Stmt} {sts : List Stmt}
theorem PE.imp {t t' : TE} (p : PE X e t) (h : ∀ σ H Q, t' σ H Q → t σ H Q) : PE X e t' := ⟨fun pins s σ H Q I hq => p.run pins s σ H Q I (h σ H Q hq)⟩
theorem PT.imp {t t' : TT} (p : PT X e t) (h : ∀ σ H Q, t' σ H Q → t σ H Q) : PT X e t' := ⟨fun pins s σ H Q I hq => p.run pins s σ H Q I (h σ H Q hq)⟩
theorem PW.imp {t t' : TT} (p : PW X e t) (h : ∀ σ H Q, t' σ H Q → t σ H Q) : PW X e t' := ⟨fun wh pins s σ H Q I hq => p.run wh pins s σ H Q I (h σ H Q hq)⟩
theorem PTs.imp {t t' : TT} (p : PTs X es t) (h : ∀ σ H Q, t' σ H Q → t σ H Q) : PTs X es t' := ⟨fun pins s σ H Q I hq => p.run pins s σ H Q I (h σ H Q hq)⟩
theorem PA.imp {t t' : TA} (p : PA X es t) (h : ∀ σ H Q, t' σ H Q → t σ H Q) : PA X es t' := ⟨fun pos pins s σ H Q I hq => p.run pos pins s σ H Q I (h σ H Q hq)⟩
theorem PO.imp {e : Option Expr} {t t' : TO} (p : PO X e t) (h : ∀ σ H Q, t' σ H Q → t σ H Q) : PO X e t' := ⟨fun pins s σ H Q I hq => p.run pins s σ H Q I (h σ H Q hq)⟩
theorem PS.imp {t t' : TS} (p : PS X st t) (h : ∀ E σ H, t' E σ H → t E σ H) : PS X st t' := ⟨fun pins s σ H E I hq => p.run pins s σ H E I (h E σ H hq)⟩
theorem PSs.imp {t t' : TS} (p : PSs X sts t) (h : ∀ E σ H, t' E σ H → t E σ H) : PSs X sts t' := ⟨fun pins s σ H E I hq => p.run pins s σ H E I (h E σ H hq)⟩
end
end L2
namespace Mi
open PySem L2
/-! ### 5. the runs of expressions -/
def mC (d : D) : EM := fun _ h => .ok d h
def mVar (i : Nat) : EM := fun ds h => match ds.getD i none with | some d => .ok d h | none => .no
def mOp (f : D → D → DH → Res D) (a b : EM) : EM := fun ds h => (a ds h).bind fun x h1 => (b ds h1).bind fun y h2 => f x y h2
def mUn (f : D → DH → Res D) (a : EM) : EM := fun ds h => (a ds h).bind fun x h1 => f x h1
def aNil : AM := fun _ h => .ok [] h
def aCons (a : EM) (r : AM) : AM := fun ds h => (a ds h).bind fun x h1 => (r ds h1).bind fun xs h2 => .ok (x :: xs) h2
def mTup (a : AM) : EM := fun ds h => (a ds h).bind fun xs h1 => if xs.length ≤ 16777216 then .ok (.tup xs) h1 else .no
def mLst (a : AM) : EM := fun ds h => (a ds h).bind fun xs h1 => if xs.length ≤ 16777216 then .ok (.ref h1.length) (h1 ++ [.lst xs]) else .no
def mCB (f : List D → DH → Res D) (a : AM) : EM := fun ds h => (a ds h).bind fun xs h1 => f xs h1
def mTest (a : EM) : TM := fun ds h => (a ds h).bind fun x h1 => match x with | .bl b => .ok b h1 | _ => .no
def mNot (t : TM) : TM := fun ds h => (t ds h).bind fun b h1 => .ok (!b) h1
def mAnd (t u : TM) : TM := fun ds h => (t ds h).bind fun b h1 => if b then u ds h1 else .ok false h1
def mOr (t u : TM) : TM := fun ds h => (t ds h).bind fun b h1 => if b then .ok true h1 else u ds h1
def mYes : TM := fun _ h => .ok true h
def mNotV (a : EM) : EM := fun ds h => (a ds h).bind fun x h1 => match x with | .bl b => .ok (.bl (!b)) h1 | _ => .no
def mAndV (a b : EM) : EM := fun ds h => (a ds h).bind fun x h1 => match x with | .bl c => (if c then b ds h1 else .ok (.bl false) h1) | _ => .no
def mOrV (a b : EM) : EM := fun ds h => (a ds h).bind fun x h1 => match x with | .bl c => (if c then .ok (.bl true) h1 else b ds h1) | _ => .no
def mIf (t : TM) (a b : EM) : EM := fun ds h => (t ds h).bind fun c h1 => if c then a ds h1 else b ds h1
def oNone : DSt → DH → Res (Option Int) := fun _ h => .ok none h
def oSome (a : EM) : DSt → DH → Res (Option Int) := fun ds h => (a ds h).bind fun x h1 => match x with | .int i => .ok (some i) h1 | _ => .no
def mSl (f : D → Option Int → Option Int → DH → Res D) (a : EM) (lo hi : DSt → DH → Res (Option Int)) : EM := fun ds h => (a ds h).bind fun x h1 => (lo ds h1).bind fun l h2 => (hi ds h2).bind fun u h3 => f x l u h3
def isTy (T : String) (x : D) (h : DH) : Bool :=
  match x with
  | .str _ => T == "str"
  | .ref n => match h[n]? with
    | some (.lst _) => T == "list"
    | some (.fro _) => T == "list"
    | some (.dK _) => T == "dict"
    | _ => false
  | _ => false
def mMt (T : String) (f : D → List D → DH → Res D) (o : EM) (a : AM) : EM := fun ds h => (o ds h).bind fun x h1 => if isTy T x h1 then (a ds h1).bind fun xs h2 => f x xs h2 else .no
/-- a chain a op b op' c -/
def mChain (f g : D → D → DH → Res D) (a b c : EM) : EM := fun ds h => (a ds h).bind fun x h1 => (b ds h1).bind fun y h2 => (f x y h2).bind fun z h3 => match z with | .bl k => (if k then (c ds h3).bind fun w h4 => g y w h4 else .ok (.bl false) h3) | _ => .no
/-! ### 6. they are sound -/
section
variable {G : Cw} {X : Cx} {W : WX} {pos : Pos}
def OpS (G : Cw) (r : R2) (f : D → D → DH → Res D) : Prop := ∀ (W : WX) (ds : DSt) (μ : List Addr) (h : DH) (H : Hp) (x y : D) (v u : V) (Q : VK), Wd G μ h H → RV G μ H x v → RV G μ H y u → post G W ds (RV G) μ H (f x y h) Q → r v u H Q
def UnS (G : Cw) (r : V → Hp → VK → Prop) (f : D → DH → Res D) : Prop := ∀ (W : WX) (ds : DSt) (μ : List Addr) (h : DH) (H : Hp) (x : D) (v : V) (Q : VK), Wd G μ h H → RV G μ H x v → post G W ds (RV G) μ H (f x h) Q → r v H Q
def CallS (G : Cw) (r : List V → Hp → VK → Prop) (f : List D → DH → Res D) : Prop := ∀ (W : WX) (ds : DSt) (μ : List Addr) (h : DH) (H : Hp) (xs : List D) (vs : List V) (Q : VK), Wd G μ h H → RVs G μ H xs vs → post G W ds (RV G) μ H (f xs h) Q → r vs H Q
def MtSd (G : Cw) (r : V → List V → Hp → VK → Prop) (f : D → List D → DH → Res D) : Prop := ∀ (W : WX) (ds : DSt) (μ : List Addr) (h : DH) (H : Hp) (x : D) (v : V) (xs : List D) (vs : List V) (Q : VK), Wd G μ h H → RV G μ H x v → RVs G μ H xs vs → post G W ds (RV G) μ H (f x xs h) Q → r v vs H Q
def SlS (G : Cw) (r : V → Option Int → Option Int → Hp → VK → Prop) (f : D → Option Int → Option Int → DH → Res D) : Prop := ∀ (W : WX) (ds : DSt) (μ : List Addr) (h : DH) (H : Hp) (x : D) (v : V) (lo hi : Option Int) (Q : VK), Wd G μ h H → RV G μ H x v → post G W ds (RV G) μ H (f x lo hi h) Q → r v lo hi H Q
theorem pm_var (i : Nat) {x : Str} {p : Pos} (he : PE X (.Name x p) (L2.tVar i)) : PE X (.Name x p) (tE G W (mVar i)) := he.imp fun σ H Q ⟨μ, ds, h, w, r, p⟩ => by
  unfold mVar at p
  cases e : ds.getD i none with
  | none => rw [e] at p; exact p.elim
  | some d =>
    rw [e] at p
    rw [List.getD_eq_getElem?_getD] at e
    have e' : ds[i]? = some (some d) := by
      cases q : ds[i]? with
      | none => rw [q] at e; cases e
      | some o => rw [q] at e; exact congrArg some e
    obtain ⟨v, h1, h2⟩ := r.at_ i d e'
    exact ⟨v, h1, post_ok p w h2⟩
theorem pm_const {e : Expr} {d : D} {v : V} (he : PE X e (L2.tC v)) (r : ∀ μ H, RV G μ H d v) : PE X e (tE G W (mC d)) := he.imp fun σ H Q ⟨μ, ds, h, w, rs, p⟩ => post_ok p w (r μ H)
theorem pm_int {i : Int} {j} : PE X (.Constant (.int i) j pos) (tE G W (mC (.int i))) := pm_const pe_int fun _ _ => by simp only [RV]
theorem pm_bl {b : Bool} {j} : PE X (.Constant (.bool b) j pos) (tE G W (mC (.bl b))) := pm_const pe_bl fun _ _ => by simp only [RV]
theorem pm_non {j} : PE X (.Constant .none j pos) (tE G W (mC .non)) := pm_const pe_non fun _ _ => by simp only [RV]
theorem pm_str {x : Str} {j} : PE X (.Constant (.str x) j pos) (tE G W (mC (.str x))) := pm_const pe_str fun _ _ => by simp only [RV]
variable {a b c : Expr} {ma mb mc : EM}
theorem snd_op {r : R2} {f : D → D → DH → Res D} (hs : OpS G r f) : ∀ σ H Q, tE G W (mOp f ma mb) σ H Q → tOp r (tE G W ma) (tE G W mb) σ H Q := fun σ H Q ⟨μ, ds, h, w, rs, p⟩ =>
  ⟨μ, ds, h, w, rs, post_bind p fun x h1 μ1 v H1 e1 w1 r1 p1 => ⟨μ1, ds, h1, w1, rs.mono e1, post_bind p1 fun y h2 μ2 u H2 e2 w2 r2 p2 => hs W ds μ2 h2 H2 x y v u Q w2 (RV.mono e2 _ _ r1) r2 p2⟩⟩
theorem pm_op {op : Operator} {r : R2} {f : D → D → DH → Res D} (ho : OpR X (binaryOp op) r) (hs : OpS G r f) (ha : PE X a (tE G W ma)) (hb : PE X b (tE G W mb)) : PE X (.BinOp a op b pos) (tE G W (mOp f ma mb)) := (pe_op ho ha hb).imp (snd_op hs)
theorem pm_cmp {op : CmpOp} {r : R2} {f : D → D → DH → Res D} (ho : OpR X (compareOp op) r) (hs : OpS G r f) (ha : PE X a (tE G W ma)) (hb : PE X b (tE G W mb)) (hm : behindInMarks op b = false := by rfl) : PE X (.Compare a [op] [b] pos) (tE G W (mOp f ma mb)) := (pe_cmpR ho ha hb hm).imp (snd_op hs)
theorem pm_ix {r : R2} {f : D → D → DH → Res D} (hr : IxR X r) (hs : OpS G r f) (ha : PE X a (tE G W ma)) (hb : PE X b (tE G W mb)) (hp : PlainIx b := by exact fun _ _ => rfl) : PE X (.Subscript a b pos) (tE G W (mOp f ma mb)) := (pe_ix hr ha hb hp).imp (snd_op hs)
theorem pm_un {op : UnaryOp} {r : V → Hp → VK → Prop} {f : D → DH → Res D} (ho : UnR X (unaryOp op) r) (hs : UnS G r f) (ha : PE X a (tE G W ma)) : PE X (.UnaryOp op a pos) (tE G W (mUn f ma)) := (pe_un ho ha).imp fun σ H Q ⟨μ, ds, h, w, rs, p⟩ =>
  ⟨μ, ds, h, w, rs, post_bind p fun x h1 μ1 v H1 e1 w1 r1 p1 => hs W ds μ1 h1 H1 x v Q w1 r1 p1⟩
theorem pm_chain {op op' : CmpOp} {r r' : R2} {f g : D → D → DH → Res D} (ho : OpR X (compareOp op) r) (ho' : OpR X (compareOp op') r') (hs : OpS G r f) (hs' : OpS G r' g) (h : PE X (.Compare a [op, op'] [b, c] pos) (tChain r r' (tE G W ma) (tE G W mb) (tE G W mc))) :
    PE X (.Compare a [op, op'] [b, c] pos) (tE G W (mChain f g ma mb mc)) := h.imp fun σ H Q ⟨μ, ds, h, w, rs, p⟩ =>
  ⟨μ, ds, h, w, rs, post_bind p fun x h1 μ1 v H1 e1 w1 r1 p1 => ⟨μ1, ds, h1, w1, rs.mono e1, post_bind p1 fun y h2 μ2 u H2 e2 w2 r2 p2 =>
    hs W ds μ2 h2 H2 x y v u _ w2 (RV.mono e2 _ _ r1) r2 (post_bind (rel1 := RV G) p2 fun z h3 μ3 zv H3 e3 w3 r3 p3 => by
      cases z with
      | bl k =>
        simp only [RV] at r3
        refine ⟨k, r3, ?_⟩
        cases k with
        | true => exact ⟨μ3, ds, h3, w3, rs.mono ((e1.trans e2).trans e3), post_bind p3 fun q h4 μ4 qv H4 e4 w4 r4 p4 => hs' W ds μ4 h4 H4 y q u qv Q w4 (RV.mono (e3.trans e4) _ _ r2) r4 p4⟩
        | false => exact post_ok p3 w3 (by simp only [RV])
      | _ => exact p3.elim)⟩⟩
/-! argument lists, displays -/
theorem am_nil : PA X [] (tA G W aNil) := pa_nil.imp fun σ H Q ⟨μ, ds, h, w, rs, p⟩ => post_ok p w RVs.nil
theorem am_cons {e : Expr} {es : List Expr} {me : EM} {mr : AM} (ha : PE X e (tE G W me)) (hr : PA X es (tA G W mr)) (hs : starEach (e :: es) X.env = (false, eval e X.env) :: starEach es X.env := by rfl) : PA X (e :: es) (tA G W (aCons me mr)) :=
  (pa_cons ha hr hs).imp fun σ H Q ⟨μ, ds, h, w, rs, p⟩ => ⟨μ, ds, h, w, rs, post_bind p fun x h1 μ1 v H1 e1 w1 r1 p1 => ⟨μ1, ds, h1, w1, rs.mono e1, post_bind p1 fun xs h2 μ2 vs H2 e2 w2 r2 p2 => post_ok p2 w2 (RVs.cons (RV.mono e2 _ _ r1) r2)⟩⟩
theorem new_tup {μ : List Addr} {h : DH} {H : Hp} {ds : DSt} {xs : List D} {vs : List V} {Q : VK} (w : Wd G μ h H) (r : RVs G μ H xs vs) (p : post G W ds (RV G) μ H (.ok (.tup xs) h) Q) : ∀ q, H q = none → Q (.ref q) (upd H q (.tup vs)) := fun q hq =>
  p μ (.ref q) (upd H q (.tup vs)) (ext_new hq) (w.new hq) (by simp only [RV]; exact ⟨q, vs, rfl, SqT.of upd_same, RVs.mono (ext_new hq) _ _ r⟩)
theorem new_lst {μ : List Addr} {h : DH} {H : Hp} {ds : DSt} {xs : List D} {vs : List V} {Q : VK} (w : Wd G μ h H) (r : RVs G μ H xs vs) (p : post G W ds (RV G) μ H (.ok (.ref h.length) (h ++ [.lst xs])) Q) : ∀ q, H q = none → Q (.ref q) (upd H q (.lst vs)) := fun q hq => by
  have ex : Ext G μ H (μ ++ [q]) (upd H q (.lst vs)) := (ext_new hq).trans (ext_app [q])
  refine p (μ ++ [q]) (.ref q) (upd H q (.lst vs)) ex (w.alloc hq rfl ⟨vs, upd_same, RVs.mono ex _ _ r⟩) ?_
  simp only [RV]
  exact ⟨q, rfl, by rw [← w.len]; exact get_last μ q⟩
theorem pm_tup {es : List Expr} {m : AM} {x1} (ha : PA X es (tA G W m)) : PE X (.Tuple es x1 pos) (tE G W (mTup m)) := (pe_tup ha).imp fun σ H Q ⟨μ, ds, h, w, rs, p⟩ => ⟨μ, ds, h, w, rs, post_bind p fun xs h1 μ1 vs H1 e1 w1 r1 p1 => by
  by_cases hz : xs.length ≤ 16777216
  · rw [if_pos hz] at p1
    exact ⟨by rw [← r1.length, sizeLine_eq]; exact hz, new_tup w1 r1 p1⟩
  · rw [if_neg hz] at p1; exact p1.elim⟩
theorem pm_lst {es : List Expr} {m : AM} (ha : PA X es (tA G W m)) : PE X (.List es pos) (tE G W (mLst m)) := (pe_lst ha).imp fun σ H Q ⟨μ, ds, h, w, rs, p⟩ => ⟨μ, ds, h, w, rs, post_bind p fun xs h1 μ1 vs H1 e1 w1 r1 p1 => by
  by_cases hz : xs.length ≤ 16777216
  · rw [if_pos hz] at p1
    exact ⟨by rw [← r1.length, sizeLine_eq]; exact hz, new_lst w1 r1 p1⟩
  · rw [if_neg hz] at p1; exact p1.elim⟩
/-! calls of what is built in -/
theorem snd_cb {r : List V → Hp → VK → Prop} {f : List D → DH → Res D} {m : AM} (hs : CallS G r f) : ∀ σ H Q, tE G W (mCB f m) σ H Q → tCB r (tA G W m) σ H Q := fun σ H Q ⟨μ, ds, h, w, rs, p⟩ =>
  ⟨μ, ds, h, w, rs, post_bind p fun xs h1 μ1 vs H1 e1 w1 r1 p1 => hs W ds μ1 h1 H1 xs vs Q w1 r1 p1⟩
theorem pm_cb {e : Expr} {r : List V → Hp → VK → Prop} {f : List D → DH → Res D} {m : AM} (hs : CallS G r f) (he : PE X e (tCB r (tA G W m))) : PE X e (tE G W (mCB f m)) := he.imp (snd_cb hs)
theorem pm_cb0 {e : Expr} {r : List V → Hp → VK → Prop} {f : List D → DH → Res D} (hs : CallS G r f) (he : PE X e (tCB r L2.tNil)) : PE X e (tE G W (mCB f aNil)) := he.imp fun σ H Q ⟨μ, ds, h, w, rs, p⟩ => hs W ds μ h H [] [] Q w RVs.nil p
theorem ty_ok {T : String} {μ : List Addr} {h : DH} {H : Hp} {x : D} {v : V} (w : Wd G μ h H) (r : RV G μ H x v) (t : isTy T x h = true) : tyV G.K T v H := by
  cases x with
  | str s => simp only [RV] at r; subst r; exact beq_iff_eq.mp t
  | ref n =>
    simp only [RV] at r
    obtain ⟨a, rfl, e⟩ := r
    cases q : h[n]? with
    | none => simp only [isTy, q] at t; cases t
    | some o =>
      simp only [isTy, q] at t
      have ob := w.ob n a o e q
      cases o with
      | lst xs => obtain ⟨vs, h1, _⟩ := ob; exact .inl ⟨beq_iff_eq.mp t, vs, SqL.of h1⟩
      | fro xs =>
        obtain ⟨vs, h1, _⟩ := ob
        refine .inl ⟨beq_iff_eq.mp t, vs, ?_⟩
        rcases h1 with ⟨u, h1⟩ | h1
        · exact .inl (.inr ⟨u, h1⟩)
        · exact h1 H
      | dK kvs => obtain ⟨vs, h1, _⟩ := ob; exact .inr (.inr (.inl ⟨beq_iff_eq.mp t, .inl ⟨_, h1⟩⟩))
      | ins c fs => cases t
  | _ => cases t
theorem snd_mt {T : String} {r : V → List V → Hp → VK → Prop} {f : D → List D → DH → Res D} {mo : EM} {m : AM} (hs : MtSd G r f) : ∀ σ H Q, tE G W (mMt T f mo m) σ H Q → tBM G.K T r (tE G W mo) (tA G W m) σ H Q := fun σ H Q ⟨μ, ds, h, w, rs, p⟩ =>
  ⟨μ, ds, h, w, rs, post_bind p fun x h1 μ1 v H1 e1 w1 r1 p1 => by
    by_cases t : isTy T x h1 = true
    · rw [if_pos t] at p1
      exact ⟨ty_ok w1 r1 t, μ1, ds, h1, w1, rs.mono e1, post_bind p1 fun xs h2 μ2 vs H2 e2 w2 r2 p2 => hs W ds μ2 h2 H2 x v xs vs Q w2 (RV.mono e2 _ _ r1) r2 p2⟩
    · rw [if_neg t] at p1; exact p1.elim⟩
theorem pm_mt {e : Expr} {T : String} {r : V → List V → Hp → VK → Prop} {f : D → List D → DH → Res D} {mo : EM} {m : AM} (hs : MtSd G r f) (he : PE X e (tBM G.K T r (tE G W mo) (tA G W m))) : PE X e (tE G W (mMt T f mo m)) := he.imp (snd_mt hs)
theorem pm_mt0 {e : Expr} {T : String} {r : V → List V → Hp → VK → Prop} {f : D → List D → DH → Res D} {mo : EM} (hs : MtSd G r f) (he : PE X e (tBM0 G.K T r (tE G W mo))) : PE X e (tE G W (mMt T f mo aNil)) := he.imp fun σ H Q ⟨μ, ds, h, w, rs, p⟩ =>
  ⟨μ, ds, h, w, rs, post_bind p fun x h1 μ1 v H1 e1 w1 r1 p1 => by
    by_cases t : isTy T x h1 = true
    · rw [if_pos t] at p1
      exact ⟨ty_ok w1 r1 t, hs W ds μ1 h1 H1 x v [] [] Q w1 r1 RVs.nil p1⟩
    · rw [if_neg t] at p1; exact p1.elim⟩
/-! slices -/
theorem om_none : PO X none (fun σ H (Q : Option Int → Hp → Prop) => ∃ μ ds h, Wd G μ h H ∧ RSt G μ H ds σ ∧ post G W ds (fun _ _ a b => a = b) μ H (oNone ds h) Q) := po_none.imp fun σ H Q ⟨μ, ds, h, w, rs, p⟩ => post_ok (b := none) p w rfl
theorem om_some {e : Expr} {m : EM} (he : PE X e (tE G W m)) : PO X (some e) (fun σ H (Q : Option Int → Hp → Prop) => ∃ μ ds h, Wd G μ h H ∧ RSt G μ H ds σ ∧ post G W ds (fun _ _ a b => a = b) μ H (oSome m ds h) Q) := (po_some he).imp fun σ H Q ⟨μ, ds, h, w, rs, p⟩ =>
  ⟨μ, ds, h, w, rs, post_bind p fun x h1 μ1 v H1 e1 w1 r1 p1 => by
    cases x with
    | int i => simp only [RV] at r1; exact ⟨i, r1, post_ok (b := some i) p1 w1 rfl⟩
    | _ => exact p1.elim⟩
theorem pm_slice {r : V → Option Int → Option Int → Hp → VK → Prop} {f : D → Option Int → Option Int → DH → Res D} {e : Expr} {lo hi : Option Expr} {p2 : Pos} {me : EM} {ml mh : DSt → DH → Res (Option Int)} (hr : SlR X r) (hs : SlS G r f) (he : PE X e (tE G W me))
    (hl : PO X lo (fun σ H (Q : Option Int → Hp → Prop) => ∃ μ ds h, Wd G μ h H ∧ RSt G μ H ds σ ∧ post G W ds (fun _ _ a b => a = b) μ H (ml ds h) Q))
    (hu : PO X hi (fun σ H (Q : Option Int → Hp → Prop) => ∃ μ ds h, Wd G μ h H ∧ RSt G μ H ds σ ∧ post G W ds (fun _ _ a b => a = b) μ H (mh ds h) Q)) : PE X (.Subscript e (.Slice lo hi none p2) pos) (tE G W (mSl f me ml mh)) := (pe_slice hr he hl hu).imp fun σ H Q ⟨μ, ds, h, w, rs, p⟩ =>
  ⟨μ, ds, h, w, rs, post_bind p fun x h1 μ1 v H1 e1 w1 r1 p1 => ⟨μ1, ds, h1, w1, rs.mono e1, post_bind p1 fun l h2 μ2 l' H2 e2 w2 r2 p2 => ⟨μ2, ds, h2, w2, rs.mono (e1.trans e2), post_bind p2 fun u h3 μ3 u' H3 e3 w3 r3 p3 => by
    subst r2; subst r3
    exact hs W ds μ3 h3 H3 x v l u Q w3 (RV.mono (e2.trans e3) _ _ r1) p3⟩⟩⟩
/-! tests -/
variable {t u : TM} {rest : List Expr}
theorem snd_test {m : EM} {te : TE} (hq : ∀ σ H Q, tE G W m σ H Q → te σ H Q) : ∀ σ H Q, tT G W (mTest m) σ H Q → tTest te σ H Q := fun σ H Q ⟨μ, ds, h, w, rs, p⟩ => hq σ H _ ⟨μ, ds, h, w, rs, post_bind p fun x h1 μ1 v H1 e1 w1 r1 p1 => by
  cases x with
  | bl b => simp only [RV] at r1; exact ⟨b, r1, post_ok (b := b) p1 w1 rfl⟩
  | _ => exact p1.elim⟩
theorem tm_cmp {op : CmpOp} {r : R2} {f : D → D → DH → Res D} (ho : OpR X (compareOp op) r) (hs : OpS G r f) (ha : PE X a (tE G W ma)) (hb : PE X b (tE G W mb)) (hm : behindInMarks op b = false := by rfl) : PT X (.Compare a [op] [b] pos) (tT G W (mTest (mOp f ma mb))) := (pt_cmpR ho ha hb hm).imp (snd_test (snd_op hs))
theorem tm_chain {op op' : CmpOp} {r r' : R2} {f g : D → D → DH → Res D} (hs : OpS G r f) (hs' : OpS G r' g) (h : PT X (.Compare a [op, op'] [b, c] pos) (tTest (tChain r r' (tE G W ma) (tE G W mb) (tE G W mc)))) :
    PT X (.Compare a [op, op'] [b, c] pos) (tT G W (mTest (mChain f g ma mb mc))) := h.imp (snd_test fun σ H Q ⟨μ, ds, h, w, rs, p⟩ =>
  ⟨μ, ds, h, w, rs, post_bind p fun x h1 μ1 v H1 e1 w1 r1 p1 => ⟨μ1, ds, h1, w1, rs.mono e1, post_bind p1 fun y h2 μ2 u H2 e2 w2 r2 p2 =>
    hs W ds μ2 h2 H2 x y v u _ w2 (RV.mono e2 _ _ r1) r2 (post_bind (rel1 := RV G) p2 fun z h3 μ3 zv H3 e3 w3 r3 p3 => by
      cases z with
      | bl k =>
        simp only [RV] at r3
        refine ⟨k, r3, ?_⟩
        cases k with
        | true => exact ⟨μ3, ds, h3, w3, rs.mono ((e1.trans e2).trans e3), post_bind p3 fun q h4 μ4 qv H4 e4 w4 r4 p4 => hs' W ds μ4 h4 H4 y q u qv Q w4 (RV.mono (e3.trans e4) _ _ r2) r4 p4⟩
        | false => exact post_ok p3 w3 (by simp only [RV])
      | _ => exact p3.elim)⟩⟩)
theorem tm_val {e : Expr} {m : EM} (he : PE X e (tE G W m)) (h : ∀ whole, isTrue e X.env whole = (do let v ← whole; standAt e.pos; holding [v] (truthy v)) := by intro _; rfl) : PT X e (tT G W (mTest m)) := (pt_val he h).imp fun σ H Q ⟨μ, ds, h, w, rs, p⟩ =>
  ⟨μ, ds, h, w, rs, post_bind p fun x h1 μ1 v H1 e1 w1 r1 p1 => by
    cases x with
    | bl b => simp only [RV] at r1; exact ⟨b, r1, post_ok (b := b) p1 w1 rfl⟩
    | _ => exact p1.elim⟩
theorem tm_not (ha : PT X a (tT G W t)) : PT X (.UnaryOp .Not a pos) (tT G W (mNot t)) := (pt_not ha).imp fun σ H Q ⟨μ, ds, h, w, rs, p⟩ => ⟨μ, ds, h, w, rs, post_bind p fun x h1 μ1 v H1 e1 w1 r1 p1 => post_ok (b := !v) p1 w1 (by show (!x) = !v; rw [show x = v from r1])⟩
theorem wm_and1 (ha : PT X a (tT G W t)) : PW X (.BoolOp .And [a] pos) (tT G W t) := pw_and1 ha
theorem wm_or1 (ha : PT X a (tT G W t)) : PW X (.BoolOp .Or [a] pos) (tT G W t) := pw_or1 ha
theorem wm_and (ha : PT X a (tT G W t)) (hb : PW X (.BoolOp .And (b :: rest) pos) (tT G W u)) : PW X (.BoolOp .And (a :: b :: rest) pos) (tT G W (mAnd t u)) := (pw_and ha hb).imp fun σ H Q ⟨μ, ds, h, w, rs, p⟩ => ⟨μ, ds, h, w, rs, post_bind p fun x h1 μ1 v H1 e1 w1 r1 p1 => by
  have e : x = v := r1
  subst e
  cases x with
  | true => exact ⟨μ1, ds, h1, w1, rs.mono e1, p1⟩
  | false => exact post_ok (b := false) p1 w1 rfl⟩
theorem wm_or (ha : PT X a (tT G W t)) (hb : PW X (.BoolOp .Or (b :: rest) pos) (tT G W u)) : PW X (.BoolOp .Or (a :: b :: rest) pos) (tT G W (mOr t u)) := (pw_or ha hb).imp fun σ H Q ⟨μ, ds, h, w, rs, p⟩ => ⟨μ, ds, h, w, rs, post_bind p fun x h1 μ1 v H1 e1 w1 r1 p1 => by
  have e : x = v := r1
  subst e
  cases x with
  | true => exact post_ok (b := true) p1 w1 rfl
  | false => exact ⟨μ1, ds, h1, w1, rs.mono e1, p1⟩⟩
theorem tm_bool {e : Expr} (h : PW X e (tT G W t)) : PT X e (tT G W t) := h.pt
theorem pm_not (ha : PE X a (tE G W ma)) : PE X (.UnaryOp .Not a pos) (tE G W (mNotV ma)) := (pe_not ha).imp fun σ H Q ⟨μ, ds, h, w, rs, p⟩ => ⟨μ, ds, h, w, rs, post_bind p fun x h1 μ1 v H1 e1 w1 r1 p1 => by
  cases x with
  | bl c => simp only [RV] at r1; exact ⟨c, r1, post_ok p1 w1 (by simp only [RV])⟩
  | _ => exact p1.elim⟩
theorem pm_one {op} {m : EM} (ha : PE X a (tE G W m)) : PE X (.BoolOp op [a] pos) (tE G W m) := pe_one ha
theorem pm_and (ha : PE X a (tE G W ma)) (hb : PE X (.BoolOp .And (b :: rest) pos) (tE G W mb)) : PE X (.BoolOp .And (a :: b :: rest) pos) (tE G W (mAndV ma mb)) := (pe_and ha hb).imp fun σ H Q ⟨μ, ds, h, w, rs, p⟩ => ⟨μ, ds, h, w, rs, post_bind p fun x h1 μ1 v H1 e1 w1 r1 p1 => by
  cases x with
  | bl c =>
    simp only [RV] at r1
    refine ⟨c, r1, ?_⟩
    cases c with
    | true => exact ⟨μ1, ds, h1, w1, rs.mono e1, p1⟩
    | false => exact post_ok p1 w1 (by simp only [RV])
  | _ => exact p1.elim⟩
theorem pm_or (ha : PE X a (tE G W ma)) (hb : PE X (.BoolOp .Or (b :: rest) pos) (tE G W mb)) : PE X (.BoolOp .Or (a :: b :: rest) pos) (tE G W (mOrV ma mb)) := (pe_or ha hb).imp fun σ H Q ⟨μ, ds, h, w, rs, p⟩ => ⟨μ, ds, h, w, rs, post_bind p fun x h1 μ1 v H1 e1 w1 r1 p1 => by
  cases x with
  | bl c =>
    simp only [RV] at r1
    refine ⟨c, r1, ?_⟩
    cases c with
    | true => exact post_ok p1 w1 (by simp only [RV])
    | false => exact ⟨μ1, ds, h1, w1, rs.mono e1, p1⟩
  | _ => exact p1.elim⟩
theorem pm_if (hc : PT X c (tT G W t)) (ha : PE X a (tE G W ma)) (hb : PE X b (tE G W mb)) : PE X (.IfExp c a b pos) (tE G W (mIf t ma mb)) := (pe_ifExp hc ha hb).imp fun σ H Q ⟨μ, ds, h, w, rs, p⟩ => ⟨μ, ds, h, w, rs, post_bind p fun x h1 μ1 v H1 e1 w1 r1 p1 => by
  have e : x = v := r1
  subst e
  cases x with
  | true => exact ⟨μ1, ds, h1, w1, rs.mono e1, p1⟩
  | false => exact ⟨μ1, ds, h1, w1, rs.mono e1, p1⟩⟩
end
end Mi
/-! statements, loops, comprehensions, defs -/
namespace Mi
open PySem L2
/-! ### 7. the runs of statements -/
def Res.st {α : Type} (r : Res α) (ds : DSt) (k : α → DH → RS) : RS :=
  match r with
  | .ok a h => k a h
  | .exc e h => .exc e ds h
  | .no => .no
abbrev GM := D → DSt → DH → Option (DSt × DH)
def gNm (i : Nat) : GM := fun d ds h => some (ds.set i (some d), h)
def gsNil : List D → DSt → DH → Option (DSt × DH) := fun xs ds h => match xs with | [] => some (ds, h) | _ => none
def gsCons (g : GM) (r : List D → DSt → DH → Option (DSt × DH)) : List D → DSt → DH → Option (DSt × DH) := fun xs ds h => match xs with | [] => none | x :: xs => (g x ds h).bind fun p => r xs p.1 p.2
def gTp (r : List D → DSt → DH → Option (DSt × DH)) : GM := fun d ds h => match d with | .tup xs => r xs ds h | _ => none
def gSb (f : D → D → D → DH → Option DH) (o i : EM) : GM := fun d ds h => match o ds h with
  | .ok x h1 => match i ds h1 with
    | .ok y h2 => (f x y d h2).map fun h3 => (ds, h3)
    | _ => none
  | _ => none
def sNext : SM := fun ds h => .nx ds h
def sSeq (a b : SM) : SM := fun ds h => match a ds h with
  | .nx ds' h' => b ds' h'
  | r => r
def sAsg (e : EM) (g : GM) : SM := fun ds h => (e ds h).st ds fun d h1 => match g d ds h1 with | some p => .nx p.1 p.2 | none => .no
def sDrop (e : EM) : SM := fun ds h => (e ds h).st ds fun _ h1 => .nx ds h1
def sRet (e : EM) : SM := fun ds h => (e ds h).st ds fun d h1 => .rt d h1
def sRetN : SM := fun _ h => .rt .non h
def sBrk : SM := fun ds h => .bk ds h
def sCnt : SM := fun ds h => .ct ds h
def sIf (c : TM) (a b : SM) : SM := fun ds h => (c ds h).st ds fun t h1 => if t then a ds h1 else b ds h1
def sAug (i : Nat) (f : D → D → DH → Res D) (e : EM) : SM := fun ds h => match ds.getD i none with
  | some x => (e ds h).st ds fun y h1 => (f x y h1).st ds fun z h2 => .nx (ds.set i (some z)) h2
  | none => .no
def whileN (c : TM) (b : SM) : Nat → DSt → DH → RS
  | 0, _, _ => .no
  | k + 1, ds, h => (c ds h).st ds fun t h1 => if t then
      (match b ds h1 with
      | .nx ds' h' => whileN c b k ds' h'
      | .ct ds' h' => whileN c b k ds' h'
      | .bk ds' h' => .nx ds' h'
      | r => r) else .nx ds h1
@[irreducible] def sWhile (M : Nat) (c : TM) (b : SM) : SM := fun ds h => whileN c b M ds h
inductive Itd where
  | lst (n : Nat) | tup (xs : List D) | rng (lo : Int) (n : Nat) | enm (n : Nat) | zip (n m : Nat) | rev (n k : Nat)
def lsO (h : DH) (n : Nat) : Option (List D) := match h[n]? with
  | some (.lst xs) => some xs
  | some (.fro xs) => some xs
  | _ => none
def Itd.at_ (it : Itd) (i : Nat) (h : DH) : Option (Option D) :=
  match it with
  | .lst n => match h[n]? with
    | some (.lst xs) => some xs[i]?
    | some (.fro xs) => some xs[i]?
    | _ => none
  | .tup xs => some xs[i]?
  | .rng lo n => if i < n then some (some (.int (lo + (i : Nat)))) else some none
  | .enm n => (lsO h n).map fun xs => (xs[i]?).map fun x => .tup [.int (i : Nat), x]
  | .zip n m => (lsO h n).bind fun xs => (lsO h m).map fun ys => (xs[i]?).bind fun x => (ys[i]?).map fun y => .tup [x, y]
  | .rev n k => if i < k then (lsO h n).bind fun xs => (xs[k - 1 - i]?).map some else some none
def Itd.len (it : Itd) (h : DH) : Nat :=
  match it with
  | .lst n => match h[n]? with
    | some (.lst xs) => xs.length
    | some (.fro xs) => xs.length
    | _ => 0
  | .tup xs => xs.length
  | .rng _ n => n
  | .enm n => ((lsO h n).getD []).length
  | .zip n m => min ((lsO h n).getD []).length ((lsO h m).getD []).length
  | .rev _ k => k
abbrev IM := DSt → DH → Res Itd
def iSeq (e : EM) : IM := fun ds h => (e ds h).bind fun d h1 => match d with
  | .ref n => (match h1[n]? with
    | some (.lst _) => .ok (.lst n) h1
    | some (.fro _) => .ok (.lst n) h1
    | _ => .no)
  | .tup xs => .ok (.tup xs) h1
  | _ => .no
def iR1 (a : EM) : IM := fun ds h => (a ds h).bind fun d h1 => match d with
  | .int j => if -(2 ^ 62) ≤ j ∧ j < 2 ^ 62 then .ok (.rng 0 j.toNat) h1 else .no
  | _ => .no
def iR2 (a b : EM) : IM := fun ds h => (a ds h).bind fun d h1 => (b ds h1).bind fun u h2 => match d, u with
  | .int i, .int j => if -(2 ^ 62) ≤ i ∧ i < 2 ^ 62 ∧ -(2 ^ 62) ≤ j ∧ j < 2 ^ 62 then .ok (.rng i (j - i).toNat) h2 else .no
  | _, _ => .no
def forN (it : Itd) (g : GM) (b : SM) : Nat → Nat → DSt → DH → RS
  | 0, _, _, _ => .no
  | k + 1, i, ds, h => match it.at_ i h with
    | none => .no
    | some none => .nx ds h
    | some (some x) => match g x ds h with
      | none => .no
      | some p => match b p.1 p.2 with
        | .nx ds' h' => forN it g b k (i + 1) ds' h'
        | .ct ds' h' => forN it g b k (i + 1) ds' h'
        | .bk ds' h' => .nx ds' h'
        | r => r
@[irreducible] def sFor (mi : IM) (g : GM) (b : SM) : SM := fun ds h => (mi ds h).st ds fun it h1 => forN it g b (it.len h1 + 1) 0 ds h1
def wipeD (ds : DSt) : List Nat → DSt
  | [] => ds
  | v :: vs => (wipeD ds vs).set v none
def lcN (it : Itd) (j : Nat) (t : TM) (e : EM) (n : Nat) (ds : DSt) : Nat → Nat → DH → Res D
  | 0, _, _ => .no
  | k + 1, i, h => match it.at_ i h with
    | none => .no
    | some none => .ok (.ref n) h
    | some (some x) => match t (ds.set j (some x)) h with
      | .ok true h1 => match e (ds.set j (some x)) h1 with
        | .ok d h2 => match h2[n]? with
          | some (.lst acc) => if acc.length < 16777216 then lcN it j t e n ds k (i + 1) (h2.set n (.lst (acc ++ [d]))) else .no
          | _ => .no
        | _ => .no
      | .ok false h1 => lcN it j t e n ds k (i + 1) h1
      | _ => .no
@[irreducible] def mLc (mi : IM) (j : Nat) (t : TM) (e : EM) (vs : List Nat) : EM := fun ds h => (mi ds h).bind fun it h1 => lcN it j t e h1.length (wipeD ds vs) (it.len h1 + 1) 0 (h1 ++ [.lst []])
def runB (n : Nat) (b : SM) (xs : List D) (h : DH) : Res D := match b (xs.map some ++ List.replicate (n - xs.length) none) h with
  | .nx _ h' => .ok .non h'
  | .rt d h' => .ok d h'
  | .exc e _ h' => .exc e h'
  | _ => .no
/-! ### 8. they are sound -/
section
variable (G : Cw)
def tG (m : GM) : TG := fun v σ H Q => ∃ μ ds h d, Wd G μ h H ∧ RSt G μ H ds σ ∧ RV G μ H d v ∧ match m d ds h with
  | some p => ∀ μ' σ' H', Ext G μ H μ' H' → Wd G μ' p.2 H' → RSt G μ' H' p.1 σ' → Q σ' H'
  | none => False
def tGs (m : List D → DSt → DH → Option (DSt × DH)) : TGs := fun vs σ H Q => ∃ μ ds h xs, Wd G μ h H ∧ RSt G μ H ds σ ∧ RVs G μ H xs vs ∧ match m xs ds h with
  | some p => ∀ μ' σ' H', Ext G μ H μ' H' → Wd G μ' p.2 H' → RSt G μ' H' p.1 σ' → Q σ' H'
  | none => False
def SetS (t : TSet) (f : D → D → D → DH → Option DH) : Prop := ∀ (μ : List Addr) (h : DH) (H : Hp) (x y z : D) (o i v : V) (h' : DH) (Q : Hp → Prop), Wd G μ h H → RV G μ H x o → RV G μ H y i → RV G μ H z v → f x y z h = some h' →
  (∀ H', Ext G μ H μ H' → Wd G μ h' H' → Q H') → t o i v H Q
def relIt (μ : List Addr) (H : Hp) (it : Itd) (J : It) : Prop :=
  match it with
  | .lst n => ∃ a, μ[n]? = some a ∧ J = Itl G.K a
  | .tup xs => ∃ a vs, SqT G.K H a vs ∧ RVs G μ H xs vs ∧ J = Itt G.K a
  | .rng lo n => J = Itr lo n
  | .enm n => ∃ a, μ[n]? = some a ∧ J = Ite G.K a
  | .zip n m => ∃ a b, μ[n]? = some a ∧ μ[m]? = some b ∧ J = Itz G.K a b
  | .rev n k => ∃ a, μ[n]? = some a ∧ J = Itv G.K a k
def tI (W : WX) (m : IM) : TI := fun σ H R => ∃ μ ds h, Wd G μ h H ∧ RSt G μ H ds σ ∧ post G W ds (relIt G) μ H (m ds h) R
def spF (n : Nat) (F : List D → DH → Res D) : Sp := fun vs H Q E => vs.length = n ∧ ∃ μ xs h, Wd G μ h H ∧ RVs G μ H xs vs ∧ post G (fun c d _ H => E c d H) [] (RV G) μ H (F xs h) Q
end
section
variable {G : Cw} {X : Cx} {W : WX} {pos : Pos} {α β : Type}
theorem post_st {rel : List Addr → Hp → α → β → Prop} {μ : List Addr} {H : Hp} {ds : DSt} {r : Res α} {k : α → DH → RS} {E : Ends} {Q : β → Hp → Prop} (p : postS G W μ H (r.st ds k) E)
    (q : ∀ a h μ' b H', Ext G μ H μ' H' → Wd G μ' h H' → rel μ' H' a b → postS G W μ' H' (k a h) E → Q b H') : post G W ds rel μ H r Q := by
  cases r with
  | ok a h => exact fun μ2 b H2 e2 w r => q a h μ2 b H2 e2 w r (postS_mono e2 p)
  | exc x h => exact p
  | no => exact p
/-! targets -/
theorem gm_name {i : Nat} {x : Str} {p : Pos} (hg : PG X (.Name x p) (gName i)) : PG X (.Name x p) (tG G (gNm i)) := ⟨fun pins s σ H v u Q I r ⟨μ, ds, h, d, w, rs, rv, q⟩ => hg.run pins s σ H v u Q I r (q μ (σ.set i (some v)) H Ext.refl w (rs.set i rv))⟩
theorem gms_nil : PGs X [] (tGs G gsNil) := ⟨fun pins s σ H vs us Q I r ⟨μ, ds, h, xs, w, rs, rv, q⟩ => pgs_nil.run pins s σ H vs us Q I r (by
  cases xs with
  | nil => simp only [RVs] at rv; exact ⟨rv, q μ σ H Ext.refl w rs⟩
  | cons x xs => exact q.elim)⟩
theorem gms_cons {e : Expr} {es : List Expr} {g : GM} {r : List D → DSt → DH → Option (DSt × DH)} (h1 : PG X e (tG G g)) (h2 : PGs X es (tGs G r))
    (hs : (assignEach (e :: es) X.env).map (·.2) = assign e X.env :: (assignEach es X.env).map (·.2) := by rfl) : PGs X (e :: es) (tGs G (gsCons g r)) := ⟨fun pins s σ H vs us Q I rr ⟨μ, ds, h, xs, w, rs, rv, q⟩ => (pgs_cons h1 h2 hs).run pins s σ H vs us Q I rr (by
  cases xs with
  | nil => exact q.elim
  | cons x xs =>
    simp only [RVs] at rv
    obtain ⟨v, ws, e1, e2, e3⟩ := rv
    refine ⟨v, ws, e1, μ, ds, h, x, w, rs, e2, ?_⟩
    simp only [gsCons] at q
    cases hg : g x ds h with
    | none => rw [hg] at q; exact q.elim
    | some p =>
      rw [hg] at q
      exact fun μ' σ' H' ex w' rs' => ⟨μ', p.1, p.2, xs, w', rs', RVs.mono ex _ _ e3, by
        have q' : (match r xs p.1 p.2 with | some p => ∀ μ' σ' H', Ext G μ H μ' H' → Wd G μ' p.2 H' → RSt G μ' H' p.1 σ' → Q σ' H' | none => False) := q
        cases hr : r xs p.1 p.2 with
        | none => rw [hr] at q'; exact q'.elim
        | some p2 => rw [hr] at q'; exact fun μ2 σ2 H2 ex2 => q' μ2 σ2 H2 (ex.trans ex2)⟩)⟩
theorem gm_tup {es : List Expr} {k : Nat} {r : List D → DSt → DH → Option (DSt × DH)} {n : Nat} (hK : X.K = G.K) (hr : ∀ xs ds h, (r xs ds h).isSome = true → xs.length = n) (hg : PG X (.Tuple es k pos) (gTup X.K n (tGs G r))) : PG X (.Tuple es k pos) (tG G (gTp r)) := ⟨fun pins s σ H v u Q I rr ⟨μ, ds, h, d, w, rs, rv, q⟩ => hg.run pins s σ H v u Q I rr (by
  cases d with
  | tup xs =>
    simp only [RV] at rv
    obtain ⟨a, vs, e1, e2, e3⟩ := rv
    have q' : (match r xs ds h with | some p => ∀ μ' σ' H', Ext G μ H μ' H' → Wd G μ' p.2 H' → RSt G μ' H' p.1 σ' → Q σ' H' | none => False) := q
    have hl : xs.length = n := by
      cases hx : r xs ds h with
      | none => rw [hx] at q'; exact q'.elim
      | some p => exact hr xs ds h (by rw [hx]; rfl)
    exact ⟨a, vs, e1, by rw [hK]; exact e2, by rw [← e3.length]; exact hl, μ, ds, h, xs, w, rs, e3, q'⟩
  | _ => exact q.elim)⟩
def WF : WX := fun _ _ _ _ => False
theorem post_F {γ δ : Type} {rel : List Addr → Hp → γ → δ → Prop} {μ : List Addr} {H : Hp} {ds : DSt} {r : Res γ} {a : γ} {h : DH} {Q : δ → Hp → Prop} (e : r = .ok a h) (q : ∀ μ' b H', Ext G μ H μ' H' → Wd G μ' h H' → rel μ' H' a b → Q b H') : post G W ds rel μ H r Q := by
  rw [e]; exact q
theorem gm_sub {o i : Expr} {mo mi : EM} {t : TSet} {f : D → D → D → DH → Option DH} (hs : SetS G t f) (hg : PG X (.Subscript o i pos) (gSub (tE G W mo) (tE G W mi) t)) : PG X (.Subscript o i pos) (tG G (gSb f mo mi)) := ⟨fun pins s σ H v u Q I rr ⟨μ, ds, h, d, w, rs, rv, q⟩ => hg.run pins s σ H v u Q I rr (by
  simp only [gSb] at q
  cases h1 : mo ds h with
  | ok x h1' =>
    simp only [h1] at q
    refine ⟨μ, ds, h, w, rs, post_F h1 fun μ1 ov H1 e1 w1 r1 => ?_⟩
    cases h2 : mi ds h1' with
    | ok y h2' =>
      simp only [h2] at q
      refine ⟨μ1, ds, h1', w1, rs.mono e1, post_F h2 fun μ2 iv H2 e2 w2 r2 => ?_⟩
      cases h3 : f x y d h2' with
      | none => rw [h3] at q; exact q.elim
      | some h3' =>
        rw [h3] at q
        exact hs μ2 h2' H2 x y d ov iv v h3' _ w2 (RV.mono e2 _ _ r1) r2 (RV.mono (e1.trans e2) _ _ rv) h3 fun H3 e3 w3 => q μ2 σ H3 ((e1.trans e2).trans e3) w3 (rs.mono ((e1.trans e2).trans e3))
    | exc e h2' => simp only [h2] at q
    | no => simp only [h2] at q
  | exc e h1' => simp only [h1] at q
  | no => simp only [h1] at q)⟩
/-! small statements -/
variable {e : Expr} {m : EM} {st : Stmt} {rest : List Stmt} {a b : SM} {t : TM}
theorem sm_nil : PSs X [] (tS G W sNext) := pss_nil.imp fun E σ H ⟨μ, ds, h, w, rs, p⟩ => p μ σ H Ext.refl w rs
theorem sm_cons (h1 : PS X st (tS G W a)) (h2 : PSs X rest (tS G W b)) : PSs X (st :: rest) (tS G W (sSeq a b)) := (pss_cons h1 h2).imp fun E σ H ⟨μ, ds, h, w, rs, p⟩ => ⟨μ, ds, h, w, rs, by
  simp only [sSeq] at p
  cases q : a ds h with
  | nx ds' h' => rw [q] at p; exact fun μ1 σ1 H1 e1 w1 r1 => ⟨μ1, ds', h', w1, r1, postS_mono e1 p⟩
  | _ => rw [q] at p; exact p⟩
theorem sm_one (h1 : PS X st (tS G W a)) : PSs X [st] (tS G W a) := pss_one h1
theorem sm_pass : PS X (.Pass pos) (tS G W sNext) := ps_pass.imp fun E σ H ⟨μ, ds, h, w, rs, p⟩ => p μ σ H Ext.refl w rs
theorem sm_brk : PS X (.Break pos) (tS G W sBrk) := ps_break.imp fun E σ H ⟨μ, ds, h, w, rs, p⟩ => p μ σ H Ext.refl w rs
theorem sm_cnt : PS X (.Continue pos) (tS G W sCnt) := ps_continue.imp fun E σ H ⟨μ, ds, h, w, rs, p⟩ => p μ σ H Ext.refl w rs
theorem sm_doc {x j p1 p2} : PS X (.Expr (.Constant (.str x) j p1) p2) (tS G W sNext) := ps_doc.imp fun E σ H ⟨μ, ds, h, w, rs, p⟩ => p μ σ H Ext.refl w rs
theorem sm_asg_of {g : GM} (h : PS X st (tAsg (tE G W m) (tG G g))) : PS X st (tS G W (sAsg m g)) := h.imp fun E σ H ⟨μ, ds, h, w, rs, p⟩ => ⟨μ, ds, h, w, rs, post_st p fun x h1 μ1 v H1 e1 w1 r1 p1 => ⟨μ1, ds, h1, x, w1, rs.mono e1, r1, by
  cases q : g x ds h1 with
  | none => rw [q] at p1; exact p1.elim
  | some z => rw [q] at p1; exact p1⟩⟩
theorem sm_set {i : Nat} {x : Str} {pos' : Pos} (he : PE X e (tE G W m)) (h : ∀ {te : TE}, PE X e te → PS X (.Assign [.Name x pos'] e pos) (tAsg te (gName i))) : PS X (.Assign [.Name x pos'] e pos) (tS G W (sAsg m (gNm i))) := (h he).imp fun E σ H ⟨μ, ds, h, w, rs, p⟩ =>
  ⟨μ, ds, h, w, rs, post_st p fun x h1 μ1 v H1 e1 w1 r1 p1 => p1 μ1 (σ.set i (some v)) H1 Ext.refl w1 ((rs.mono e1).set i r1)⟩
theorem sm_asg {tg : Expr} {g : GM} (he : PE X e (tE G W m)) (hg : PG X tg (tG G g)) (hs : swapsWithSole [tg] e pos.line X.env = pure false := by rfl) (hw : swappedStores [tg] e X.env = pure none := by rfl)
    (h1 : (assignEach [tg] X.env).map (·.2) = [assign tg X.env] := by rfl) : PS X (.Assign [tg] e pos) (tS G W (sAsg m g)) := sm_asg_of (ps_asg he hg hs hw h1)
theorem sm_expr (he : PE X e (tE G W m)) (hs : swapsWith e none pos.line X.env = pure false := by rfl) : PS X (.Expr e pos) (tS G W (sDrop m)) := (ps_expr he hs).imp fun E σ H ⟨μ, ds, h, w, rs, p⟩ =>
  ⟨μ, ds, h, w, rs, post_st p fun x h1 μ1 v H1 e1 w1 r1 p1 => p1 μ1 σ H1 Ext.refl w1 (rs.mono e1)⟩
theorem sm_ret (he : PE X e (tE G W m)) : PS X (.Return (some e) pos) (tS G W (sRet m)) := (ps_ret he).imp fun E σ H ⟨μ, ds, h, w, rs, p⟩ =>
  ⟨μ, ds, h, w, rs, post_st p fun x h1 μ1 v H1 e1 w1 r1 p1 => p1 μ1 v H1 Ext.refl w1 r1⟩
theorem sm_retN : PS X (.Return none pos) (tS G W sRetN) := ps_retN.imp fun E σ H ⟨μ, ds, h, w, rs, p⟩ => p μ .non H Ext.refl w (by simp only [RV])
theorem sm_if {c : Expr} {x y : List Stmt} (hc : PT X c (tT G W t)) (ha : PSs X x (tS G W a)) (hb : PSs X y (tS G W b)) : PS X (.If c x y pos) (tS G W (sIf t a b)) := (ps_if hc ha hb).imp fun E σ H ⟨μ, ds, h, w, rs, p⟩ =>
  ⟨μ, ds, h, w, rs, post_st p fun x h1 μ1 v H1 e1 w1 r1 p1 => by
    have e : x = v := r1
    subst e
    cases x with
    | true => exact ⟨μ1, ds, h1, w1, rs.mono e1, p1⟩
    | false => exact ⟨μ1, ds, h1, w1, rs.mono e1, p1⟩⟩
theorem sm_aug {i : Nat} {x : Str} {pos' : Pos} {op : Operator} {r : TIp} {f : D → D → DH → Res D} (hs : OpS G r f) (h : PS X (.AugAssign (.Name x pos') op e pos) (tAug i (tE G W m) r)) : PS X (.AugAssign (.Name x pos') op e pos) (tS G W (sAug i f m)) := h.imp fun E σ H ⟨μ, ds, h, w, rs, p⟩ => by
  simp only [sAug] at p
  cases q : ds.getD i none with
  | none => rw [q] at p; exact p.elim
  | some d =>
    rw [q] at p
    rw [List.getD_eq_getElem?_getD] at q
    have e' : ds[i]? = some (some d) := by
      cases q2 : ds[i]? with
      | none => rw [q2] at q; cases q
      | some o => rw [q2] at q; exact congrArg some q
    obtain ⟨v, h1, h2⟩ := rs.at_ i d e'
    refine ⟨v, h1, μ, ds, h, w, rs, post_st p fun y h1 μ1 u H1 e1 w1 r1 p1 => ?_⟩
    exact hs W ds μ1 h1 H1 d y v u _ w1 (RV.mono e1 _ _ h2) r1 (post_st p1 fun z h2 μ2 zv H2 e2 w2 r2 p2 => p2 μ2 _ H2 Ext.refl w2 ((rs.mono (e1.trans e2)).set i r2))
/-! loops -/
theorem sm_while {c : Expr} {body : List Stmt} {M : Nat} (hp : PassesOwn (model X.prog X.w) X.A X.env X.xe) (hc : PT X c (tT G W t)) (hb : PSs X body (tS G W b)) : PS X (.While c body [] pos) (tS G W (sWhile M t b)) := (ps_while hp hc hb).imp fun E σ H ⟨μ, ds, h, w, rs, p⟩ => by
  unfold sWhile at p
  refine ⟨fun m σ H => ∃ μ ds h, Wd G μ h H ∧ RSt G μ H ds σ ∧ postS G W μ H (whileN t b m ds h) E, ⟨M, μ, ds, h, w, rs, p⟩, ?_⟩
  rintro m σ H ⟨μ, ds, h, w, rs, p⟩
  cases m with
  | zero => exact p.elim
  | succ k =>
    refine ⟨μ, ds, h, w, rs, post_st p fun x h1 μ1 v H1 e1 w1 r1 p1 => ?_⟩
    have e : x = v := r1
    subst e
    cases x with
    | false => exact p1 μ1 σ H1 Ext.refl w1 (rs.mono e1)
    | true =>
      show ∃ N : St → Hp → Prop, _
      refine ⟨fun σ H => ∃ μ ds h, Wd G μ h H ∧ RSt G μ H ds σ ∧ postS G W μ H (whileN t b k ds h) E, fun σ' H' z => ⟨k, Nat.lt_succ_self k, z⟩, μ1, ds, h1, w1, rs.mono e1, ?_⟩
      simp only [if_true] at p1
      cases q : b ds h1 with
      | nx ds' h' => rw [q] at p1; exact fun μ2 σ2 H2 e2 w2 r2 => ⟨μ2, ds', h', w2, r2, postS_mono e2 p1⟩
      | ct ds' h' => rw [q] at p1; exact fun μ2 σ2 H2 e2 w2 r2 => ⟨μ2, ds', h', w2, r2, postS_mono e2 p1⟩
      | bk ds' h' => rw [q] at p1; exact p1
      | rt d h' => rw [q] at p1; exact p1
      | exc x s h' => rw [q] at p1; exact p1
      | no => rw [q] at p1; exact p1.elim
theorem relIt.mono {μ μ' : List Addr} {H H' : Hp} {it : Itd} {J : It} (e : Ext G μ H μ' H') (r : relIt G μ H it J) : relIt G μ' H' it J := by
  cases it with
  | lst n => obtain ⟨a, h1, h2⟩ := r; exact ⟨a, e.pre _ _ h1, h2⟩
  | tup xs => obtain ⟨a, vs, h1, h2, h3⟩ := r; exact ⟨a, vs, e.tup _ _ h1, RVs.mono e _ _ h2, h3⟩
  | rng lo n => exact r
  | enm n => obtain ⟨a, h1, h2⟩ := r; exact ⟨a, e.pre _ _ h1, h2⟩
  | zip n m => obtain ⟨a, b, h1, h2, h3⟩ := r; exact ⟨a, b, e.pre _ _ h1, e.pre _ _ h2, h3⟩
  | rev n k => obtain ⟨a, h1, h2⟩ := r; exact ⟨a, e.pre _ _ h1, h2⟩
theorem Wd.seq {μ : List Addr} {h : DH} {H : Hp} {n : Nat} {a : Addr} {xs : List D} (w : Wd G μ h H) (e : μ[n]? = some a) (q : h[n]? = some (.lst xs) ∨ h[n]? = some (.fro xs)) : ∃ vs, SqL G.K H a vs ∧ RVs G μ H xs vs := by
  rcases q with q | q
  · obtain ⟨vs, h1, h2⟩ := w.ob n a _ e q
    exact ⟨vs, SqL.of h1, h2⟩
  · obtain ⟨vs, h1, h2⟩ := w.ob n a _ e q
    refine ⟨vs, ?_, h2⟩
    rcases h1 with ⟨u, h1⟩ | h1
    · exact .inl (.inr ⟨u, h1⟩)
    · exact h1 H
theorem RVs.none {μ : List Addr} {H : Hp} {xs : List D} {vs : List V} {i : Nat} (r : RVs G μ H xs vs) (e : xs[i]? = none) : vs.length ≤ i := by
  rw [← r.length]; exact List.getElem?_eq_none_iff.mp e
theorem Wd.lsO {μ : List Addr} {h : DH} {H : Hp} {n : Nat} {a : Addr} {xs : List D} (w : Wd G μ h H) (e : μ[n]? = some a) (q : lsO h n = some xs) : ∃ vs, SqL G.K H a vs ∧ RVs G μ H xs vs := by
  unfold Mi.lsO at q
  cases z : h[n]? with
  | none => rw [z] at q; cases q
  | some o =>
    rw [z] at q
    cases o with
    | lst ys => cases q; exact w.seq e (.inl z)
    | fro ys => cases q; exact w.seq e (.inr z)
    | _ => cases q
theorem RVs.some' {μ : List Addr} {H : Hp} {xs : List D} {vs : List V} {i : Nat} {d : D} (r : RVs G μ H xs vs) (e : xs[i]? = some d) : ∃ v, vs[i]? = some v ∧ RV G μ H d v := r.get e
/-- what a turn of an iterator is: the list's address is known to stand for one list only at each heap -/
def UniqL (X : Cx) : Prop := True
theorem it_stop {μ : List Addr} {h : DH} {H : Hp} {it : Itd} {J : It} {i : Nat} (w : Wd G μ h H) (r : relIt G μ H it J) (e : it.at_ i h = some none) : J.stop i H := by
  cases it with
  | lst n =>
    obtain ⟨a, h1, rfl⟩ := r
    simp only [Itd.at_] at e
    cases q : h[n]? with
    | none => simp only [q] at e; cases e
    | some o =>
      simp only [q] at e
      cases o with
      | lst xs =>
        obtain ⟨vs, s1, s2⟩ := w.seq h1 (.inl q)
        exact ⟨vs, s1, s2.none (Option.some.inj e)⟩
      | fro xs =>
        obtain ⟨vs, s1, s2⟩ := w.seq h1 (.inr q)
        exact ⟨vs, s1, s2.none (Option.some.inj e)⟩
      | dK kvs => cases e
      | ins c fs => cases e
  | tup xs =>
    obtain ⟨a, vs, h1, h2, rfl⟩ := r
    exact ⟨vs, h1, h2.none (Option.some.inj e)⟩
  | rng lo n =>
    have r' : J = Itr lo n := r
    subst r'
    simp only [Itd.at_] at e
    by_cases hi : i < n
    · rw [if_pos hi] at e; cases e
    · exact Nat.le_of_not_lt hi
  | enm n =>
    obtain ⟨a, h1, rfl⟩ := r
    simp only [Itd.at_] at e
    cases q : lsO h n with
    | none => rw [q] at e; cases e
    | some xs =>
      rw [q] at e
      obtain ⟨vs, s1, s2⟩ := w.lsO h1 q
      refine ⟨vs, s1, s2.none (i := i) ?_⟩
      cases z : xs[i]? with
      | none => rfl
      | some x => rw [Option.map_some, z] at e; cases e
  | zip n m =>
    obtain ⟨a, b, h1, h2, rfl⟩ := r
    simp only [Itd.at_] at e
    cases q : lsO h n with
    | none => rw [q] at e; cases e
    | some xs =>
      cases q2 : lsO h m with
      | none => rw [q, q2] at e; cases e
      | some ys =>
        rw [q, q2] at e
        obtain ⟨vs, s1, s2⟩ := w.lsO h1 q
        obtain ⟨us, t1, t2⟩ := w.lsO h2 q2
        refine ⟨vs, us, s1, t1, ?_⟩
        cases z : xs[i]? with
        | none => exact .inl (s2.none z)
        | some x =>
          cases z2 : ys[i]? with
          | none => exact .inr (t2.none z2)
          | some y => simp only [Option.bind, Option.map_some, z, z2] at e; cases e
  | rev n k =>
    obtain ⟨a, h1, rfl⟩ := r
    simp only [Itd.at_] at e
    by_cases hi : i < k
    · rw [if_pos hi] at e
      cases q : lsO h n with
      | none => rw [q] at e; cases e
      | some xs =>
        rw [q] at e
        cases z : xs[k - 1 - i]? with
        | none => simp only [Option.bind, z] at e; cases e
        | some x => simp only [Option.bind, z] at e; cases e
    · exact Nat.le_of_not_lt hi
theorem it_go {μ : List Addr} {h : DH} {H : Hp} {it : Itd} {J : It} {i : Nat} {d : D} (w : Wd G μ h H) (r : relIt G μ H it J) (e : it.at_ i h = some (some d)) : J.go i H ∧ ∀ x H', J.yld i H x H' → Ext G μ H μ H' ∧ Wd G μ h H' ∧ RV G μ H' d x := by
  cases it with
  | lst n =>
    obtain ⟨a, h1, rfl⟩ := r
    simp only [Itd.at_] at e
    cases q : h[n]? with
    | none => simp only [q] at e; cases e
    | some o =>
      simp only [q] at e
      have fin : ∀ xs : List D, xs[i]? = some d → (∃ vs, SqL G.K H a vs ∧ RVs G μ H xs vs) → (Itl G.K a).go i H ∧ ∀ x H', (Itl G.K a).yld i H x H' → Ext G μ H μ H' ∧ Wd G μ h H' ∧ RV G μ H' d x := fun xs hx ⟨vs, s1, s2⟩ => by
        obtain ⟨v, g1, g2⟩ := s2.get hx
        refine ⟨⟨vs, v, s1, g1⟩, fun x H' y => ?_⟩
        have z := y.2 vs s1
        rw [g1] at z
        cases z
        obtain rfl : H' = H := y.1
        exact ⟨Ext.refl, w, g2⟩
      cases o with
      | lst xs => exact fin xs (Option.some.inj e) (w.seq h1 (.inl q))
      | fro xs => exact fin xs (Option.some.inj e) (w.seq h1 (.inr q))
      | dK kvs => cases e
      | ins c fs => cases e
  | tup xs =>
    obtain ⟨a, vs, h1, h2, rfl⟩ := r
    obtain ⟨v, g1, g2⟩ := h2.get (Option.some.inj e)
    refine ⟨⟨vs, v, h1, g1⟩, fun x H' y => ?_⟩
    have z := y.2 vs h1
    rw [g1] at z
    cases z
    obtain rfl : H' = H := y.1
    exact ⟨Ext.refl, w, g2⟩
  | rng lo n =>
    have r' : J = Itr lo n := r
    subst r'
    simp only [Itd.at_] at e
    by_cases hi : i < n
    · rw [if_pos hi] at e
      cases e
      refine ⟨hi, fun x H' y => ?_⟩
      obtain rfl : H' = H := y.1
      exact ⟨Ext.refl, w, by simp only [RV]; exact y.2⟩
    · rw [if_neg hi] at e; cases e
  | enm n =>
    obtain ⟨a, h1, rfl⟩ := r
    simp only [Itd.at_] at e
    cases q : lsO h n with
    | none => rw [q] at e; cases e
    | some xs =>
      rw [q] at e
      obtain ⟨vs, s1, s2⟩ := w.lsO h1 q
      cases z : xs[i]? with
      | none => rw [Option.map_some, z] at e; cases e
      | some d0 =>
        rw [Option.map_some, z] at e
        cases e
        obtain ⟨v, g1, g2⟩ := s2.get z
        refine ⟨⟨vs, v, s1, g1⟩, ?_⟩
        rintro _ _ ⟨T, x, rfl, hT, rfl, y⟩
        have z2 := y vs s1
        rw [g1] at z2
        cases z2
        have ex : Ext G μ H μ (upd H T (.tup [.int (i : Nat), v])) := ext_new hT
        refine ⟨ex, w.new hT, ?_⟩
        simp only [RV]
        exact ⟨T, _, rfl, SqT.of upd_same, RVs.cons (by simp only [RV]) (RVs.cons (RV.mono ex _ _ g2) RVs.nil)⟩
  | zip n m =>
    obtain ⟨a, b, h1, h2, rfl⟩ := r
    simp only [Itd.at_] at e
    cases q : lsO h n with
    | none => rw [q] at e; cases e
    | some xs =>
      cases q2 : lsO h m with
      | none => rw [q, q2] at e; cases e
      | some ys =>
        rw [q, q2] at e
        obtain ⟨vs, s1, s2⟩ := w.lsO h1 q
        obtain ⟨us, t1, t2⟩ := w.lsO h2 q2
        cases z : xs[i]? with
        | none => simp only [Option.bind, Option.map_some, z] at e; cases e
        | some x0 =>
          cases z2 : ys[i]? with
          | none => simp only [Option.bind, Option.map_some, z, z2] at e; cases e
          | some y0 =>
            simp only [Option.bind, Option.map_some, z, z2] at e
            cases e
            obtain ⟨v, g1, g2⟩ := s2.get z
            obtain ⟨u, k1, k2⟩ := t2.get z2
            refine ⟨⟨vs, us, v, u, s1, t1, g1, k1⟩, ?_⟩
            rintro _ _ ⟨T, x, y, rfl, hT, rfl, y1, y2⟩
            have w1 := y1 vs s1
            rw [g1] at w1
            cases w1
            have w2 := y2 us t1
            rw [k1] at w2
            cases w2
            have ex : Ext G μ H μ (upd H T (.tup [v, u])) := ext_new hT
            refine ⟨ex, w.new hT, ?_⟩
            simp only [RV]
            exact ⟨T, _, rfl, SqT.of upd_same, RVs.cons (RV.mono ex _ _ g2) (RVs.cons (RV.mono ex _ _ k2) RVs.nil)⟩
  | rev n k =>
    obtain ⟨a, h1, rfl⟩ := r
    simp only [Itd.at_] at e
    by_cases hi : i < k
    · rw [if_pos hi] at e
      cases q : lsO h n with
      | none => rw [q] at e; cases e
      | some xs =>
        rw [q] at e
        obtain ⟨vs, s1, s2⟩ := w.lsO h1 q
        cases z : xs[k - 1 - i]? with
        | none => simp only [Option.bind, z] at e; cases e
        | some x0 =>
          simp only [Option.bind, z, Option.map_some] at e
          cases e
          obtain ⟨v, g1, g2⟩ := s2.get z
          refine ⟨⟨hi, vs, v, s1, g1⟩, fun x H' y => ?_⟩
          have z2 := y.2 vs s1
          rw [g1] at z2
          cases z2
          obtain rfl : H' = H := y.1
          exact ⟨Ext.refl, w, g2⟩
    · rw [if_neg hi] at e; cases e
theorem snd_for {mi : IM} {g : GM} : ∀ E σ H, tS G W (sFor mi g b) E σ H → tFor (tI G W mi) (tG G g) (tS G W b) E σ H := fun E σ H ⟨μ, ds, h, w, rs, p⟩ => ⟨μ, ds, h, w, rs, post_st (show postS G W μ H ((mi ds h).st ds fun it h1 => forN it g b (it.len h1 + 1) 0 ds h1) E by unfold sFor at p; exact p) fun it h1 μ1 J H1 e1 w1 r1 p1 => by
  refine ⟨fun i m σ H => ∃ μ ds h, Wd G μ h H ∧ RSt G μ H ds σ ∧ relIt G μ H it J ∧ postS G W μ H (forN it g b m i ds h) E, ⟨_, μ1, ds, h1, w1, rs.mono e1, r1, p1⟩, ?_⟩
  rintro i m σ H ⟨μ, ds, h, w, rs, ri, p⟩
  cases m with
  | zero => exact p.elim
  | succ k =>
    simp only [forN] at p
    cases q : it.at_ i h with
    | none => rw [q] at p; exact p.elim
    | some o =>
      cases o with
      | none =>
        rw [q] at p
        exact .inl ⟨it_stop w ri q, p μ σ H Ext.refl w rs⟩
      | some d =>
        rw [q] at p
        obtain ⟨g1, g2⟩ := it_go w ri q
        refine .inr ⟨g1, fun σ H => ∃ μ ds h, Wd G μ h H ∧ RSt G μ H ds σ ∧ relIt G μ H it J ∧ postS G W μ H (forN it g b k (i + 1) ds h) E, fun σ' H' z => ⟨k, Nat.lt_succ_self k, z⟩, fun x H' y => ?_⟩
        obtain ⟨ey, wy, rx⟩ := g2 x H' y
        refine ⟨μ, ds, h, d, wy, rs.mono ey, rx, ?_⟩
        cases q2 : g d ds h with
        | none => simp only [q2] at p; exact p.elim
        | some z =>
          simp only [q2] at p
          intro μ2 σ2 H2 e2 w2 r2
          refine ⟨μ2, z.1, z.2, w2, r2, ?_⟩
          have p := postS_mono (ey.trans e2) p
          cases q3 : b z.1 z.2 with
          | nx ds' h' => rw [q3] at p; exact fun μ3 σ3 H3 e3 w3 r3 => ⟨μ3, ds', h', w3, r3, ((ri.mono ey).mono e2).mono e3, postS_mono e3 p⟩
          | ct ds' h' => rw [q3] at p; exact fun μ3 σ3 H3 e3 w3 r3 => ⟨μ3, ds', h', w3, r3, ((ri.mono ey).mono e2).mono e3, postS_mono e3 p⟩
          | bk ds' h' => rw [q3] at p; exact p
          | rt d h' => rw [q3] at p; exact p
          | exc x s h' => rw [q3] at p; exact p
          | no => rw [q3] at p; exact p.elim⟩
theorem sm_for {mi : IM} {g : GM} (h : PS X st (tFor (tI G W mi) (tG G g) (tS G W b))) : PS X st (tS G W (sFor mi g b)) := h.imp snd_for
end
end Mi
/-! what a for walks, comprehensions, defs -/
namespace L2
open PySem PySem.Spec PyProof.Rows
section
variable {X : Cx} {tg : Expr}
/-- a list or a tuple -/
def iSq (K : PySem.W.Frag) (tl : TE) : TI := fun σ H R => tl σ H fun x H1 => ∃ a, x = .ref a ∧ (((∃ xs, SqL K H1 a xs) ∧ R (Itl K a) H1) ∨ ((∃ xs, SqT K H1 a xs) ∧ R (Itt K a) H1))
theorem pi_sq {l : Expr} {tl : TE} (hl : PE X l tl) : PI X tg l (iSq X.K tl) := by
  refine ⟨fun pins s σ H R I h => ?_⟩
  refine thn (hl.run pins s σ H _ I h) fun v s1 ⟨x, H1, I1, r1, q1⟩ => ?_
  obtain ⟨a, e, q⟩ := q1
  subst e
  cases r1
  rcases q with ⟨⟨xs, hq⟩, q⟩ | ⟨⟨xs, hq⟩, q⟩
  · obtain ⟨its, rv, p, hz⟩ := I1.list hq
    refine wpAny_pyIter_list p.isList ?_
    refine ⟨s1.heap.objs.size, [s1.heap.objs.size], _, _, H1, rfl, I1.kept (t' := s1.toks) fun b o e => Heap.get?_push_of_some _ e, turn_list a _, ⟨_, Heap.get?_push_size _ rfl, rfl, rfl⟩, fun b hb => ?_, q⟩
    have e : b = s1.heap.objs.size := by simpa using hb
    subst e
    exact I1.fpOk (Nat.le_refl _) (I1.hok.fresh (Nat.le_refl _))
  · obtain ⟨its, rv, p, hz⟩ := I1.tuple hq
    refine wpAny_pyIter_tuple (show s1.heap.IsTuple a its.toArray from p) ?_
    refine ⟨s1.heap.objs.size, [s1.heap.objs.size], _, _, H1, rfl, I1.kept (t' := s1.toks) fun b o e => Heap.get?_push_of_some _ e, turn_tuple a _, ⟨_, Heap.get?_push_size _ rfl, rfl, rfl⟩, fun b hb => ?_, q⟩
    have e : b = s1.heap.objs.size := by simpa using hb
    subst e
    exact I1.fpOk (Nat.le_refl _) (I1.hok.fresh (Nat.le_refl _))
end
end L2
namespace Mi
open PySem L2
section
variable {G : Cw} {X : Cx} {W : WX} {pos : Pos}
theorem PI.imp {X : Cx} {tg it : Expr} {t t' : TI} (p : PI X tg it t) (h : ∀ σ H R, t' σ H R → t σ H R) : PI X tg it t' := ⟨fun pins s σ H R I hq => p.run pins s σ H R I (h σ H R hq)⟩
theorem im_seq {tg e : Expr} {m : EM} (hK : X.K = G.K) (he : PE X e (tE G W m)) : PI X tg e (tI G W (iSeq m)) := PI.imp (pi_sq he) fun σ H R ⟨μ, ds, h, w, rs, p⟩ => ⟨μ, ds, h, w, rs, post_bind p fun x h1 μ1 v H1 e1 w1 r1 p1 => by
  cases x with
  | ref n =>
    simp only [RV] at r1
    obtain ⟨a, rfl, ha⟩ := r1
    have fin : ∀ xs, h1[n]? = some (.lst xs) ∨ h1[n]? = some (.fro xs) → post G W ds (relIt G) μ1 H1 (.ok (.lst n) h1) R → ∃ b, V.ref a = V.ref b ∧ (((∃ xs, SqL X.K H1 b xs) ∧ R (Itl X.K b) H1) ∨ ((∃ xs, SqT X.K H1 b xs) ∧ R (Itt X.K b) H1)) := fun xs hx p2 => by
      obtain ⟨vs, s1, _⟩ := w1.seq ha hx
      rw [hK]
      exact ⟨a, rfl, .inl ⟨⟨vs, s1⟩, post_ok p2 w1 ⟨a, ha, rfl⟩⟩⟩
    cases q : h1[n]? with
    | none => simp only [q] at p1; exact p1.elim
    | some o =>
      simp only [q] at p1
      cases o with
      | lst xs => exact fin xs (.inl q) p1
      | fro xs => exact fin xs (.inr q) p1
      | dK kvs => exact p1.elim
      | ins c fs => exact p1.elim
  | tup xs =>
    simp only [RV] at r1
    obtain ⟨a, vs, rfl, ha, hb⟩ := r1
    rw [hK]
    exact ⟨a, rfl, .inr ⟨⟨vs, ha⟩, post_ok p1 w1 ⟨a, vs, ha, hb, rfl⟩⟩⟩
  | _ => exact p1.elim⟩
theorem im_r1 {tg a : Expr} {m : EM} {p p1 : Pos} (h : PI X tg (.Call (.Name "range" p) [a] [] p1) (iRng1 (tA G W (aCons m aNil)))) : PI X tg (.Call (.Name "range" p) [a] [] p1) (tI G W (iR1 m)) := PI.imp h fun σ H R ⟨μ, ds, h, w, rs, p⟩ => ⟨μ, ds, h, w, rs, by
  refine post_bind (r := aCons m aNil ds h) (f := fun xs h1 => match xs with | [.int j] => if -(2 ^ 62) ≤ j ∧ j < 2 ^ 62 then .ok (.rng 0 j.toNat) h1 else .no | _ => .no) (rel2 := relIt G) (Q2 := R) ?_ fun xs h1 μ1 vs H1 e1 w1 r1 p1 => ?_
  · unfold iR1 at p
    unfold aCons aNil
    cases q : m ds h with
    | ok d h1 =>
      rw [q] at p
      cases d <;> exact p
    | exc e h1 => rw [q] at p; exact p
    | no => rw [q] at p; exact p
  · match xs, p1 with
    | [.int j], p1 =>
      simp only [RVs, RV] at r1
      obtain ⟨v, ws, rfl, rfl, rfl⟩ := r1
      by_cases hj : -(2 ^ 62) ≤ j ∧ j < 2 ^ 62
      · have p2 : post G W ds (relIt G) μ1 H1 (.ok (.rng 0 j.toNat) h1) R := by
          have p3 : post G W ds (relIt G) μ1 H1 (if -(2 ^ 62) ≤ j ∧ j < 2 ^ 62 then .ok (.rng 0 j.toNat) h1 else .no) R := p1
          rw [if_pos hj] at p3; exact p3
        exact ⟨j, rfl, hj.1, hj.2, post_ok p2 w1 rfl⟩
      · have p3 : post G W ds (relIt G) μ1 H1 (if -(2 ^ 62) ≤ j ∧ j < 2 ^ 62 then .ok (.rng 0 j.toNat) h1 else .no) R := p1
        rw [if_neg hj] at p3; exact p3.elim⟩
theorem im_r2 {tg a b : Expr} {m n : EM} {p p1 : Pos} (h : PI X tg (.Call (.Name "range" p) [a, b] [] p1) (iRng2 (tA G W (aCons m (aCons n aNil))))) : PI X tg (.Call (.Name "range" p) [a, b] [] p1) (tI G W (iR2 m n)) := PI.imp h fun σ H R ⟨μ, ds, h, w, rs, p⟩ => ⟨μ, ds, h, w, rs, by
  refine post_bind (r := aCons m (aCons n aNil) ds h) (f := fun xs h2 => match xs with | [.int i, .int j] => if -(2 ^ 62) ≤ i ∧ i < 2 ^ 62 ∧ -(2 ^ 62) ≤ j ∧ j < 2 ^ 62 then .ok (.rng i (j - i).toNat) h2 else .no | _ => .no) (rel2 := relIt G) (Q2 := R) ?_ fun xs h1 μ1 vs H1 e1 w1 r1 p1 => ?_
  · unfold iR2 at p
    unfold aCons aNil
    cases q : m ds h with
    | ok d h1 =>
      rw [q] at p
      simp only [Res.bind] at p ⊢
      cases q2 : n ds h1 with
      | ok u h2 =>
        rw [q2] at p
        cases d <;> cases u <;> exact p
      | exc e h1 => rw [q2] at p; exact p
      | no => rw [q2] at p; exact p
    | exc e h1 => rw [q] at p; exact p
    | no => rw [q] at p; exact p
  · match xs, p1 with
    | [.int i, .int j], p1 =>
      simp only [RVs, RV] at r1
      obtain ⟨v, ws, rfl, rfl, v2, ws2, rfl, rfl, rfl⟩ := r1
      have p3 : post G W ds (relIt G) μ1 H1 (if -(2 ^ 62) ≤ i ∧ i < 2 ^ 62 ∧ -(2 ^ 62) ≤ j ∧ j < 2 ^ 62 then .ok (.rng i (j - i).toNat) h1 else .no) R := p1
      by_cases hj : -(2 ^ 62) ≤ i ∧ i < 2 ^ 62 ∧ -(2 ^ 62) ≤ j ∧ j < 2 ^ 62
      · rw [if_pos hj] at p3
        exact ⟨i, j, rfl, hj, post_ok p3 w1 rfl⟩
      · rw [if_neg hj] at p3; exact p3.elim⟩
/-! comprehensions -/
theorem wipe_in (σ : St) {i : Nat} : ∀ {vs : List Nat}, i ∈ vs → (L2.wipe σ vs)[i]? = if i < σ.length then some none else none
  | v :: vs, h => by
    unfold L2.wipe
    by_cases hv : v = i
    · subst hv
      by_cases hl : v < σ.length
      · rw [List.getElem?_set_self (by rw [L2.wipe_length]; exact hl), if_pos hl]
      · rw [if_neg hl, List.getElem?_eq_none (by rw [List.length_set, L2.wipe_length]; omega)]
    · rw [List.getElem?_set_ne hv]
      rcases List.mem_cons.mp h with h | h
      · exact absurd h.symm hv
      · exact wipe_in σ h
theorem wipe_get (σ : St) (i : Nat) (vs : List Nat) : (L2.wipe σ vs)[i]? = if i ∈ vs then (if i < σ.length then some none else none) else σ[i]? := by
  by_cases h : i ∈ vs
  · rw [if_pos h, wipe_in σ h]
  · rw [if_neg h, L2.wipe_out h]
theorem wipe_back (σ : St) {j : Nat} (x : V) {vs : List Nat} (h : j ∈ vs) : L2.wipe ((L2.wipe σ vs).set j (some x)) vs = L2.wipe σ vs := by
  apply List.ext_getElem?
  intro i
  rw [wipe_get, wipe_get]
  by_cases hi : i ∈ vs
  · rw [if_pos hi, if_pos hi, List.length_set, L2.wipe_length]
  · rw [if_neg hi, if_neg hi, List.getElem?_set_ne (fun e : j = i => hi (by rw [← e]; exact h)), L2.wipe_out hi]
theorem wipe_st {μ : List Addr} {H : Hp} {ds : DSt} {σ : St} (r : RSt G μ H ds σ) : ∀ vs : List Nat, RSt G μ H (wipeD ds vs) (L2.wipe σ vs)
  | [] => r
  | v :: vs => (wipe_st r vs).unset v none
theorem ext_write {μ : List Addr} {H : Hp} {a : Addr} {u o : HO} (h : H a = some u) (m : Mut (some u)) : Ext G μ H μ (upd H a o) := ⟨fun _ _ e => e, fun b xs s => by
  have nb : ∀ z, H b = some z → ¬ Mut (some z) → b ≠ a := fun z hz nm e => by subst e; rw [h] at hz; cases hz; exact nm m
  rcases s with (s | ⟨z, s⟩) | s
  · exact .inl (.inl (by rw [upd_ne (nb _ s fun q => q)]; exact s))
  · exact .inl (.inr ⟨z, by rw [upd_ne (nb _ s fun q => q)]; exact s⟩)
  · exact .inr s⟩
/-- a list written -/
theorem Wd.setL {μ : List Addr} {h : DH} {H : Hp} {n : Nat} {a : Addr} {xs ys : List D} {vs : List V} (w : Wd G μ h H) (e1 : μ[n]? = some a) (e2 : h[n]? = some (.lst xs)) (r : RVs G μ H ys vs) :
    Ext G μ H μ (upd H a (.lst vs)) ∧ Wd G μ (h.set n (.lst ys)) (upd H a (.lst vs)) := by
  obtain ⟨us, h1, _⟩ := w.ob n a _ e1 e2
  have ex : Ext G μ H μ (upd H a (.lst vs)) := ext_write h1 trivial
  exact ⟨ex, w.write e1 e2 rfl rfl ex ⟨vs, upd_same, RVs.mono ex _ _ r⟩⟩
theorem snd_lc {mi : IM} {j : Nat} {mt : TM} {me : EM} {vs : List Nat} (hj : j ∈ vs) : ∀ σ H Q, tE G W (mLc mi j mt me vs) σ H Q → tLc (tI G W mi) (gName j) (tT G WF mt) (tE G WF me) vs σ H Q := fun σ H Q ⟨μ, ds, h, w, rs, p⟩ => ⟨μ, ds, h, w, rs, post_bind (show post G W ds (RV G) μ H ((mi ds h).bind fun it h1 => lcN it j mt me h1.length (wipeD ds vs) (it.len h1 + 1) 0 (h1 ++ [.lst []])) Q by unfold mLc at p; exact p) fun it h1 μ1 J H1 e1 w1 r1 p1 => fun D hD => by
  have exD : Ext G μ1 H1 (μ1 ++ [D]) (upd H1 D (.lst [])) := (ext_new hD).trans (ext_app [D])
  refine ⟨fun i m H => ∃ μ h, Wd G μ h H ∧ RSt G μ H (wipeD ds vs) (L2.wipe σ vs) ∧ RSt G μ H ds σ ∧ relIt G μ H it J ∧ μ[h1.length]? = some D ∧ post G W ds (RV G) μ H (lcN it j mt me h1.length (wipeD ds vs) m i h) Q, ⟨_, μ1 ++ [D], h1 ++ [.lst []], w1.alloc hD rfl (show RObj G _ _ D (.lst []) from ⟨[], upd_same, RVs.nil⟩), wipe_st (rs.mono (e1.trans exD)) vs, rs.mono (e1.trans exD), r1.mono exD, by rw [← w1.len]; exact get_last μ1 D, post_mono exD p1⟩, ?_⟩
  rintro i m H ⟨μ, h, w, rsw, rs', ri, hn, p⟩
  cases m with
  | zero => exact p.elim
  | succ k =>
    simp only [lcN] at p
    cases q : it.at_ i h with
    | none => simp only [q] at p; exact p.elim
    | some o =>
      cases o with
      | none =>
        simp only [q] at p
        exact .inl ⟨it_stop w ri q, post_ok p w (by simp only [RV]; exact ⟨D, rfl, hn⟩)⟩
      | some d =>
        simp only [q] at p
        obtain ⟨g1, g2⟩ := it_go w ri q
        refine .inr ⟨g1, fun H => ∃ μ h, Wd G μ h H ∧ RSt G μ H (wipeD ds vs) (L2.wipe σ vs) ∧ RSt G μ H ds σ ∧ relIt G μ H it J ∧ μ[h1.length]? = some D ∧ post G W ds (RV G) μ H (lcN it j mt me h1.length (wipeD ds vs) k (i + 1) h) Q, fun H' z => ⟨k, Nat.lt_succ_self k, z⟩, fun x H' y => ?_⟩
        obtain ⟨ey, wy, rx⟩ := g2 x H' y
        replace rsw := rsw.mono ey
        replace rs' := rs'.mono ey
        replace ri := ri.mono ey
        replace p := post_mono ey p
        refine ⟨wipe_back σ x hj, μ, (wipeD ds vs).set j (some d), h, wy, rsw.set j rx, ?_⟩
        cases q2 : mt ((wipeD ds vs).set j (some d)) h with
        | ok b h2 =>
          intro μ2 b' H2 e2 w2 rb
          have eb : b = b' := rb
          subst eb
          cases b with
          | false =>
            simp only [q2] at p
            exact ⟨μ2, h2, w2, rsw.mono e2, rs'.mono e2, ri.mono e2, e2.pre _ _ hn, post_mono e2 p⟩
          | true =>
            simp only [q2] at p
            refine ⟨μ2, (wipeD ds vs).set j (some d), h2, w2, (rsw.set j rx).mono e2, ?_⟩
            cases q3 : me ((wipeD ds vs).set j (some d)) h2 with
            | ok z h3 =>
              simp only [q3] at p
              intro μ3 zv H3 e3 w3 rz
              have ex := e2.trans e3
              cases q4 : h3[h1.length]? with
              | none => simp only [q4] at p; exact p.elim
              | some ob =>
                cases ob with
                | lst acc =>
                  simp only [q4] at p
                  by_cases ha : acc.length < 16777216
                  · rw [if_pos ha] at p
                    have hn3 := ex.pre _ _ hn
                    obtain ⟨av, hav, rav⟩ := w3.ob _ _ _ hn3 q4
                    obtain ⟨ex4, w4⟩ := w3.setL hn3 q4 (RVs.append rav (RVs.cons rz RVs.nil))
                    exact ⟨av, hav, by rw [← rav.length, sizeLine_eq]; exact ha, μ3, _, w4, rsw.mono (ex.trans ex4), rs'.mono (ex.trans ex4), ri.mono (ex.trans ex4), hn3, post_mono (ex.trans ex4) p⟩
                  · rw [if_neg ha] at p; exact p.elim
                | fro acc => simp only [q4] at p; exact p.elim
                | dK kvs => simp only [q4] at p; exact p.elim
                | ins c fs => simp only [q4] at p; exact p.elim
            | exc e h3 => simp only [q3] at p; exact p.elim
            | no => simp only [q3] at p; exact p.elim
        | exc e h2 => simp only [q2] at p; exact p.elim
        | no => simp only [q2] at p; exact p.elim⟩
theorem pm_lc {e : Expr} {mi : IM} {j : Nat} {mt : TM} {me : EM} {vs : List Nat} (hj : j ∈ vs) (h : PE X e (tLc (tI G W mi) (gName j) (tT G WF mt) (tE G WF me) vs)) : PE X e (tE G W (mLc mi j mt me vs)) := h.imp (snd_lc hj)
theorem sm_setLc {st : Stmt} {i : Nat} {mi : IM} {j : Nat} {mt : TM} {me : EM} {vs : List Nat} (hj : j ∈ vs) (h : PS X st (tAsg (tLc (tI G W mi) (gName j) (tT G WF mt) (tE G WF me) vs) (gName i))) : PS X st (tS G W (sAsg (mLc mi j mt me vs) (gNm i))) := h.imp fun E σ H ⟨μ, ds, h, w, rs, p⟩ =>
  snd_lc hj σ H _ ⟨μ, ds, h, w, rs, post_st p fun x h1 μ1 v H1 e1 w1 r1 p1 => p1 μ1 (σ.set i (some v)) H1 Ext.refl w1 ((rs.mono e1).set i r1)⟩
theorem tms_nil : PTs X [] (tT G W mYes) := pts_nil.imp fun σ H Q ⟨μ, ds, h, w, rs, p⟩ => post_ok (b := true) p w rfl
theorem tms_one {c : Expr} {t : TM} (h : PT X c (tT G W t)) : PTs X [c] (tT G W t) := pts_one h
/-! defs -/
theorem start_st {μ : List Addr} {H : Hp} {N : List Str} {xs : List D} {vs : List V} (r : RVs G μ H xs vs) : RSt G μ H (xs.map some ++ List.replicate (N.length - xs.length) none) (L2.start N vs) := by
  have hl := r.length
  refine ⟨by unfold L2.start; simp [hl], fun i d e => ?_⟩
  by_cases hi : i < xs.length
  · rw [List.getElem?_append_left (by simpa using hi)] at e
    rw [List.getElem?_map] at e
    cases q : xs[i]? with
    | none => rw [q] at e; cases e
    | some y =>
      rw [q] at e
      cases e
      obtain ⟨v, h1, h2⟩ := r.get q
      refine ⟨v, ?_, h2⟩
      unfold L2.start
      rw [List.getElem?_append_left (by simpa [← hl] using hi), List.getElem?_map, h1]
      rfl
  · rw [List.getElem?_append_right (by simpa using hi)] at e
    rw [List.getElem?_replicate] at e
    split at e <;> cases e
/-- THE RULE for a def -/
theorem fn_ok {P : Program} {w : World} {K : PySem.W.Frag} {mg : Str → Option Value} {base : Heap} {x qual : Str} {st : Stmt} {f : Addr} {fd : FuncData} {N ps : List Str} {k : Nat} {m : SM} (F : Fun K x qual st f fd) (S : FnScope N ps (defScope st))
    (hb : ∀ (cdv : Value) (A : Around) (outer : List Env) (s : Shared) (H : Hp) (E : XK), Room k (A.deeper (PyProof.Rows.envOfC qual (defScope st) s.heap.objs.size f cdv)) →
      PSs (cxOf (L2.CX P w) P w K mg base N qual (defScope st) f cdv A outer s H E) (defBody st) (tS G (fun c d _ H => E c d H) m)) :
    FnOk P w K mg base (L2.CX P w) (k + 1) f fd ps (spF G ps.length (runB N.length m)) := by
  refine F.okX S (fun vs H Q E h => h.1) (fun cdv A outer s H vs Q E hr h => ⟨_, hb cdv A outer s H E hr, ?_⟩)
  obtain ⟨hl, μ, xs, h, w, r, p⟩ := h
  refine ⟨μ, _, h, w, start_st r, ?_⟩
  unfold runB at p
  cases q : m (xs.map some ++ List.replicate (N.length - xs.length) none) h with
  | nx ds h' => rw [q] at p; exact fun μ' σ' H' e' w' r' => p μ' .non H' e' w' (by simp only [RV])
  | rt d h' => rw [q] at p; exact p
  | exc e ds h' => rw [q] at p; exact fun μ' σ' cls d H' e' w' r' rx => p μ' [] cls d H' e' w' ⟨rfl, fun i d z => by simp at z⟩ rx
  | bk ds h' => rw [q] at p; exact p.elim
  | ct ds h' => rw [q] at p; exact p.elim
  | no => rw [q] at p; exact p.elim
/-- below all calls -/
theorem fn_zero {P : Program} {w : World} {K : PySem.W.Frag} {mg : Str → Option Value} {base : Heap} {CXx : CXT} {f : Addr} {fd : FuncData} {ps : List Str} {n : Nat} {F : List D → DH → Res D} (hF : ∀ xs h, F xs h = .no) : FnOk P w K mg base CXx 0 f fd ps (spF G n F) := by
  have no : ∀ vs H Q E, ¬ spF G n F vs H Q E := fun vs H Q E ⟨_, μ, xs, h, _, _, p⟩ => by rw [hF] at p; exact p
  exact ⟨fun vs H Q E h => (no _ _ _ _ h).elim, fun A outer s H args us vs Q E _ _ _ _ h => (no _ _ _ _ h).elim⟩
theorem snd_call {F : List D → DH → Res D} {n : Nat} {m : AM} (hn : ∀ xs h, F xs h ≠ .no → xs.length = n) : ∀ σ H Q, tE G W (mCB F m) σ H Q → tCallS (spF G n F) (WE W) (tA G W m) σ H Q := fun σ H Q ⟨μ, ds, h, w, rs, p⟩ =>
  ⟨μ, ds, h, w, rs, post_bind p fun xs h1 μ1 vs H1 e1 w1 r1 p1 => by
    refine ⟨by rw [← r1.length]; exact hn xs h1 (fun e => by rw [e] at p1; exact p1), μ1, xs, h1, w1, r1, ?_⟩
    cases q : F xs h1 with
    | ok d h2 => rw [q] at p1; exact p1
    | exc x h2 => rw [q] at p1; exact fun μ' σ' cls d H' e' w' r' rx => p1 μ' σ cls d H' e' w' (rs.mono (e1.trans e')) rx
    | no => rw [q] at p1; exact p1⟩
theorem pm_call {e : Expr} {F : List D → DH → Res D} {n : Nat} {m : AM} (hn : ∀ xs h, F xs h ≠ .no → xs.length = n) (h : PE X e (tCallS (spF G n F) (WE W) (tA G W m))) : PE X e (tE G W (mCB F m)) := h.imp (snd_call hn)
end
end Mi
/-! operations on values -/
namespace L2
open PySem PySem.Spec PyProof.Rows
def strRep (z : Str) (n : Nat) : Str := ⟨((List.replicate n z.cps.toList).flatten).toArray⟩
theorem foldl_cat (x : Array Nat) : ∀ (n : Nat) (acc : Array Nat), (List.replicate n x).foldl (· ++ ·) acc = acc ++ ((List.replicate n x.toList).flatten).toArray
  | 0, acc => by simp
  | n + 1, acc => by
    rw [List.replicate_succ, List.foldl_cons, foldl_cat x n, List.replicate_succ, List.flatten_cons]
    apply Array.toList_inj.mp
    simp
theorem op_rep_str {X : Cx} : OpR X (binaryOp .Mult) (fun x y H Q => ∃ z k, x = .str z ∧ y = .int k ∧ 0 ≤ k ∧ k ≤ 1000 ∧ z.length ≤ 10000 ∧ Q (.str (strRep z k.toNat)) H) := by
  intro pins s σ H x y v u Q I rx ry h
  obtain ⟨z, k, rfl, rfl, h0, h1, h2, q⟩ := h
  obtain ⟨t, rfl⟩ := rx
  obtain ⟨t', rfl⟩ := ry
  have hz : z.length * k.toNat ≤ 10000 * 1000 := Nat.mul_le_mul h2 (by omega)
  refine PySem.P.mul_str ?_ (fun _ _ => ?_) (fun _ _ => ?_) ?_
  · rw [decide_eq_false (by omega), decide_eq_false (by omega)]; rfl
  · have e : (9223372036854775807 : Int) / 1000 ≤ (2 ^ 63 - 1) / k := by
      by_cases hk : k = 0
      · subst hk; omega
      · refine (Int.le_ediv_iff_mul_le (by omega)).mpr ?_
        have : (9223372036854775807 : Int) / 1000 * k ≤ (9223372036854775807 : Int) / 1000 * 1000 := Int.mul_le_mul_of_nonneg_left h1 (by decide)
        omega
    omega
  · unfold Builtin.Str.tooLong
    rw [sizeLine_eq]
    exact decide_eq_false (by omega)
  · have fin : ∀ (t : Tok) (tk : Nat), EP X pins σ Q (.str (strRep z k.toNat) t) { s with toks := tk } := fun t tk => ⟨.str _, H, I.tok tk, ⟨t, rfl⟩, q⟩
    by_cases hk : k < 1
    · rw [if_pos hk]
      have e : k.toNat = 0 := by omega
      have e2 : strRep z k.toNat = Str.empty := by rw [e]; rfl
      rw [e2] at fin
      exact ⟨by decide, fin _ _⟩
    · rw [if_neg hk]
      by_cases hc : (k == 1 || z.length == 0) = true
      · rw [if_pos hc]
        have e2 : strRep z k.toNat = z := by
          unfold strRep
          rcases (Bool.or_eq_true _ _).mp hc with e | e
          · have : k = 1 := beq_iff_eq.mp e
            subst this
            simp
          · have e' : z.cps.size = 0 := beq_iff_eq.mp e
            have e3 : z.cps = #[] := Array.eq_empty_of_size_eq_zero e'
            obtain ⟨c⟩ := z
            simp only at e3
            subst e3
            simp
        rw [e2] at fin
        exact fin _ _
      · rw [if_neg hc]
        have e2 : (⟨(List.replicate k.toNat z.cps).foldl (· ++ ·) #[]⟩ : Str) = strRep z k.toNat := by
          unfold strRep
          rw [foldl_cat]; simp
        rw [e2]
        refine ⟨?_, fin _ _⟩
        show (strRep z k.toNat).cps.size ≤ sizeLine
        rw [sizeLine_eq]
        have : (strRep z k.toNat).cps.size = z.length * k.toNat := by
          unfold strRep Str.length
          simp [List.length_flatten, List.sum_replicate_nat, Nat.mul_comm]
        rw [this]; omega
end L2
namespace Mi
open PySem L2
/-! ### 9. operations on data -/
def addD (x y : D) (h : DH) : Res D :=
  match x, y with
  | .int i, .int j => .ok (.int (i + j)) h
  | .str a, .str b => if a.length + b.length ≤ 16777216 then .ok (.str (a ++ b)) h else .no
  | .ref m, .ref n => (match h[m]?, h[n]? with
    | some (.lst xs), some (.lst ys) => if xs.length + ys.length ≤ 16777216 then .ok (.ref h.length) (h ++ [.lst (xs ++ ys)]) else .no
    | _, _ => .no)
  | .tup xs, .tup ys => if xs.length ≠ 0 ∧ xs.length + ys.length ≤ 16777216 then .ok (.tup (xs ++ ys)) h else .no
  | _, _ => .no
def subD (x y : D) (h : DH) : Res D := match x, y with | .int i, .int j => .ok (.int (i - j)) h | _, _ => .no
def mulC (i j : Int) : Prop := (-(2 ^ 64) < i ∧ i < 2 ^ 64) ∨ (-(2 ^ 64) < j ∧ j < 2 ^ 64)
instance (i j : Int) : Decidable (mulC i j) := by unfold mulC; infer_instance
def mulD (x y : D) (h : DH) : Res D :=
  match x, y with
  | .int i, .int j => if mulC i j then .ok (.int (i * j)) h else .no
  | .str a, .int k => if 0 ≤ k ∧ k ≤ 1000 ∧ a.length ≤ 10000 then .ok (.str (strRep a k.toNat)) h else .no
  | .ref m, .int k => (match h[m]? with
    | some (.lst xs) => if 0 ≤ k ∧ k ≤ 100000 ∧ xs.length * k.toNat ≤ 16777216 then .ok (.ref h.length) (h ++ [.lst (List.replicate k.toNat xs).flatten]) else .no
    | _ => .no)
  | _, _ => .no
def fdivD (x y : D) (h : DH) : Res D := match x, y with | .int i, .int j => if 0 < j ∧ j < 1073741824 then .ok (.int (i / j)) h else .no | _, _ => .no
def modD (x y : D) (h : DH) : Res D := match x, y with | .int i, .int j => if 0 < j then .ok (.int (i % j)) h else .no | _, _ => .no
def powD (x y : D) (h : DH) : Res D := match x, y with | .int i, .int j => if 0 ≤ j ∧ j ≤ 1000000 ∧ i.natAbs < 2 ^ 64 then .ok (.int (i ^ j.toNat)) h else .no | _, _ => .no
def negD (x : D) (h : DH) : Res D := match x with | .int i => .ok (.int (-i)) h | _ => .no
/-- == of plain values -/
def eqS (x y : D) : Option Bool :=
  match x, y with
  | .int i, .int j => some (decide (i = j))
  | .str a, .str b => some (decide (a = b))
  | .bl a, .bl b => some (decide (a = b))
  | .non, .non => some true
  | .non, .int _ => some false
  | .int _, .non => some false
  | .non, .str _ => some false
  | .str _, .non => some false
  | .non, .bl _ => some false
  | .bl _, .non => some false
  | .int _, .str _ => some false
  | .str _, .int _ => some false
  | .bl _, .str _ => some false
  | .str _, .bl _ => some false
  | _, _ => none
def eqD (x y : D) (h : DH) : Res D := match eqS x y with | some b => .ok (.bl b) h | none => .no
def neD (x y : D) (h : DH) : Res D := match eqS x y with | some b => .ok (.bl (!b)) h | none => .no
def ltD (x y : D) (h : DH) : Res D := match x, y with | .int i, .int j => .ok (.bl (decide (i < j))) h | _, _ => .no
def leD (x y : D) (h : DH) : Res D := match x, y with | .int i, .int j => .ok (.bl (decide (i ≤ j))) h | _, _ => .no
def gtD (x y : D) (h : DH) : Res D := match x, y with | .int i, .int j => .ok (.bl (decide (j < i))) h | _, _ => .no
def geD (x y : D) (h : DH) : Res D := match x, y with | .int i, .int j => .ok (.bl (decide (j ≤ i))) h | _, _ => .no
def isND (x y : D) (h : DH) : Res D := match y with | .non => (match x with | .non => .ok (.bl true) h | _ => .ok (.bl false) h) | _ => .no
def ntND (x y : D) (h : DH) : Res D := match y with | .non => (match x with | .non => .ok (.bl false) h | _ => .ok (.bl true) h) | _ => .no
def flatD : D → Bool
  | .non => true
  | .bl _ => true
  | .int _ => true
  | .str _ => true
  | _ => false
def eqF : D → D → Bool
  | .non, .non => true
  | .bl a, .bl b => a == b
  | .bl a, .int b => (if a then 1 else 0) == b
  | .int a, .bl b => a == (if b then 1 else 0)
  | .int a, .int b => a == b
  | .str a, .str b => a == b
  | _, _ => false
/-- the items of a list or a tuple -/
def itemsD (y : D) (h : DH) : Option (List D) :=
  match y with
  | .tup xs => some xs
  | .ref n => (match h[n]? with
    | some (.lst xs) => some xs
    | some (.fro xs) => some xs
    | _ => none)
  | _ => none
def inD (neg : Bool) (x y : D) (h : DH) : Res D :=
  match y with
  | .str b => (match x with
    | .str a => .ok (.bl (if neg then !(!(Builtin.Str.occurrences b a 0 b.length 1).isEmpty) else !(Builtin.Str.occurrences b a 0 b.length 1).isEmpty)) h
    | _ => .no)
  | _ => (match itemsD y h with
    | some xs => if flatD x && xs.all flatD then .ok (.bl (if neg then !(xs.any fun z => eqF z x) else xs.any fun z => eqF z x)) h else .no
    | none => .no)
def ixD (x y : D) (h : DH) : Res D :=
  match y with
  | .int i => (match x with
    | .str z => if z.length ≤ 16777216 then (match atI z.cps.toList i with | some c => .ok (.str ⟨#[c]⟩) h | none => .no) else .no
    | _ => (match itemsD x h with
      | some xs => (match atI xs i with | some d => .ok d h | none => .no)
      | none => .no))
  | _ => .no
def cutD {α : Type} (xs : List α) (lo hi : Option Int) : List α := (xs.drop (HT.sIx xs.length 0 lo)).take (HT.sIx xs.length xs.length hi - HT.sIx xs.length 0 lo)
def slD (x : D) (lo hi : Option Int) (h : DH) : Res D :=
  match x with
  | .tup xs => if HT.sIx xs.length 0 lo = 0 ∧ HT.sIx xs.length xs.length hi = xs.length then .no else .ok (.tup (cutD xs lo hi)) h
  | .ref n => (match itemsD (.ref n) h with
    | some xs => .ok (.ref h.length) (h ++ [.lst (cutD xs lo hi)])
    | none => .no)
  | .str z => if z.length ≤ 16777216 then .ok (.str (cutS z lo hi)) h else .no
  | _ => .no
def setD (o i v : D) (h : DH) : Option DH :=
  match o, i with
  | .ref n, .int k => (match h[n]? with
    | some (.lst xs) => (match ixN xs.length k with | some j => some (h.set n (.lst (xs.set j v))) | none => none)
    | _ => none)
  | _, _ => none
def appD (x : D) (xs : List D) (h : DH) : Res D := match x, xs with
  | .ref n, [y] => (match h[n]? with
    | some (.lst zs) => if zs.length < 16777216 then .ok .non (h.set n (.lst (zs ++ [y]))) else .no
    | _ => .no)
  | _, _ => .no
def popD (x : D) (xs : List D) (h : DH) : Res D := match x, xs with
  | .ref n, [] => (match h[n]? with
    | some (.lst zs) => (match zs[zs.length - 1]? with | some y => .ok y (h.set n (.lst zs.dropLast)) | none => .no)
    | _ => .no)
  | _, _ => .no
def clrD (x : D) (xs : List D) (h : DH) : Res D := match x, xs with
  | .ref n, [] => (match h[n]? with
    | some (.lst _) => .ok .non (h.set n (.lst []))
    | _ => .no)
  | _, _ => .no
def revD (x : D) (xs : List D) (h : DH) : Res D := match x, xs with
  | .ref n, [] => (match h[n]? with
    | some (.lst zs) => .ok .non (h.set n (.lst zs.reverse))
    | _ => .no)
  | _, _ => .no
def lenD (xs : List D) (h : DH) : Res D := match xs with
  | [.str z] => if z.length ≤ 16777216 then .ok (.int z.length) h else .no
  | [x] => (match itemsD x h with | some ys => .ok (.int ys.length) h | none => .no)
  | _ => .no
def intD (xs : List D) (h : DH) : Res D := match xs with
  | [.int i] => .ok (.int i) h
  | [.bl k] => .ok (.int (if k then 1 else 0)) h
  | _ => .no
def absD (xs : List D) (h : DH) : Res D := match xs with
  | [.int i] => .ok (.int (if i < 0 then -i else i)) h
  | _ => .no
def max2D (xs : List D) (h : DH) : Res D := match xs with
  | [.int i, .int j] => .ok (.int (if j > i then j else i)) h
  | _ => .no
def min2D (xs : List D) (h : DH) : Res D := match xs with
  | [.int i, .int j] => .ok (.int (if j < i then j else i)) h
  | _ => .no
def lstD (xs : List D) (h : DH) : Res D := match xs with
  | [x] => (match itemsD x h with | some ys => .ok (.ref h.length) (h ++ [.lst ys]) | none => .no)
  | _ => .no
def tupD (xs : List D) (h : DH) : Res D := match xs with
  | [.tup ys] => .ok (.tup ys) h
  | [.ref n] => (match itemsD (.ref n) h with | some ys => .ok (.tup ys) h | none => .no)
  | _ => .no
inductive Ty where | non | bool | int | str | list | tuple | dict
  deriving DecidableEq
def Ty.nm : Ty → String
  | .non => "NoneType" | .bool => "bool" | .int => "int" | .str => "str" | .list => "list" | .tuple => "tuple" | .dict => "dict"
def subTy (a b : Ty) : Bool := decide (a = b) || (decide (a = .bool) && decide (b = .int))
def tyD (x : D) (h : DH) : Option Ty :=
  match x with
  | .non => some .non
  | .bl _ => some .bool
  | .int _ => some .int
  | .str _ => some .str
  | .tup _ => some .tuple
  | .ref n => (match h[n]? with
    | some (.lst _) => some .list
    | some (.fro _) => some .list
    | some (.dK _) => some .dict
    | _ => none)
def mIsi (T : Ty) (a : EM) : EM := fun ds h => (a ds h).bind fun x h1 => match tyD x h1 with | some S => .ok (.bl (subTy S T)) h1 | none => .no
/-! ### 10. they are sound -/
section
variable {G : Cw} {X : Cx} {W : WX} {pos : Pos} {μ : List Addr} {H : Hp} {h : DH} {ds : DSt}
theorem or_op {r r' : R2} {f : D → D → DH → Res D} (hf : ∀ (W : WX) (ds : DSt) (μ : List Addr) (h : DH) (H : Hp) (x y : D) (v u : V) (Q : VK), Wd G μ h H → RV G μ H x v → RV G μ H y u → post G W ds (RV G) μ H (f x y h) Q → r v u H Q ∨ r' v u H Q) : OpS G (fun x y H Q => r x y H Q ∨ r' x y H Q) f := hf
abbrev rI2 (g : Int → Int → V) : R2 := rI0 g
theorem s_int2 {f : D → D → DH → Res D} {g : Int → Int → D} {gv : Int → Int → V} (hg : ∀ i j μ H, RV G μ H (g i j) (gv i j)) (hf : ∀ x y h, (∃ i j, x = .int i ∧ y = .int j ∧ f x y h = .ok (g i j) h) ∨ f x y h = .no) : OpS G (rI0 gv) f := fun W ds μ h H x y v u Q w rx ry p => by
  rcases hf x y h with ⟨i, j, rfl, rfl, e⟩ | e
  · simp only [RV] at rx ry
    rw [e] at p
    exact ⟨i, j, rx, ry, post_ok p w (hg i j μ H)⟩
  · rw [e] at p; exact p.elim
theorem s_sub : OpS G (rI0 fun i j => .int (i - j)) subD := s_int2 (g := fun i j => .int (i - j)) (fun _ _ _ _ => by simp only [RV]) fun x y h => by cases x <;> cases y <;> first | exact .inr rfl | exact .inl ⟨_, _, rfl, rfl, rfl⟩
theorem s_lt : OpS G (rI0 fun i j => .bl (decide (i < j))) ltD := s_int2 (g := fun i j => .bl (decide (i < j))) (fun _ _ _ _ => by simp only [RV]) fun x y h => by cases x <;> cases y <;> first | exact .inr rfl | exact .inl ⟨_, _, rfl, rfl, rfl⟩
theorem s_le : OpS G (rI0 fun i j => .bl (decide (i ≤ j))) leD := s_int2 (g := fun i j => .bl (decide (i ≤ j))) (fun _ _ _ _ => by simp only [RV]) fun x y h => by cases x <;> cases y <;> first | exact .inr rfl | exact .inl ⟨_, _, rfl, rfl, rfl⟩
theorem s_gt : OpS G (rI0 fun i j => .bl (decide (j < i))) gtD := s_int2 (g := fun i j => .bl (decide (j < i))) (fun _ _ _ _ => by simp only [RV]) fun x y h => by cases x <;> cases y <;> first | exact .inr rfl | exact .inl ⟨_, _, rfl, rfl, rfl⟩
theorem s_ge : OpS G (rI0 fun i j => .bl (decide (j ≤ i))) geD := s_int2 (g := fun i j => .bl (decide (j ≤ i))) (fun _ _ _ _ => by simp only [RV]) fun x y h => by cases x <;> cases y <;> first | exact .inr rfl | exact .inl ⟨_, _, rfl, rfl, rfl⟩
theorem s_int2C {C : Int → Int → Prop} [∀ i j, Decidable (C i j)] {f : D → D → DH → Res D} {g : Int → Int → D} {gv : Int → Int → V} (hg : ∀ i j μ H, RV G μ H (g i j) (gv i j)) (hf : ∀ x y h, (∃ i j, x = .int i ∧ y = .int j ∧ f x y h = if C i j then .ok (g i j) h else .no) ∨ f x y h = .no) : OpS G (rI C gv) f := fun W ds μ h H x y v u Q w rx ry p => by
  rcases hf x y h with ⟨i, j, rfl, rfl, e⟩ | e
  · simp only [RV] at rx ry
    rw [e] at p
    by_cases hc : C i j
    · rw [if_pos hc] at p
      exact ⟨i, j, rx, ry, hc, post_ok p w (hg i j μ H)⟩
    · rw [if_neg hc] at p; exact p.elim
  · rw [e] at p; exact p.elim
instance (i j : Int) : Decidable (CDiv i j) := by unfold CDiv; infer_instance
instance (i j : Int) : Decidable (CPow i j) := by unfold CPow; infer_instance
theorem s_fdiv : OpS G (rI CDiv fun i j => .int (i / j)) fdivD := s_int2C (g := fun i j => .int (i / j)) (fun _ _ _ _ => by simp only [RV]) fun x y h => by cases x <;> cases y <;> first | exact .inr rfl | exact .inl ⟨_, _, rfl, rfl, rfl⟩
theorem s_mod : OpS G (rI (fun _ j => 0 < j) fun i j => .int (i % j)) modD := s_int2C (C := fun _ j => 0 < j) (g := fun i j => .int (i % j)) (fun _ _ _ _ => by simp only [RV]) fun x y h => by cases x <;> cases y <;> first | exact .inr rfl | exact .inl ⟨_, _, rfl, rfl, rfl⟩
theorem s_pow : OpS G (rI CPow fun i j => .int (i ^ j.toNat)) powD := s_int2C (g := fun i j => .int (i ^ j.toNat)) (fun _ _ _ _ => by simp only [RV]) fun x y h => by cases x <;> cases y <;> first | exact .inr rfl | exact .inl ⟨_, _, rfl, rfl, rfl⟩
theorem s_neg : UnS G (rU fun i => .int (-i)) negD := fun W ds μ h H x v Q w rx p => by
  cases x with
  | int i => simp only [RV] at rx; exact ⟨i, rx, post_ok p w (by simp only [RV])⟩
  | _ => exact p.elim
/-! + -/
def rPlus (K : PySem.W.Frag) : R2 := fun x y H Q => rI0 (fun i j => .int (i + j)) x y H Q ∨ (∃ i j, x = .str i ∧ y = .str j ∧ i.length + j.length ≤ sizeLine ∧ Q (.str (i ++ j)) H) ∨ rCat x y H Q ∨ rCatT K x y H Q
theorem op_plus : OpR X (binaryOp .Add) (rPlus X.K) := op_add.or (op_add_str.or (op_cat.or op_catT))
theorem s_plus : OpS G (rPlus G.K) addD := fun W ds μ h H x y v u Q w rx ry p => by
  cases x with
  | int i =>
    cases y with
    | int j => simp only [RV] at rx ry; exact .inl ⟨i, j, rx, ry, post_ok p w (by simp only [RV])⟩
    | _ => exact p.elim
  | str a =>
    cases y with
    | str b =>
      simp only [RV] at rx ry
      simp only [addD] at p
      by_cases hz : a.length + b.length ≤ 16777216
      · rw [if_pos hz] at p
        exact .inr (.inl ⟨a, b, rx, ry, by rw [sizeLine_eq]; exact hz, post_ok p w (by simp only [RV])⟩)
      · rw [if_neg hz] at p; exact p.elim
    | _ => exact p.elim
  | ref m =>
    cases y with
    | ref n =>
      simp only [RV] at rx ry
      obtain ⟨a, rfl, ha⟩ := rx
      obtain ⟨b, rfl, hb⟩ := ry
      simp only [addD] at p
      cases q1 : h[m]? with
      | none => simp only [q1] at p; exact p.elim
      | some o1 =>
        cases o1 with
        | lst xs =>
          cases q2 : h[n]? with
          | none => simp only [q1, q2] at p; exact p.elim
          | some o2 =>
            cases o2 with
            | lst ys =>
              simp only [q1, q2] at p
              by_cases hz : xs.length + ys.length ≤ 16777216
              · rw [if_pos hz] at p
                obtain ⟨vs, h1, r1⟩ := w.ob _ _ _ ha q1
                obtain ⟨us, h2, r2⟩ := w.ob _ _ _ hb q2
                exact .inr (.inr (.inl ⟨a, b, vs, us, rfl, rfl, h1, h2, by rw [← r1.length, ← r2.length, sizeLine_eq]; exact hz, new_lst w (RVs.append r1 r2) p⟩))
              · rw [if_neg hz] at p; exact p.elim
            | _ => simp only [q1, q2] at p; exact p.elim
        | _ => simp only [q1] at p; exact p.elim
    | _ => exact p.elim
  | tup xs =>
    cases y with
    | tup ys =>
      simp only [RV] at rx ry
      obtain ⟨a, vs, rfl, ha, r1⟩ := rx
      obtain ⟨b, us, rfl, hb, r2⟩ := ry
      simp only [addD] at p
      by_cases hz : xs.length ≠ 0 ∧ xs.length + ys.length ≤ 16777216
      · rw [if_pos hz] at p
        refine .inr (.inr (.inr ⟨a, b, vs, us, rfl, rfl, ha, hb, ?_, by rw [← r1.length, ← r2.length, sizeLine_eq]; exact hz.2, fun e => ?_, fun _ => new_tup w (RVs.append r1 r2) p⟩))
        · intro e
          have := r1.length
          rw [e] at this
          exact hz.1 this
        · subst e
          have e2 : ys = [] := List.eq_nil_of_length_eq_zero r2.length
          subst e2
          rw [List.append_nil] at p
          exact post_ok p w (by simp only [RV]; exact ⟨a, vs, rfl, ha, r1⟩)
      · rw [if_neg hz] at p; exact p.elim
    | _ => exact p.elim
  | _ => cases y <;> exact p.elim
/-! * -/
def rTimes : R2 := fun x y H Q => rI CMul (fun i j => .int (i * j)) x y H Q ∨ (∃ z k, x = .str z ∧ y = .int k ∧ 0 ≤ k ∧ k ≤ 1000 ∧ z.length ≤ 10000 ∧ Q (.str (strRep z k.toNat)) H) ∨ rRep x y H Q
theorem op_times : OpR X (binaryOp .Mult) rTimes := op_mul.or (op_rep_str.or op_rep)
theorem s_times : OpS G rTimes mulD := fun W ds μ h H x y v u Q w rx ry p => by
  cases y with
  | int j =>
    simp only [RV] at ry
    cases x with
    | int i =>
      simp only [RV] at rx
      simp only [mulD] at p
      by_cases hz : mulC i j
      · rw [if_pos hz] at p; exact .inl ⟨i, j, rx, ry, hz, post_ok p w (by simp only [RV])⟩
      · rw [if_neg hz] at p; exact p.elim
    | str a =>
      simp only [RV] at rx
      simp only [mulD] at p
      by_cases hz : 0 ≤ j ∧ j ≤ 1000 ∧ a.length ≤ 10000
      · rw [if_pos hz] at p; exact .inr (.inl ⟨a, j, rx, ry, hz.1, hz.2.1, hz.2.2, post_ok p w (by simp only [RV])⟩)
      · rw [if_neg hz] at p; exact p.elim
    | ref m =>
      simp only [RV] at rx
      obtain ⟨a, rfl, ha⟩ := rx
      simp only [mulD] at p
      cases q1 : h[m]? with
      | none => simp only [q1] at p; exact p.elim
      | some o1 =>
        cases o1 with
        | lst xs =>
          simp only [q1] at p
          by_cases hz : 0 ≤ j ∧ j ≤ 100000 ∧ xs.length * j.toNat ≤ 16777216
          · rw [if_pos hz] at p
            obtain ⟨vs, h1, r1⟩ := w.ob _ _ _ ha q1
            refine .inr (.inr ⟨a, j, vs, rfl, ry, h1, by omega, by omega, by rw [← r1.length, sizeLine_eq]; exact hz.2.2, new_lst w ?_ p⟩)
            have rep : ∀ n : Nat, RVs G μ H (List.replicate n xs).flatten (List.replicate n vs).flatten := fun n => by
              induction n with
              | zero => exact RVs.nil
              | succ n ih => rw [List.replicate_succ, List.replicate_succ, List.flatten_cons, List.flatten_cons]; exact RVs.append r1 ih
            exact rep _
          · rw [if_neg hz] at p; exact p.elim
        | _ => simp only [q1] at p; exact p.elim
    | _ => exact p.elim
  | _ => cases x <;> exact p.elim
/-! comparisons -/
theorem eqS_ok {x y : D} {v u : V} {b : Bool} (rx : RV G μ H x v) (ry : RV G μ H y u) (e : eqS x y = some b) : scal v u = true ∧ decide (v = u) = b := by
  cases x <;> cases y <;> simp only [eqS, RV] at e rx ry <;> first | (cases e; done) | (subst rx; subst ry; cases e; exact ⟨rfl, by first | rfl | simp⟩)
theorem s_eq : OpS G rEq eqD := fun W ds μ h H x y v u Q w rx ry p => by
  unfold eqD at p
  cases e : eqS x y with
  | none => rw [e] at p; exact p.elim
  | some b =>
    rw [e] at p
    obtain ⟨h1, h2⟩ := eqS_ok rx ry e
    exact ⟨h1, post_ok p w (by simp only [RV]; rw [h2])⟩
theorem s_ne : OpS G rNe neD := fun W ds μ h H x y v u Q w rx ry p => by
  unfold neD at p
  cases e : eqS x y with
  | none => rw [e] at p; exact p.elim
  | some b =>
    rw [e] at p
    obtain ⟨h1, h2⟩ := eqS_ok rx ry e
    exact ⟨h1, post_ok p w (by simp only [RV]; rw [h2])⟩
theorem s_isN : OpS G (fun x y H Q => y = .non ∧ Q (.bl (decide (x = .non))) H) isND := fun W ds μ h H x y v u Q w rx ry p => by
  cases y with
  | non =>
    simp only [RV] at ry
    refine ⟨ry, ?_⟩
    cases x <;> simp only [RV] at rx <;> first
      | (subst rx; exact post_ok p w (by simp only [RV]; rfl))
      | (obtain ⟨a, vs, rfl, _⟩ := rx; exact post_ok p w (by simp only [RV]; rfl))
      | (obtain ⟨a, rfl, _⟩ := rx; exact post_ok p w (by simp only [RV]; rfl))
  | _ => exact p.elim
theorem s_ntN : OpS G (fun x y H Q => y = .non ∧ Q (.bl (!decide (x = .non))) H) ntND := fun W ds μ h H x y v u Q w rx ry p => by
  cases y with
  | non =>
    simp only [RV] at ry
    refine ⟨ry, ?_⟩
    cases x <;> simp only [RV] at rx <;> first
      | (subst rx; exact post_ok p w (by simp only [RV]; rfl))
      | (obtain ⟨a, vs, rfl, _⟩ := rx; exact post_ok p w (by simp only [RV]; rfl))
      | (obtain ⟨a, rfl, _⟩ := rx; exact post_ok p w (by simp only [RV]; rfl))
  | _ => exact p.elim
/-! sequences -/
theorem items_ok {y : D} {u : V} {xs : List D} (w : Wd G μ h H) (ry : RV G μ H y u) (e : itemsD y h = some xs) : ∃ a vs, u = .ref a ∧ RVs G μ H xs vs ∧ (((∃ n, y = .ref n) ∧ SqL G.K H a vs) ∨ (y = .tup xs ∧ SqT G.K H a vs)) := by
  cases y with
  | tup ys =>
    simp only [RV] at ry
    obtain ⟨a, vs, rfl, ha, r⟩ := ry
    cases e
    exact ⟨a, vs, rfl, r, .inr ⟨rfl, ha⟩⟩
  | ref n =>
    simp only [RV] at ry
    obtain ⟨a, rfl, ha⟩ := ry
    simp only [itemsD] at e
    cases q : h[n]? with
    | none => simp only [q] at e; cases e
    | some o =>
      simp only [q] at e
      cases o with
      | lst ys => cases e; obtain ⟨vs, s, r⟩ := w.seq ha (.inl q); exact ⟨a, vs, rfl, r, .inl ⟨⟨n, rfl⟩, s⟩⟩
      | fro ys => cases e; obtain ⟨vs, s, r⟩ := w.seq ha (.inr q); exact ⟨a, vs, rfl, r, .inl ⟨⟨n, rfl⟩, s⟩⟩
      | dK kvs => cases e
      | ins c fs => cases e
  | _ => cases e
theorem flat_ok {x : D} {v : V} (rx : RV G μ H x v) (f : flatD x = true) : flatV v = true := by
  cases x <;> simp only [RV] at rx <;> first | (cases f; done) | (subst rx; rfl)
theorem eqF_ok {x y : D} {v u : V} (rx : RV G μ H x v) (ry : RV G μ H y u) (f : flatD x = true) (g : flatD y = true) : eqV v u = eqF x y := by
  cases x <;> simp only [RV] at rx <;> first | (cases f; done) | (subst rx; cases y <;> simp only [RV] at ry <;> first | (cases g; done) | (subst ry; rfl))
theorem flats_ok : ∀ {xs : List D} {vs : List V}, RVs G μ H xs vs → xs.all flatD = true → vs.all flatV = true
  | [], vs, r, f => by simp only [RVs] at r; subst r; rfl
  | x :: xs, vs, r, f => by
    simp only [RVs] at r
    obtain ⟨v, ws, rfl, r1, r2⟩ := r
    rw [List.all_cons, Bool.and_eq_true] at f ⊢
    exact ⟨flat_ok r1 f.1, flats_ok r2 f.2⟩
theorem any_ok {x : D} {v : V} (rx : RV G μ H x v) (f : flatD x = true) : ∀ {xs : List D} {vs : List V}, RVs G μ H xs vs → xs.all flatD = true → inV v vs = xs.any fun z => eqF z x
  | [], vs, r, g => by simp only [RVs] at r; subst r; rfl
  | y :: xs, vs, r, g => by
    simp only [RVs] at r
    obtain ⟨u, ws, rfl, r1, r2⟩ := r
    rw [List.all_cons, Bool.and_eq_true] at g
    have ih := any_ok rx f r2 g.2
    unfold inV at ih ⊢
    rw [List.any_cons, List.any_cons, ih, eqF_ok r1 rx g.1 f]
def rInA (K : PySem.W.Frag) (neg : Bool) : R2 := fun x y H Q => (∃ i j, x = .str i ∧ y = .str j ∧ Q (.bl (if neg then !(!(Builtin.Str.occurrences j i 0 j.length 1).isEmpty) else !(Builtin.Str.occurrences j i 0 j.length 1).isEmpty)) H) ∨ rIn K neg x y H Q
theorem op_inA : OpR X (compareOp .In) (rInA X.K false) := op_in_str.or op_in_seq
theorem op_ninA : OpR X (compareOp .NotIn) (rInA X.K true) := op_notin_str.or op_notIn_seq
theorem s_in {neg : Bool} : OpS G (rInA G.K neg) (inD neg) := fun W ds μ h H x y v u Q w rx ry p => by
  have fin : ∀ xs, itemsD y h = some xs → post G W ds (RV G) μ H (if flatD x && xs.all flatD then .ok (.bl (if neg then !(xs.any fun z => eqF z x) else xs.any fun z => eqF z x)) h else .no) Q → rInA G.K neg v u H Q := fun xs e p => by
    obtain ⟨a, vs, rfl, r, s⟩ := items_ok w ry e
    by_cases hf : (flatD x && xs.all flatD) = true
    · rw [if_pos hf] at p
      rw [Bool.and_eq_true] at hf
      refine .inr ⟨a, vs, rfl, ?_, flat_ok rx hf.1, flats_ok r hf.2, ?_⟩
      · rcases s with ⟨_, s⟩ | ⟨_, s⟩
        · exact .inl s
        · exact .inr s
      · rw [any_ok rx hf.1 r hf.2]
        exact post_ok p w (by simp only [RV])
    · rw [if_neg hf] at p; exact p.elim
  cases y with
  | str b =>
    simp only [RV] at ry
    cases x with
    | str a => simp only [RV] at rx; exact .inl ⟨a, b, rx, ry, post_ok p w (by simp only [RV])⟩
    | _ => exact p.elim
  | tup xs => exact fin xs rfl p
  | ref n =>
    have p2 : post G W ds (RV G) μ H (match itemsD (.ref n) h with | some xs => if flatD x && xs.all flatD then .ok (.bl (if neg then !(xs.any fun z => eqF z x) else xs.any fun z => eqF z x)) h else .no | none => .no) Q := p
    cases q : itemsD (.ref n) h with
    | none => rw [q] at p2; exact p2.elim
    | some xs => rw [q] at p2; exact fin xs q p2
  | _ => exact p.elim
theorem atI_ok {xs : List D} {vs : List V} {i : Int} {d : D} (r : RVs G μ H xs vs) (e : atI xs i = some d) : ∃ v, atI vs i = some v ∧ RV G μ H d v := by
  unfold atI at e ⊢
  rw [← r.length]
  cases q : ixN xs.length i with
  | none => rw [q] at e; cases e
  | some j =>
    rw [q] at e
    exact r.get e
theorem s_ix : OpS G (rIx G.K) ixD := fun W ds μ h H x y v u Q w rx ry p => by
  cases y with
  | int i =>
    simp only [RV] at ry
    have fin : ∀ xs, itemsD x h = some xs → post G W ds (RV G) μ H (match atI xs i with | some d => .ok d h | none => .no) Q → rIx G.K v u H Q := fun xs e p => by
      obtain ⟨a, vs, rfl, r, s⟩ := items_ok w rx e
      cases q : atI xs i with
      | none => rw [q] at p; exact p.elim
      | some d =>
        rw [q] at p
        obtain ⟨z, h1, h2⟩ := atI_ok r q
        rcases s with ⟨_, s⟩ | ⟨_, s⟩
        · exact .inl ⟨a, vs, i, z, rfl, ry, s, h1, post_ok p w h2⟩
        · exact .inr (.inl ⟨a, vs, i, z, rfl, ry, s, h1, post_ok p w h2⟩)
    cases x with
    | str z =>
      simp only [RV] at rx
      simp only [ixD] at p
      by_cases hz : z.length ≤ 16777216
      · rw [if_pos hz] at p
        cases q : atI z.cps.toList i with
        | none => rw [q] at p; exact p.elim
        | some c =>
          rw [q] at p
          exact .inr (.inr ⟨z, i, c, rx, ry, by rw [sizeLine_eq]; exact hz, q, post_ok p w (by simp only [RV])⟩)
      · rw [if_neg hz] at p; exact p.elim
    | tup xs => exact fin xs rfl p
    | ref n =>
      have p2 : post G W ds (RV G) μ H (match itemsD (.ref n) h with | some xs => (match atI xs i with | some d => .ok d h | none => .no) | none => .no) Q := p
      cases q : itemsD (.ref n) h with
      | none => rw [q] at p2; exact p2.elim
      | some xs => rw [q] at p2; exact fin xs q p2
    | _ => exact p.elim
  | _ => exact p.elim
theorem cut_ok {xs : List D} {vs : List V} (lo hi : Option Int) (r : RVs G μ H xs vs) : RVs G μ H (cutD xs lo hi) (cutV vs lo hi) := by
  unfold cutD cutV
  rw [← r.length]
  exact RVs.take _ (RVs.drop _ r)
def rSlA (K : PySem.W.Frag) : V → Option Int → Option Int → Hp → VK → Prop := fun x lo hi H Q => rSlL K x lo hi H Q ∨ rSlT K x lo hi H Q ∨ rSlS x lo hi H Q
theorem sl_any : SlR X (rSlA X.K) := sl_list.or (sl_tup.or sl_str)
theorem s_sl : SlS G (rSlA G.K) slD := fun W ds μ h H x v lo hi Q w rx p => by
  cases x with
  | str z =>
    simp only [RV] at rx
    simp only [slD] at p
    by_cases hz : z.length ≤ 16777216
    · rw [if_pos hz] at p
      exact .inr (.inr ⟨z, rx, by rw [sizeLine_eq]; exact hz, post_ok p w (by simp only [RV])⟩)
    · rw [if_neg hz] at p; exact p.elim
  | tup xs =>
    simp only [RV] at rx
    obtain ⟨a, vs, rfl, ha, r⟩ := rx
    simp only [slD] at p
    by_cases hz : HT.sIx xs.length 0 lo = 0 ∧ HT.sIx xs.length xs.length hi = xs.length
    · rw [if_pos hz] at p; exact p.elim
    · rw [if_neg hz] at p
      exact .inr (.inl ⟨a, vs, rfl, ha, by rw [← r.length]; exact hz, new_tup w (cut_ok lo hi r) p⟩)
  | ref n =>
    simp only [slD] at p
    cases q : itemsD (.ref n) h with
    | none => rw [q] at p; exact p.elim
    | some xs =>
      rw [q] at p
      obtain ⟨a, vs, rfl, r, s⟩ := items_ok w rx q
      rcases s with ⟨_, s⟩ | ⟨s, _⟩
      · exact .inl ⟨a, vs, rfl, s, new_lst w (cut_ok lo hi r) p⟩
      · cases s
  | _ => exact p.elim
theorem s_set : SetS G rSetL setD := fun μ h H x y z o i v h' Q w rx ry rz e k => by
  unfold setD at e
  cases x with
  | ref n =>
    cases y with
    | int j =>
      simp only [RV] at rx ry
      obtain ⟨a, rfl, ha⟩ := rx
      simp only at e
      cases q : h[n]? with
      | none => simp only [q] at e; cases e
      | some ob =>
        cases ob with
        | lst xs =>
          simp only [q] at e
          cases q2 : ixN xs.length j with
          | none => simp only [q2] at e; cases e
          | some m =>
            simp only [q2] at e
            cases e
            obtain ⟨vs, h1, r1⟩ := w.ob _ _ _ ha q
            obtain ⟨ex, w2⟩ := w.setL ha q (RVs.set rz m r1)
            exact ⟨a, vs, j, m, rfl, ry, h1, by rw [← r1.length]; exact q2, k _ ex w2⟩
        | _ => simp only [q] at e; cases e
    | _ => cases e
  | _ => cases e
/-! methods of lists -/
theorem lst_of {x : D} {v : V} {n : Nat} {zs : List D} (w : Wd G μ h H) (rx : RV G μ H (.ref n) v) (q : h[n]? = some (.lst zs)) : ∃ a vs, v = .ref a ∧ μ[n]? = some a ∧ H a = some (.lst vs) ∧ RVs G μ H zs vs := by
  simp only [RV] at rx
  obtain ⟨a, rfl, ha⟩ := rx
  obtain ⟨vs, h1, r1⟩ := w.ob _ _ _ ha q
  exact ⟨a, vs, rfl, ha, h1, r1⟩
theorem s_app : MtSd G rAppend appD := fun W ds μ h H x v xs vs Q w rx rs p => by
  unfold appD at p
  split at p
  · rename_i n y
    cases q : h[n]? with
    | none => simp only [q] at p; exact p.elim
    | some ob =>
      cases ob with
      | lst zs =>
        simp only [q] at p
        by_cases hz : zs.length < 16777216
        · rw [if_pos hz] at p
          obtain ⟨a, us, rfl, ha, h1, r1⟩ := lst_of (x := .non) w rx q
          simp only [RVs] at rs
          obtain ⟨u, ws, rfl, r2, rfl⟩ := rs
          obtain ⟨ex, w2⟩ := w.setL ha q (RVs.append r1 (RVs.cons r2 RVs.nil))
          exact ⟨a, us, u, rfl, rfl, h1, by rw [← r1.length, sizeLine_eq]; exact hz, p _ _ _ ex w2 (by simp only [RV])⟩
        · rw [if_neg hz] at p; exact p.elim
      | _ => simp only [q] at p; exact p.elim
  · exact p.elim
theorem s_pop : MtSd G rPop popD := fun W ds μ h H x v xs vs Q w rx rs p => by
  unfold popD at p
  split at p
  · rename_i n
    cases q : h[n]? with
    | none => simp only [q] at p; exact p.elim
    | some ob =>
      cases ob with
      | lst zs =>
        simp only [q] at p
        cases q2 : zs[zs.length - 1]? with
        | none => simp only [q2] at p; exact p.elim
        | some y =>
          simp only [q2] at p
          obtain ⟨a, us, rfl, ha, h1, r1⟩ := lst_of (x := .non) w rx q
          simp only [RVs] at rs
          subst rs
          obtain ⟨u, g1, g2⟩ := r1.get q2
          have rd : RVs G μ H zs.dropLast us.dropLast := by
            rw [List.dropLast_eq_take, List.dropLast_eq_take, r1.length]
            exact RVs.take _ r1
          obtain ⟨ex, w2⟩ := w.setL ha q rd
          exact ⟨a, us, u, rfl, rfl, h1, by rw [← r1.length]; exact g1, p _ _ _ ex w2 (RV.mono ex _ _ g2)⟩
      | _ => simp only [q] at p; exact p.elim
  · exact p.elim
theorem s_clr : MtSd G rClear clrD := fun W ds μ h H x v xs vs Q w rx rs p => by
  unfold clrD at p
  split at p
  · rename_i n
    cases q : h[n]? with
    | none => simp only [q] at p; exact p.elim
    | some ob =>
      cases ob with
      | lst zs =>
        simp only [q] at p
        obtain ⟨a, us, rfl, ha, h1, r1⟩ := lst_of (x := .non) w rx q
        simp only [RVs] at rs
        subst rs
        obtain ⟨ex, w2⟩ := w.setL (ys := []) ha q RVs.nil
        exact ⟨a, us, rfl, rfl, h1, p _ _ _ ex w2 (by simp only [RV])⟩
      | _ => simp only [q] at p; exact p.elim
  · exact p.elim
theorem RVs.reverse : ∀ {xs : List D} {vs : List V}, RVs G μ H xs vs → RVs G μ H xs.reverse vs.reverse
  | [], vs, r => by simp only [RVs] at r; subst r; exact RVs.nil
  | x :: xs, vs, r => by
    simp only [RVs] at r
    obtain ⟨v, ws, rfl, r1, r2⟩ := r
    rw [List.reverse_cons, List.reverse_cons]
    exact RVs.append (RVs.reverse r2) (RVs.cons r1 RVs.nil)
theorem s_rev : MtSd G rReverse revD := fun W ds μ h H x v xs vs Q w rx rs p => by
  unfold revD at p
  split at p
  · rename_i n
    cases q : h[n]? with
    | none => simp only [q] at p; exact p.elim
    | some ob =>
      cases ob with
      | lst zs =>
        simp only [q] at p
        obtain ⟨a, us, rfl, ha, h1, r1⟩ := lst_of (x := .non) w rx q
        simp only [RVs] at rs
        subst rs
        obtain ⟨ex, w2⟩ := w.setL ha q (RVs.reverse r1)
        exact ⟨a, us, rfl, rfl, h1, p _ _ _ ex w2 (by simp only [RV])⟩
      | _ => simp only [q] at p; exact p.elim
  · exact p.elim
/-! calls -/
theorem vs1 {x : D} {vs : List V} (r : RVs G μ H [x] vs) : ∃ v, vs = [v] ∧ RV G μ H x v := by
  simp only [RVs] at r
  obtain ⟨v, ws, rfl, r1, rfl⟩ := r
  exact ⟨v, rfl, r1⟩
theorem vs2 {x y : D} {vs : List V} (r : RVs G μ H [x, y] vs) : ∃ v u, vs = [v, u] ∧ RV G μ H x v ∧ RV G μ H y u := by
  simp only [RVs] at r
  obtain ⟨v, ws, rfl, r1, u, ws2, rfl, r2, rfl⟩ := r
  exact ⟨v, u, rfl, r1, r2⟩
def rLen (K : PySem.W.Frag) : List V → Hp → VK → Prop := fun xs H Q => (∃ p ys, xs = [.ref p] ∧ (SqL K H p ys ∨ SqT K H p ys) ∧ Q (.int ys.length) H) ∨ (∃ z, xs = [.str z] ∧ z.length ≤ sizeLine ∧ Q (.int z.length) H)
theorem call_lenA : CallR X (.builtin "len") (rLen X.K) := call_len_seq.or call_len_str
theorem s_len : CallS G (rLen G.K) lenD := fun W ds μ h H xs vs Q w rs p => by
  unfold lenD at p
  split at p
  · rename_i z
    obtain ⟨v, rfl, r⟩ := vs1 rs
    simp only [RV] at r
    by_cases hz : z.length ≤ 16777216
    · rw [if_pos hz] at p
      exact .inr ⟨z, by rw [r], by rw [sizeLine_eq]; exact hz, post_ok p w (by simp only [RV])⟩
    · rw [if_neg hz] at p; exact p.elim
  · rename_i x _
    obtain ⟨v, rfl, r⟩ := vs1 rs
    cases q : itemsD x h with
    | none => simp only [q] at p; exact p.elim
    | some ys =>
      simp only [q] at p
      obtain ⟨a, us, rfl, r1, s⟩ := items_ok w r q
      refine .inl ⟨a, us, rfl, ?_, by rw [← r1.length]; exact post_ok p w (by simp only [RV])⟩
      rcases s with ⟨_, s⟩ | ⟨_, s⟩
      · exact .inl s
      · exact .inr s
  · exact p.elim
theorem s_int1 : CallS G (fun xs H Q => (∃ i, xs = [.int i] ∧ Q (.int i) H) ∨ ∃ k, xs = [.bl k] ∧ Q (.int (if k then 1 else 0)) H) intD := fun W ds μ h H xs vs Q w rs p => by
  unfold intD at p
  split at p
  · obtain ⟨v, rfl, r⟩ := vs1 rs
    simp only [RV] at r
    exact .inl ⟨_, by rw [r], post_ok p w (by simp only [RV])⟩
  · obtain ⟨v, rfl, r⟩ := vs1 rs
    simp only [RV] at r
    exact .inr ⟨_, by rw [r], post_ok p w (by simp only [RV])⟩
  · exact p.elim
theorem s_abs : CallS G (fun xs H Q => ∃ i, xs = [.int i] ∧ Q (.int (if i < 0 then -i else i)) H) absD := fun W ds μ h H xs vs Q w rs p => by
  unfold absD at p
  split at p
  · obtain ⟨v, rfl, r⟩ := vs1 rs
    simp only [RV] at r
    exact ⟨_, by rw [r], post_ok p w (by simp only [RV])⟩
  · exact p.elim
theorem s_max2 : CallS G (fun xs H Q => ∃ i j, xs = [.int i, .int j] ∧ Q (.int (if j > i then j else i)) H) max2D := fun W ds μ h H xs vs Q w rs p => by
  unfold max2D at p
  split at p
  · obtain ⟨v, u, rfl, r, r2⟩ := vs2 rs
    simp only [RV] at r r2
    exact ⟨_, _, by rw [r, r2], post_ok p w (by simp only [RV])⟩
  · exact p.elim
theorem s_min2 : CallS G (fun xs H Q => ∃ i j, xs = [.int i, .int j] ∧ Q (.int (if j < i then j else i)) H) min2D := fun W ds μ h H xs vs Q w rs p => by
  unfold min2D at p
  split at p
  · obtain ⟨v, u, rfl, r, r2⟩ := vs2 rs
    simp only [RV] at r r2
    exact ⟨_, _, by rw [r, r2], post_ok p w (by simp only [RV])⟩
  · exact p.elim
theorem s_lst : CallS G (fun xs H Q => ∃ p ys, xs = [.ref p] ∧ (SqL G.K H p ys ∨ SqT G.K H p ys) ∧ ∀ l, H l = none → Q (.ref l) (upd H l (.lst ys))) lstD := fun W ds μ h H xs vs Q w rs p => by
  unfold lstD at p
  split at p
  · rename_i x
    obtain ⟨v, rfl, r⟩ := vs1 rs
    cases q : itemsD x h with
    | none => simp only [q] at p; exact p.elim
    | some ys =>
      simp only [q] at p
      obtain ⟨a, us, rfl, r1, s⟩ := items_ok w r q
      refine ⟨a, us, rfl, ?_, new_lst w r1 p⟩
      rcases s with ⟨_, s⟩ | ⟨_, s⟩
      · exact .inl s
      · exact .inr s
  · exact p.elim
theorem s_tup : CallS G (fun xs H Q => ∃ p ys, xs = [.ref p] ∧ ((SqL G.K H p ys ∧ ∀ l, H l = none → Q (.ref l) (upd H l (.tup ys))) ∨ (SqT G.K H p ys ∧ Q (.ref p) H))) tupD := fun W ds μ h H xs vs Q w rs p => by
  unfold tupD at p
  split at p
  · obtain ⟨v, rfl, r⟩ := vs1 rs
    have r' := r
    simp only [RV] at r
    obtain ⟨a, us, rfl, ha, hb⟩ := r
    exact ⟨a, us, rfl, .inr ⟨ha, post_ok p w r'⟩⟩
  · rename_i n
    obtain ⟨v, rfl, r⟩ := vs1 rs
    cases q : itemsD (.ref n) h with
    | none => simp only [q] at p; exact p.elim
    | some ys =>
      simp only [q] at p
      obtain ⟨a, us, rfl, r1, s⟩ := items_ok w r q
      rcases s with ⟨_, s⟩ | ⟨s, _⟩
      · exact ⟨a, us, rfl, .inl ⟨s, new_tup w r1 p⟩⟩
      · cases s
  · exact p.elim
/-! isinstance -/
theorem kit_sub : ∀ a b : Ty, kitB a.nm b.nm = some (subTy a b) := by intro a b; cases a <;> cases b <;> decide +kernel
theorem tyD_ok {x : D} {v : V} {T : Ty} (w : Wd G μ h H) (r : RV G μ H x v) (e : tyD x h = some T) : TyX G.K H v (.type T.nm) := by
  cases x with
  | non => cases e; simp only [RV] at r; subst r; exact .base .non
  | bl b => cases e; simp only [RV] at r; subst r; exact .base (.bl b)
  | int i => cases e; simp only [RV] at r; subst r; exact .base (.int i)
  | str s => cases e; simp only [RV] at r; subst r; exact .base (.str s)
  | tup xs =>
    cases e
    simp only [RV] at r
    obtain ⟨a, vs, rfl, s, _⟩ := r
    rcases s with (s | ⟨o, s⟩) | ⟨o, its, n, s1, s2, _⟩
    · exact .base (.tup s)
    · exact .fTuple s
    · exact .kTuple s1 s2
  | ref n =>
    simp only [RV] at r
    obtain ⟨a, rfl, ha⟩ := r
    simp only [tyD] at e
    cases q : h[n]? with
    | none => simp only [q] at e; cases e
    | some o =>
      simp only [q] at e
      cases o with
      | lst ys => cases e; obtain ⟨vs, s, _⟩ := w.ob _ _ _ ha q; exact .base (.lst s)
      | fro ys =>
        cases e
        obtain ⟨vs, s, _⟩ := w.ob _ _ _ ha q
        rcases s with ⟨o, s⟩ | s
        · exact .base (.frz s)
        · rcases s (fun _ => none) with (z | ⟨o, z⟩) | ⟨o, its, n, s1, s2, _⟩
          · cases z
          · cases z
          · exact .kList s1 s2
      | dK kvs => cases e; obtain ⟨vs, s, _⟩ := w.ob _ _ _ ha q; exact .base (.dK s)
      | ins c fs => cases e
theorem pm_isi {e : Expr} {T : Ty} {m : EM} (hK : X.K = G.K) (h : PE X e (tCB (rIsi X.K) (L2.tCons (tE G W m) (L2.tCons (L2.tC (.ty T.nm)) L2.tNil)))) : PE X e (tE G W (mIsi T m)) := h.imp fun σ H Q ⟨μ, ds, h, w, rs, p⟩ =>
  ⟨μ, ds, h, w, rs, post_bind p fun x h1 μ1 v H1 e1 w1 r1 p1 => by
    cases q : tyD x h1 with
    | none => simp only [q] at p1; exact p1.elim
    | some S =>
      simp only [q] at p1
      rw [hK]
      exact ⟨v, .ty T.nm, .type S.nm, .type T.nm, subTy S T, rfl, .ty _, tyD_ok w1 r1 q, kit_ty (kit_sub S T), post_ok p1 w1 (by simp only [RV])⟩⟩
end
end Mi
/-! defs with their number of arguments, constants of the text, the end of a law -/
namespace Mi
open PySem L2
@[irreducible] def runF (ar n : Nat) (b : SM) (xs : List D) (h : DH) : Res D := if xs.length = ar then runB n b xs h else .no
theorem runF_len {ar n : Nat} {b : SM} {xs : List D} {h : DH} (e : runF ar n b xs h ≠ .no) : xs.length = ar := by
  unfold runF at e
  by_cases q : xs.length = ar
  · exact q
  · rw [if_neg q] at e; exact absurd rfl e
def addI (x y : D) (h : DH) : Res D := match x, y with | .int i, .int j => .ok (.int (i + j)) h | _, _ => .no
def subI (x y : D) (h : DH) : Res D := match x, y with | .int i, .int j => .ok (.int (i - j)) h | _, _ => .no
theorem gs_len2 {a b : GM} : ∀ xs ds h, (gsCons a (gsCons b gsNil) xs ds h).isSome = true → xs.length = 2 := by
  intro xs ds h e
  match xs with
  | [] => cases e
  | [x] =>
    simp only [gsCons] at e
    cases q : a x ds h with
    | none => rw [q] at e; cases e
    | some p => rw [q] at e; cases e
  | [x, y] => rfl
  | x :: y :: z :: r =>
    simp only [gsCons] at e
    cases q : a x ds h with
    | none => rw [q] at e; cases e
    | some p =>
      rw [q] at e
      simp only [Option.bind] at e
      cases q2 : b y p.1 p.2 with
      | none => rw [q2] at e; cases e
      | some p2 => rw [q2] at e; cases e
section
variable {G : Cw} {X : Cx} {W : WX} {pos : Pos} {μ : List Addr} {H : Hp} {h : DH}
theorem s_addI : OpS G (ipI fun i j => i + j) addI := s_int2 (gv := fun i j => .int (i + j)) (g := fun i j => .int (i + j)) (fun _ _ _ _ => by simp only [RV]) fun x y h => by cases x <;> cases y <;> first | exact .inr rfl | exact .inl ⟨_, _, rfl, rfl, rfl⟩
theorem s_subI : OpS G (ipI fun i j => i - j) subI := s_int2 (gv := fun i j => .int (i - j)) (g := fun i j => .int (i - j)) (fun _ _ _ _ => by simp only [RV]) fun x y h => by cases x <;> cases y <;> first | exact .inr rfl | exact .inl ⟨_, _, rfl, rfl, rfl⟩
theorem fn_okF {P : Program} {w : World} {K : PySem.W.Frag} {mg : Str → Option Value} {base : Heap} {x qual : Str} {st : Stmt} {f : Addr} {fd : FuncData} {N ps : List Str} {k : Nat} {m : SM} (F : Fun K x qual st f fd) (S : FnScope N ps (defScope st))
    (hb : ∀ (cdv : Value) (A : Around) (outer : List Env) (s : Shared) (H : Hp) (E : XK), Room k (A.deeper (PyProof.Rows.envOfC qual (defScope st) s.heap.objs.size f cdv)) →
      PSs (cxOf (L2.CX P w) P w K mg base N qual (defScope st) f cdv A outer s H E) (defBody st) (tS G (fun c d _ H => E c d H) m)) :
    FnOk P w K mg base (L2.CX P w) (k + 1) f fd ps (spF G ps.length (runF ps.length N.length m)) := (fn_ok (G := G) F S hb).imp fun vs H Q E ⟨hl, μ, xs, h, w, r, p⟩ => ⟨hl, μ, xs, h, w, r, by
  unfold runF at p
  rw [if_pos (by rw [r.length]; exact hl)] at p
  exact p⟩
/-- a tuple of the text's own, of flat values -/
def KTup (K : PySem.W.Frag) (mg : Str → Option Value) (x : Str) (xs : List D) : Prop := ∃ a vs, mg x = some (.ref a) ∧ (∀ H, SqT K H a vs) ∧ ∀ (G : Cw) μ H, RVs G μ H xs vs
theorem ktup_strs {K : PySem.W.Frag} {mg : Str → Option Value} {x : Str} {a : Addr} {od : Option Addr} {its : Array Value} {n : Nat} {sl : Array (Option Value)} {zs : List Str} (hm : mg x = some (.ref a)) (hl : K.lookup a = some ⟨.type "tuple", od, .seq its n, sl⟩)
    (hv : Vals (zs.map V.str) its.toList) (hz : its.size ≤ 1000) : KTup K mg x (zs.map D.str) :=
  ⟨a, zs.map V.str, hm, fun H => .inr ⟨_, its, n, hl, rfl, rfl, Nat.le_trans hz (by decide), hv⟩, fun G μ H => RVs.strs⟩
theorem pm_ktup {x : Str} {xs : List D} (hg : Gl X x) (k : KTup X.K X.mg x xs) (hK : X.K = G.K) (hd : (x == ("__debug__" : Str)) = false := by decide) : PE X (.Name x pos) (tE G W (mC (.tup xs))) := by
  obtain ⟨a, vs, hm, hs, hr⟩ := k
  refine pm_const (pe_glob hg hm (v := .ref a) rfl hd) fun μ H => ?_
  simp only [RV]
  exact ⟨a, vs, rfl, by rw [← hK]; exact hs H, hr G μ H⟩
theorem walk_law {l : PySem.W.OpenLaw} {k : Nat} {q : Program} {loose : List Str} {XP : (Str → Option Value) → Heap → Prop} {YP : World → Heap → Prop} {d : DefRec} {K : Params → PySem.W.Frag} {cad : PySem.W.Frag → Nat → Addr} {F : List D → DH → Res D}
    (hn : l.most = some 63) (hdf : d.params.defaults = []) (hr : Room k callerA)
    (hY : ∀ (w : World) (h : Heap), YP w h → (K w.params).In h)
    (hF : ∀ (w : World) (mg : Str → Option Value) (fa : Addr) (h : Heap), (K w.params).In h → h.Ns mainGlobals mg → mg d.name = some (.ref fa) →
      ∃ fd : FuncData, (∀ (s : Shared) (u : Value), BindsTo s fd ⟨[u], []⟩ [("script", u)]) ∧
        ∀ base : Heap, (K w.params).In base → base.Ns mainGlobals mg → FnOk l.prog w (K w.params) mg base (L2.CX l.prog w) k fa fd ["script"] (spF ⟨K w.params, cad (K w.params)⟩ 1 F))
    (main : ∀ ns : List Int, ns.length ≤ 63 → ∃ h', F [.ref 0] [.fro (ns.map D.int)] = .ok (.bl true) h') :
    PySem.W.WalkO q loose XP YP l.row.toRowW d [] (fun f vs => PySem.call f vs) :=
  L2.walk_of (n := 63) (k := k) (x := "script") (CX := fun w => L2.CX l.prog w) (sp := fun w => spF ⟨K w.params, cad (K w.params)⟩ 1 F) hn (by decide) hdf hr hY hF
    (fun w H a ns hl hO hS => by
      obtain ⟨h', e⟩ := main ns hl
      refine ⟨rfl, [a], [.ref 0], [.fro (ns.map D.int)], ⟨rfl, fun n b o e1 e2 => ?_, fun n m b o o' e1 e2 e3 e4 m1 m2 => ?_⟩, ?_, ?_⟩
      · match n, e1, e2 with
        | 0, e1, e2 =>
          cases e1
          cases e2
          refine ⟨ns.map V.int, ?_, RVs.ints⟩
          rcases hS with (hS | ⟨o, hS⟩) | hS
          · rcases hO a with z | ⟨o, xs, z⟩
            · rw [hS] at z; cases z
            · rw [hS] at z; cases z
          · exact .inl ⟨o, hS⟩
          · exact .inr fun H' => .inr hS
        | n + 1, e1, e2 => cases e1
      · match n, e3 with
        | 0, e3 => cases e3; cases m1
        | n + 1, e3 => cases e3
      · exact RVs.cons (by simp only [RV]; exact ⟨a, rfl, rfl⟩) RVs.nil
      · rw [e]
        intro μ' v H' _ _ r
        simpa only [RV] using r)
    (fun w H s e s' h => by
      obtain ⟨_, _, _, _, _, _, _, _, _, _, _, _, z⟩ := h
      exact z.elim)
end
end Mi
/-! more operations -/
namespace Mi
open PySem L2
def intsOf : List D → Option (List Int)
  | [] => some []
  | .int i :: r => (intsOf r).map (i :: ·)
  | _ :: _ => none
def bolsOf : List D → Option (List Bool)
  | [] => some []
  | .bl i :: r => (bolsOf r).map (i :: ·)
  | _ :: _ => none
def strsOf : List D → Option (List Str)
  | [] => some []
  | .str i :: r => (strsOf r).map (i :: ·)
  | _ :: _ => none
theorem intsOf_some : ∀ {xs : List D} {ns : List Int}, intsOf xs = some ns → xs = ns.map D.int
  | [], ns, e => by cases e; rfl
  | .int i :: r, ns, e => by
    simp only [intsOf] at e
    cases q : intsOf r with
    | none => rw [q] at e; cases e
    | some ms => rw [q] at e; cases e; rw [intsOf_some q]; rfl
theorem intsOf_map (ns : List Int) : intsOf (ns.map D.int) = some ns := by
  induction ns with
  | nil => rfl
  | cons n r ih => simp only [List.map_cons, intsOf, ih, Option.map_some]
theorem bolsOf_some : ∀ {xs : List D} {ns : List Bool}, bolsOf xs = some ns → xs = ns.map D.bl
  | [], ns, e => by cases e; rfl
  | .bl i :: r, ns, e => by
    simp only [bolsOf] at e
    cases q : bolsOf r with
    | none => rw [q] at e; cases e
    | some ms => rw [q] at e; cases e; rw [bolsOf_some q]; rfl
theorem bolsOf_map (ns : List Bool) : bolsOf (ns.map D.bl) = some ns := by
  induction ns with
  | nil => rfl
  | cons n r ih => simp only [List.map_cons, bolsOf, ih, Option.map_some]
theorem strsOf_some : ∀ {xs : List D} {ns : List Str}, strsOf xs = some ns → xs = ns.map D.str
  | [], ns, e => by cases e; rfl
  | .str i :: r, ns, e => by
    simp only [strsOf] at e
    cases q : strsOf r with
    | none => rw [q] at e; cases e
    | some ms => rw [q] at e; cases e; rw [strsOf_some q]; rfl
theorem strsOf_map (ns : List Str) : strsOf (ns.map D.str) = some ns := by
  induction ns with
  | nil => rfl
  | cons n r ih => simp only [List.map_cons, strsOf, ih, Option.map_some]
/-- the ints of a list -/
def lintsD (xs : List D) (h : DH) : Option (List Int) := match xs with
  | [.ref n] => (itemsD (.ref n) h).bind intsOf
  | _ => none
def sumD (xs : List D) (h : DH) : Res D := match lintsD xs h with | some ns => .ok (.int ns.sum) h | none => .no
section
variable {G : Cw} {X : Cx} {W : WX} {pos : Pos} {μ : List Addr} {H : Hp} {h : DH}
theorem lints_ok {xs : List D} {vs : List V} {ns : List Int} (w : Wd G μ h H) (r : RVs G μ H xs vs) (e : lintsD xs h = some ns) : ∃ a, vs = [.ref a] ∧ SqL G.K H a (ns.map V.int) := by
  unfold lintsD at e
  split at e
  · rename_i n
    obtain ⟨v, rfl, r1⟩ := vs1 r
    cases q : itemsD (.ref n) h with
    | none => rw [q] at e; cases e
    | some ys =>
      rw [q] at e
      have e2 : intsOf ys = some ns := e
      obtain ⟨a, us, rfl, r2, s⟩ := items_ok w r1 q
      rw [intsOf_some e2] at r2
      rw [r2.ints_of] at s
      rcases s with ⟨_, s⟩ | ⟨s, _⟩
      · exact ⟨a, rfl, s⟩
      · cases s
  · cases e
theorem s_sum : CallS G (rSum G.K) sumD := fun W ds μ h H xs vs Q w rs p => by
  unfold sumD at p
  cases e : lintsD xs h with
  | none => rw [e] at p; exact p.elim
  | some ns =>
    rw [e] at p
    obtain ⟨a, rfl, s⟩ := lints_ok w rs e
    exact ⟨a, ns, rfl, s, post_ok p w (by simp only [RV])⟩
end
end Mi
/-! starred arguments, tables of the text, deep comparisons -/
namespace Mi
open PySem L2 PyProof.Rows
def aStar (a : EM) (r : AM) : AM := fun ds h => (a ds h).bind fun x h1 => match itemsD x h1 with | some xs => (r ds h1).bind fun ys h2 => .ok (xs ++ ys) h2 | none => .no
/-! a table of the text with text keys -/
def KV (K : PySem.W.Frag) (d : D) (u : Value) : Prop := ∃ v, RelV v u ∧ ∀ (G : Cw), G.K = K → ∀ μ H, RV G μ H d v
def KVs (K : PySem.W.Frag) : List D → List Value → Prop
  | [], [] => True
  | d :: r, u :: us => KV K d u ∧ KVs K r us
  | _, _ => False
def KEnts (K : PySem.W.Frag) : List (Str × D) → List DictEntry → Prop
  | [], [] => True
  | p :: r, e :: es => (∃ t, e.key = .str p.1 t) ∧ KV K p.2 e.val ∧ KEnts K r es
  | _, _ => False
def KDc (K : PySem.W.Frag) (w : World) (mg : Str → Option Value) (x : Str) (tbl : List (Str × D)) : Prop := ∃ a es n, mg x = some (.ref a) ∧ KDict K w a es n ∧ KEnts K tbl es.toList
def lookD : List (Str × D) → Str → Option D
  | [], _ => none
  | p :: r, z => if p.1 = z then some p.2 else lookD r z
def mKD (tbl : List (Str × D)) (e : EM) : EM := fun ds h => (e ds h).bind fun x h1 => match x with
  | .str z => (match lookD tbl z with | some d => .ok d h1 | none => .no)
  | _ => .no
def mKIn (neg : Bool) (tbl : List (Str × D)) (e : EM) : EM := fun ds h => (e ds h).bind fun x h1 => match x with
  | .str z => .ok (.bl (if neg then !(lookD tbl z).isSome else (lookD tbl z).isSome)) h1
  | _ => .no
/-! deep data -/
def pyAll (f : D → Option PyData) : List D → Option (List PyData)
  | [] => some []
  | x :: r => (f x).bind fun d => (pyAll f r).map (d :: ·)
def pyD (h : DH) : Nat → D → Option PyData
  | 0, _ => none
  | _ + 1, .non => some .none
  | _ + 1, .bl b => some (.bool b)
  | _ + 1, .int i => some (.int i)
  | _ + 1, .str z => some (.str z)
  | k + 1, .tup xs => (pyAll (pyD h k) xs).map .tuple
  | k + 1, .ref n => (itemsD (.ref n) h).bind fun xs => (pyAll (pyD h k) xs).map .list
def deepE (x y : D) (h : DH) : Option Bool := match pyD h 70 x, pyD h 70 y with
  | some d, some e => if SeqAt.shaped d && SeqAt.shaped e then some (PyData.eqv d e) else none
  | _, _ => none
def eqA (x y : D) : DH → Option Bool := fun h => match eqS x y with | some b => some b | none => deepE x y h
def eqDD (x y : D) (h : DH) : Res D := match eqA x y h with | some b => .ok (.bl b) h | none => .no
def neDD (x y : D) (h : DH) : Res D := match eqA x y h with | some b => .ok (.bl (!b)) h | none => .no
def deepIn (x y : D) (h : DH) : Option Bool := match pyD h 70 x, pyD h 70 y with
  | some d, some (.list ds) => if SeqAt.shaped d && SeqAt.shaped (.list ds) then some (ds.any fun z => PyData.eqv z d) else none
  | _, _ => none
def flatIn (x : D) (y : D) (h : DH) : Option Bool := match y with
  | .str _ => none
  | _ => (match itemsD y h with
    | some xs => if flatD x && xs.all flatD then some (xs.any fun z => eqF z x) else none
    | none => none)
def inA (x y : D) (h : DH) : Option Bool := match flatIn x y h with | some b => some b | none => deepIn x y h
def inDD (neg : Bool) (x y : D) (h : DH) : Res D := match inA x y h with | some b => .ok (.bl (if neg then !b else b)) h | none => .no
def atF (p : PyData → Bool) : Nat → List PyData → Option Nat
  | _, [] => none
  | i, z :: r => if p z then some i else atF p (i + 1) r
def indexD (x : D) (xs : List D) (h : DH) : Res D := match x, xs with
  | .ref n, [y] => (match pyD h 70 y, pyD h 70 (.ref n) with
    | some d, some (.list ds) => if SeqAt.shaped d && SeqAt.shaped (.list ds) then (match atF (fun z => PyData.eqv z d) 0 ds with | some j => .ok (.int j) h | none => .no) else .no
    | _, _ => .no)
  | _, _ => .no
theorem gs_len0 : ∀ xs ds h, (gsNil xs ds h).isSome = true → xs.length = 0 := by
  intro xs ds h e
  cases xs with
  | nil => rfl
  | cons x r => cases e
theorem gs_lenS {g : GM} {r : List D → DSt → DH → Option (DSt × DH)} {n : Nat} (ih : ∀ xs ds h, (r xs ds h).isSome = true → xs.length = n) : ∀ xs ds h, (gsCons g r xs ds h).isSome = true → xs.length = n + 1 := by
  intro xs ds h e
  cases xs with
  | nil => cases e
  | cons x xs =>
    simp only [gsCons] at e
    cases q : g x ds h with
    | none => rw [q] at e; cases e
    | some p => rw [q] at e; rw [List.length_cons, ih xs p.1 p.2 e]
/-! a comprehension within a comprehension -/
theorem lookup_map {f : Str × NameKind → Str × NameKind} (hf : ∀ p, (f p).1 = p.1) (hk : ∀ p, p.2 = .cell ∨ p.2 = .free → (f p).2 = .cell ∨ (f p).2 = .free) : ∀ {l : List (Str × NameKind)} {x : Str}, l.lookup x = some .cell ∨ l.lookup x = some .free → (l.map f).lookup x = some .cell ∨ (l.map f).lookup x = some .free
  | [], x, h => by rcases h with h | h <;> cases h
  | p :: r, x, h => by
    obtain ⟨n, k⟩ := p
    have e1 : (f (n, k)) = (n, (f (n, k)).2) := by have := hf (n, k); exact Prod.ext this rfl
    rw [List.map_cons, e1]
    simp only [List.lookup] at h ⊢
    cases c : x == n with
    | true =>
      rw [c] at h
      simp only at h ⊢
      have := hk (n, k) (by rcases h with h | h; exact .inl (Option.some.inj h); exact .inr (Option.some.inj h))
      rcases this with q | q <;> rw [q]
      · exact .inl rfl
      · exact .inr rfl
    | false =>
      rw [c] at h
      exact lookup_map hf hk h
theorem blkOk_re {N : List Str} {sc scope : Scope} {own : List (Str × Nat)} {env : Env} (h : blkC N sc scope own = true) : BlkOk N (relabel sc env) scope own := by
  have b := blkOk_by h
  refine ⟨b.kind, b.uniq, b.ix, fun y hy e => ?_, b.own⟩
  unfold relabel
  refine lookup_map (fun p => ?_) (fun p q => ?_) (b.free y hy e)
  · obtain ⟨n, k⟩ := p
    by_cases c : (k == NameKind.free && env.scope.kind == .function && env.kindOf n == some .cell) = true
    · simp only [c, if_true]
    · simp only [c]; rfl
  · obtain ⟨n, k⟩ := p
    by_cases c : (k == NameKind.free && env.scope.kind == .function && env.kindOf n == some .cell) = true
    · simp only [c, if_true]; exact .inl trivial
    · simp only [c]; exact q
section
variable {G : Cw} {X : Cx} {W : WX} {pos : Pos} {μ : List Addr} {H : Hp} {h : DH} {ds : DSt}
theorem am_star {e : Expr} {p : Pos} {es : List Expr} {me : EM} {mr : AM} (hK : X.K = G.K) (ha : PE X e (tE G W me)) (hr : PA X es (tA G W mr)) (hs : starEach (.Starred e p :: es) X.env = (true, eval e X.env) :: starEach es X.env := by rfl) : PA X (.Starred e p :: es) (tA G W (aStar me mr)) :=
  (StX.pa_star ha hr hs).imp fun σ H Q ⟨μ, ds, h, w, rs, p⟩ => ⟨μ, ds, h, w, rs, post_bind p fun x h1 μ1 v H1 e1 w1 r1 p1 => by
    cases q : itemsD x h1 with
    | none => simp only [q] at p1; exact p1.elim
    | some xs =>
      simp only [q] at p1
      obtain ⟨a, vs, rfl, r2, s⟩ := items_ok w1 r1 q
      refine ⟨a, vs, rfl, ?_, μ1, ds, h1, w1, rs.mono e1, post_bind p1 fun ys h2 μ2 us H2 e2 w2 r3 p2 => post_ok p2 w2 (RVs.append (RVs.mono e2 _ _ r2) r3)⟩
      rw [hK]
      rcases s with ⟨_, s⟩ | ⟨_, s⟩
      · exact .inr s
      · exact .inl s⟩
theorem kv_str {K : PySem.W.Frag} {z : Str} {t : Tok} : KV K (.str z) (.str z t) := ⟨.str z, ⟨t, rfl⟩, fun _ _ _ _ => by simp only [RV]⟩
theorem kv_int {K : PySem.W.Frag} {z : Int} {t : Tok} : KV K (.int z) (.int z t) := ⟨.int z, ⟨t, rfl⟩, fun _ _ _ _ => by simp only [RV]⟩
theorem kv_bl {K : PySem.W.Frag} {z : Bool} : KV K (.bl z) (.bool z) := ⟨.bl z, rfl, fun _ _ _ _ => by simp only [RV]⟩
theorem kv_non {K : PySem.W.Frag} : KV K .non .none := ⟨.non, rfl, fun _ _ _ _ => by simp only [RV]⟩
theorem kvs_vals {K : PySem.W.Frag} : ∀ {xs : List D} {us : List Value}, KVs K xs us → ∃ vs, Vals vs us ∧ ∀ (G : Cw), G.K = K → ∀ μ H, RVs G μ H xs vs
  | [], [], _ => ⟨[], .nil, fun _ _ _ _ => RVs.nil⟩
  | d :: r, u :: us, h => by
    obtain ⟨v, h1, h2⟩ := h.1
    obtain ⟨vs, h3, h4⟩ := kvs_vals h.2
    exact ⟨v :: vs, .cons h1 h3, fun G e μ H => RVs.cons (h2 G e μ H) (h4 G e μ H)⟩
  | [], _ :: _, h => h.elim
  | _ :: _, [], h => h.elim
theorem kv_tup {K : PySem.W.Frag} {a : Addr} {od : Option Addr} {its : Array Value} {n : Nat} {sl : Array (Option Value)} {xs : List D} (hl : K.lookup a = some ⟨.type "tuple", od, .seq its n, sl⟩) (hv : KVs K xs its.toList) (hz : its.size ≤ 1000) : KV K (.tup xs) (.ref a) := by
  obtain ⟨vs, h1, h2⟩ := kvs_vals hv
  refine ⟨.ref a, rfl, fun G e μ H => ?_⟩
  simp only [RV]
  exact ⟨a, vs, rfl, .inr ⟨_, its, n, by rw [e]; exact hl, rfl, rfl, Nat.le_trans hz (by decide), h1⟩, h2 G e μ H⟩
theorem kents_look {K : PySem.W.Frag} {z : Str} : ∀ {tbl : List (Str × D)} {es : List DictEntry}, KEnts K tbl es →
    (match es.find? (·.key.isStr z) with | some e => ∃ d, lookD tbl z = some d ∧ KV K d e.val | none => lookD tbl z = none) ∧ es.any (·.refKey) = false
  | [], [], _ => ⟨rfl, rfl⟩
  | p :: r, e :: es, h => by
    obtain ⟨⟨t, h1⟩, h2, h3⟩ := h
    obtain ⟨i1, i2⟩ := kents_look (z := z) h3
    have q : e.key.isStr z = decide (p.1 = z) := by rw [h1]; rfl
    refine ⟨?_, ?_⟩
    · rw [List.find?_cons]
      simp only [q]
      by_cases c : p.1 = z
      · simp only [c, decide_true, lookD, if_true]
        exact ⟨p.2, rfl, h2⟩
      · simp only [c, decide_false, lookD, if_false]
        exact i1
    · rw [List.any_cons, i2, Bool.or_false]
      unfold DictEntry.refKey
      rw [h1]
  | [], _ :: _, h => h.elim
  | _ :: _, [], h => h.elim
theorem kdc_look {K : PySem.W.Frag} {w : World} {a : Addr} {es : Array DictEntry} {n : Nat} {tbl : List (Str × D)} (D : KDict K w a es n) (E : KEnts K tbl es.toList) (z : Str) :
    (∃ d u, lookD tbl z = some d ∧ PySem.W.nsIn K a z = some (some u) ∧ KV K d u) ∨ (lookD tbl z = none ∧ PySem.W.nsIn K a z = some none) := by
  obtain ⟨i1, i2⟩ := kents_look (z := z) E
  unfold PySem.W.nsIn
  rw [D.at_]
  cases q : es.toList.find? (·.key.isStr z) with
  | none =>
    rw [q] at i1
    simp only [q]
    rw [i2]
    exact .inr ⟨i1, rfl⟩
  | some e =>
    rw [q] at i1
    obtain ⟨d, h1, h2⟩ := i1
    simp only [q]
    exact .inl ⟨d, e.val, h1, rfl, h2⟩
theorem pm_kd {x : Str} {p : Pos} {e : Expr} {tbl : List (Str × D)} {m : EM} (hg : Gl X x) (k : KDc X.K X.w X.mg x tbl) (hK : X.K = G.K) (he : PE X e (tE G W m)) (hd : (x == ("__debug__" : Str)) = false := by decide) (hp : PlainIx e := by exact fun _ _ => rfl) :
    PE X (.Subscript (.Name x p) e pos) (tE G W (mKD tbl m)) := by
  obtain ⟨a, es, n, hm, D, E⟩ := k
  refine (pe_ix ix_kdict (pe_glob hg hm (v := .ref a) rfl hd) he hp).imp fun σ H Q ⟨μ, ds, h, w, rs, p⟩ => ?_
  refine ⟨μ, ds, h, w, rs, post_bind p fun x h1 μ1 v H1 e1 w1 r1 p1 => ?_⟩
  cases x with
  | str z =>
    simp only [RV] at r1
    subst r1
    rcases kdc_look D E z with ⟨d, u, q1, q2, v0, q3, q4⟩ | ⟨q1, q2⟩
    · simp only [q1] at p1
      exact ⟨a, z, v0, rfl, rfl, ⟨es, n, u, D.at_, D.lit, q2, q3⟩, post_ok p1 w1 (q4 G hK.symm _ _)⟩
    · simp only [q1] at p1; exact p1.elim
  | _ => exact p1.elim
theorem snd_kin {neg : Bool} {x : Str} {p : Pos} {e : Expr} {tbl : List (Str × D)} {m : EM} {a : Addr} {es : Array DictEntry} {n : Nat} (D : KDict X.K X.w a es n) (E : KEnts X.K tbl es.toList) : ∀ σ H Q, tE G W (mKIn neg tbl m) σ H Q →
    tOp (fun x y H Q => ∃ (z : Str) (r : Option Value), x = .str z ∧ y = .ref a ∧ PySem.W.nsIn X.K a z = some r ∧ Q (.bl (if neg then !r.isSome else r.isSome)) H) (tE G W m) (L2.tC (.ref a)) σ H Q := fun σ H Q ⟨μ, ds, h, w, rs, p⟩ =>
  ⟨μ, ds, h, w, rs, post_bind p fun x h1 μ1 v H1 e1 w1 r1 p1 => by
    cases x with
    | str z =>
      simp only [RV] at r1
      subst r1
      rcases kdc_look D E z with ⟨d, u, q1, q2, _⟩ | ⟨q1, q2⟩
      · simp only [q1] at p1
        exact ⟨z, some u, rfl, rfl, q2, post_ok p1 w1 (by simp only [RV]; rfl)⟩
      · simp only [q1] at p1
        exact ⟨z, none, rfl, rfl, q2, post_ok p1 w1 (by simp only [RV]; rfl)⟩
    | _ => exact p1.elim⟩
theorem pm_kin {x : Str} {p : Pos} {e : Expr} {tbl : List (Str × D)} {m : EM} (hg : Gl X x) (k : KDc X.K X.w X.mg x tbl) (he : PE X e (tE G W m)) (hd : (x == ("__debug__" : Str)) = false := by decide) :
    PE X (.Compare e [.In] [.Name x p] pos) (tE G W (mKIn false tbl m)) := by
  obtain ⟨a, es, n, hm, D, E⟩ := k
  exact (pe_cmpR (op_in_kd D) he (pe_glob hg hm (v := .ref a) rfl hd) rfl).imp (snd_kin (neg := false) (x := x) (p := p) (e := e) D E)
theorem tm_kin {x : Str} {p : Pos} {e : Expr} {tbl : List (Str × D)} {m : EM} (hg : Gl X x) (k : KDc X.K X.w X.mg x tbl) (he : PE X e (tE G W m)) (hd : (x == ("__debug__" : Str)) = false := by decide) :
    PT X (.Compare e [.In] [.Name x p] pos) (tT G W (mTest (mKIn false tbl m))) := by
  obtain ⟨a, es, n, hm, D, E⟩ := k
  exact (pt_cmpR (op_in_kd D) he (pe_glob hg hm (v := .ref a) rfl hd) rfl).imp (snd_test (snd_kin (neg := false) (x := x) (p := p) (e := e) D E))
theorem pm_knin {x : Str} {p : Pos} {e : Expr} {tbl : List (Str × D)} {m : EM} (hg : Gl X x) (k : KDc X.K X.w X.mg x tbl) (he : PE X e (tE G W m)) (hd : (x == ("__debug__" : Str)) = false := by decide) :
    PE X (.Compare e [.NotIn] [.Name x p] pos) (tE G W (mKIn true tbl m)) := by
  obtain ⟨a, es, n, hm, D, E⟩ := k
  exact (pe_cmpR (op_notIn_kd D) he (pe_glob hg hm (v := .ref a) rfl hd) rfl).imp (snd_kin (neg := true) (x := x) (p := p) (e := e) D E)
theorem tm_knin {x : Str} {p : Pos} {e : Expr} {tbl : List (Str × D)} {m : EM} (hg : Gl X x) (k : KDc X.K X.w X.mg x tbl) (he : PE X e (tE G W m)) (hd : (x == ("__debug__" : Str)) = false := by decide) :
    PT X (.Compare e [.NotIn] [.Name x p] pos) (tT G W (mTest (mKIn true tbl m))) := by
  obtain ⟨a, es, n, hm, D, E⟩ := k
  exact (pt_cmpR (op_notIn_kd D) he (pe_glob hg hm (v := .ref a) rfl hd) rfl).imp (snd_test (snd_kin (neg := true) (x := x) (p := p) (e := e) D E))
/-- a constant of the text -/
def KG (K : PySem.W.Frag) (mg : Str → Option Value) (x : Str) (d : D) : Prop := ∃ u, mg x = some u ∧ KV K d u
theorem pm_kg {x : Str} {d : D} (hg : Gl X x) (k : KG X.K X.mg x d) (hK : X.K = G.K) (hd : (x == ("__debug__" : Str)) = false := by decide) : PE X (.Name x pos) (tE G W (mC d)) := by
  obtain ⟨u, hm, v, r, q⟩ := k
  exact pm_const (pe_glob hg hm (v := v) r hd) fun μ H => q G hK.symm μ H
/-! deep data -/
theorem pyAll_ok {f : D → Option PyData} (hf : ∀ x v d, RV G μ H x v → f x = some d → Dp G.K H v d) : ∀ {xs : List D} {vs : List V} {dd : List PyData}, RVs G μ H xs vs → pyAll f xs = some dd → DpAll G.K H vs dd
  | [], vs, dd, r, e => by
    simp only [RVs] at r
    subst r
    cases e
    exact .nil
  | x :: xs, vs, dd, r, e => by
    simp only [RVs] at r
    obtain ⟨v, ws, rfl, r1, r2⟩ := r
    simp only [pyAll] at e
    cases q : f x with
    | none => rw [q] at e; cases e
    | some d =>
      rw [q] at e
      simp only [Option.bind] at e
      cases q2 : pyAll f xs with
      | none => rw [q2] at e; cases e
      | some d2 => rw [q2] at e; cases e; exact .cons (hf _ _ _ r1 q) (pyAll_ok hf r2 q2)
theorem py_ok (w : Wd G μ h H) : ∀ (k : Nat) (x : D) (v : V) (d : PyData), RV G μ H x v → pyD h k x = some d → Dp G.K H v d
  | 0, x, v, d, r, e => by cases e
  | k + 1, .non, v, d, r, e => by cases e; simp only [RV] at r; subst r; exact .non
  | k + 1, .bl b, v, d, r, e => by cases e; simp only [RV] at r; subst r; exact .bl b
  | k + 1, .int b, v, d, r, e => by cases e; simp only [RV] at r; subst r; exact .int b
  | k + 1, .str b, v, d, r, e => by cases e; simp only [RV] at r; subst r; exact .str b
  | k + 1, .tup xs, v, d, r, e => by
    simp only [RV] at r
    obtain ⟨a, vs, rfl, s, r2⟩ := r
    simp only [pyD] at e
    cases q : pyAll (pyD h k) xs with
    | none => rw [q] at e; cases e
    | some dd => rw [q] at e; cases e; exact .tup s (pyAll_ok (fun x v d => py_ok w k x v d) r2 q)
  | k + 1, .ref n, v, d, r, e => by
    simp only [pyD] at e
    cases q0 : itemsD (.ref n) h with
    | none => rw [q0] at e; cases e
    | some xs =>
      rw [q0] at e
      simp only [Option.bind] at e
      obtain ⟨a, vs, rfl, r2, s⟩ := items_ok w r q0
      cases q : pyAll (pyD h k) xs with
      | none => rw [q] at e; cases e
      | some dd =>
        rw [q] at e; cases e
        rcases s with ⟨_, s⟩ | ⟨s, _⟩
        · exact .lst s (pyAll_ok (fun x v d => py_ok w k x v d) r2 q)
        · cases s
theorem deepE_ok {x y : D} {v u : V} {b : Bool} (w : Wd G μ h H) (rx : RV G μ H x v) (ry : RV G μ H y u) (e : deepE x y h = some b) : ∃ d d', Dp G.K H v d ∧ Dp G.K H u d' ∧ SeqAt.shaped d = true ∧ SeqAt.shaped d' = true ∧ PyData.eqv d d' = b := by
  unfold deepE at e
  cases q1 : pyD h 70 x with
  | none => simp only [q1] at e; cases e
  | some d =>
    cases q2 : pyD h 70 y with
    | none => simp only [q1, q2] at e; cases e
    | some d' =>
      simp only [q1, q2] at e
      by_cases c : (SeqAt.shaped d && SeqAt.shaped d') = true
      · rw [if_pos c] at e
        rw [Bool.and_eq_true] at c
        exact ⟨d, d', py_ok w _ _ _ _ rx q1, py_ok w _ _ _ _ ry q2, c.1, c.2, Option.some.inj e⟩
      · rw [if_neg c] at e; cases e
theorem units65 {k : Nat} {A : Around} (r : Room k A) : A.units + 65 < cLine := by have := r.un; omega
theorem op_eqA (hu : X.A.units + 64 < cLine) : OpR X (compareOp .Eq) (fun x y H Q => rEq x y H Q ∨ rEqD X.K x y H Q) := op_eq.or (op_eqD hu)
theorem op_neA (hu : X.A.units + 64 < cLine) : OpR X (compareOp .NotEq) (fun x y H Q => rNe x y H Q ∨ rNeD X.K x y H Q) := op_ne.or (op_neD hu)
theorem s_eqA : OpS G (fun x y H Q => rEq x y H Q ∨ rEqD G.K x y H Q) eqDD := fun W ds μ h H x y v u Q w rx ry p => by
  unfold eqDD eqA at p
  cases e : eqS x y with
  | some b =>
    simp only [e] at p
    obtain ⟨h1, h2⟩ := eqS_ok rx ry e
    exact .inl ⟨h1, post_ok p w (by simp only [RV]; rw [h2])⟩
  | none =>
    simp only [e] at p
    cases e2 : deepE x y h with
    | none => simp only [e2] at p; exact p.elim
    | some b =>
      simp only [e2] at p
      obtain ⟨d, d', h1, h2, h3, h4, h5⟩ := deepE_ok w rx ry e2
      exact .inr ⟨d, d', h1, h2, h3, h4, post_ok p w (by simp only [RV]; rw [h5])⟩
theorem s_neA : OpS G (fun x y H Q => rNe x y H Q ∨ rNeD G.K x y H Q) neDD := fun W ds μ h H x y v u Q w rx ry p => by
  unfold neDD eqA at p
  cases e : eqS x y with
  | some b =>
    simp only [e] at p
    obtain ⟨h1, h2⟩ := eqS_ok rx ry e
    exact .inl ⟨h1, post_ok p w (by simp only [RV]; rw [h2])⟩
  | none =>
    simp only [e] at p
    cases e2 : deepE x y h with
    | none => simp only [e2] at p; exact p.elim
    | some b =>
      simp only [e2] at p
      obtain ⟨d, d', h1, h2, h3, h4, h5⟩ := deepE_ok w rx ry e2
      exact .inr ⟨d, d', h1, h2, h3, h4, post_ok p w (by simp only [RV]; rw [h5])⟩
def rInDD (K : PySem.W.Frag) (neg : Bool) : R2 := fun x y H Q => rIn K neg x y H Q ∨ (if neg then rNotInD K else rInD K) x y H Q
theorem op_inDD (hu : X.A.units + 65 < cLine) : OpR X (compareOp .In) (rInDD X.K false) := op_in_seq.or (op_inD hu)
theorem op_ninDD (hu : X.A.units + 65 < cLine) : OpR X (compareOp .NotIn) (rInDD X.K true) := op_notIn_seq.or (op_notInD hu)
theorem deepIn_ok {x y : D} {v u : V} {b : Bool} (w : Wd G μ h H) (rx : RV G μ H x v) (ry : RV G μ H y u) (e : deepIn x y h = some b) : ∃ d dd, Dp G.K H v d ∧ Dp G.K H u (.list dd) ∧ SeqAt.shaped d = true ∧ SeqAt.shaped (.list dd) = true ∧ (dd.any fun z => PyData.eqv z d) = b := by
  unfold deepIn at e
  cases q1 : pyD h 70 x with
  | none => simp only [q1] at e; cases e
  | some d =>
    cases q2 : pyD h 70 y with
    | none => simp only [q1, q2] at e; cases e
    | some d' =>
      cases d' with
      | list dd =>
        simp only [q1, q2] at e
        by_cases c : (SeqAt.shaped d && SeqAt.shaped (.list dd)) = true
        · rw [if_pos c] at e
          rw [Bool.and_eq_true] at c
          exact ⟨d, dd, py_ok w _ _ _ _ rx q1, py_ok w _ _ _ _ ry q2, c.1, c.2, Option.some.inj e⟩
        · rw [if_neg c] at e; cases e
      | _ => simp only [q1, q2] at e; cases e
theorem s_inDD {neg : Bool} : OpS G (rInDD G.K neg) (inDD neg) := fun W ds μ h H x y v u Q w rx ry p => by
  unfold inDD inA at p
  cases e : flatIn x y h with
  | some b =>
    simp only [e] at p
    refine .inl ?_
    have key : ∀ xs, itemsD y h = some xs → (if flatD x && xs.all flatD then some (xs.any fun z => eqF z x) else none) = some b → rIn G.K neg v u H Q := fun xs q e2 => by
      by_cases hf : (flatD x && xs.all flatD) = true
      · rw [if_pos hf] at e2
        rw [Bool.and_eq_true] at hf
        obtain ⟨a, vs, rfl, r2, s⟩ := items_ok w ry q
        refine ⟨a, vs, rfl, ?_, flat_ok rx hf.1, flats_ok r2 hf.2, ?_⟩
        · rcases s with ⟨_, s⟩ | ⟨_, s⟩
          · exact .inl s
          · exact .inr s
        · rw [any_ok rx hf.1 r2 hf.2]
          have e3 := Option.some.inj e2
          rw [e3]
          exact post_ok p w (by simp only [RV])
      · rw [if_neg hf] at e2; cases e2
    unfold flatIn at e
    cases y with
    | str z => cases e
    | tup xs => exact key xs rfl e
    | ref n =>
      cases q : itemsD (.ref n) h with
      | none => simp only [q] at e; cases e
      | some xs => simp only [q] at e; exact key xs q e
    | _ => cases e
  | none =>
    simp only [e] at p
    cases e2 : deepIn x y h with
    | none => simp only [e2] at p; exact p.elim
    | some b =>
      simp only [e2] at p
      obtain ⟨d, dd, h1, h2, h3, h4, h5⟩ := deepIn_ok w rx ry e2
      refine .inr ?_
      cases neg with
      | true => exact ⟨d, dd, h1, h2, h3, h4, post_ok p w (by simp only [RV]; rw [h5]; rfl)⟩
      | false => exact ⟨d, dd, h1, h2, h3, h4, post_ok p w (by simp only [RV]; rw [h5]; rfl)⟩
theorem atF_ok {p : PyData → Bool} : ∀ {l : List PyData} {i j : Nat}, atF p i l = some j → ∃ m z, j = i + m ∧ l[m]? = some z ∧ p z = true ∧ ∀ (m' : Nat) z', m' < m → l[m']? = some z' → p z' = false
  | [], i, j, e => by cases e
  | z :: r, i, j, e => by
    simp only [atF] at e
    cases q : p z with
    | true => rw [q] at e; cases e; exact ⟨0, z, rfl, rfl, q, fun m' _ l => by omega⟩
    | false =>
      rw [q] at e
      obtain ⟨m, z2, h1, h2, h3, h4⟩ := atF_ok e
      refine ⟨m + 1, z2, by omega, by simpa using h2, h3, fun m' z' l e2 => ?_⟩
      cases m' with
      | zero => simp at e2; subst e2; exact q
      | succ m' => exact h4 m' z' (by omega) (by simpa using e2)
theorem s_index : MtSd G (rIndexD G.K) indexD := fun W ds μ h H x v xs vs Q w rx rs p => by
  unfold indexD at p
  split at p
  · rename_i n y
    obtain ⟨u, rfl, r⟩ := vs1 rs
    split at p
    · rename_i d dd q1 q2
      by_cases c : (SeqAt.shaped d && SeqAt.shaped (.list dd)) = true
      · rw [if_pos c] at p
        rw [Bool.and_eq_true] at c
        cases q3 : atF (fun z => PyData.eqv z d) 0 dd with
        | none => simp only [q3] at p; exact p.elim
        | some j =>
          simp only [q3] at p
          obtain ⟨m, z, h1, h2, h3, h4⟩ := atF_ok q3
          have h1 : j = m := by omega
          subst h1
          have rx' := rx
          simp only [RV] at rx'
          obtain ⟨a, rfl, _⟩ := rx'
          exact ⟨a, u, d, dd, j, z, rfl, rfl, py_ok w _ _ _ _ rx q2, py_ok w _ _ _ _ r q1, c.2, c.1, h2, h3, h4, post_ok p w (by simp only [RV])⟩
      · rw [if_neg c] at p; exact p.elim
    · exact p.elim
  · exact p.elim
end
end Mi
/-! targets of tuples in comprehensions; enumerate, zip, reversed; objects; truths with | & ^; all and any of a list -/
namespace Mi
open PySem L2
/-! ### targets that only set slots -/
mutual
inductive PTg where
  | nm (i : Nat) | tp (l : PTl)
inductive PTl where
  | nil | cons (p : PTg) (l : PTl)
end
def PTl.len : PTl → Nat | .nil => 0 | .cons _ l => l.len + 1
mutual
def ptG (K : PySem.W.Frag) : PTg → TG
  | .nm i => gName i
  | .tp l => gTup K l.len (ptGs K l)
def ptGs (K : PySem.W.Frag) : PTl → TGs
  | .nil => L2.gNil
  | .cons p l => L2.gCons (ptG K p) (ptGs K l)
end
mutual
def ptD : PTg → D → DSt → Option DSt
  | .nm i, d, ds => some (ds.set i (some d))
  | .tp l, d, ds => match d with | .tup xs => ptDs l xs ds | _ => none
def ptDs : PTl → List D → DSt → Option DSt
  | .nil, xs, ds => match xs with | [] => some ds | _ => none
  | .cons p l, xs, ds => match xs with | x :: xs => (ptD p x ds).bind fun ds' => ptDs l xs ds' | [] => none
end
mutual
def ptIn (vs : List Nat) : PTg → Bool
  | .nm i => vs.contains i
  | .tp l => ptIns vs l
def ptIns (vs : List Nat) : PTl → Bool
  | .nil => true
  | .cons p l => ptIn vs p && ptIns vs l
end
theorem wipe_over (σ : St) {j : Nat} (x : V) {vs : List Nat} (h : j ∈ vs) : L2.wipe (σ.set j (some x)) vs = L2.wipe σ vs := by
  apply List.ext_getElem?
  intro i
  rw [wipe_get, wipe_get]
  by_cases hi : i ∈ vs
  · rw [if_pos hi, if_pos hi, List.length_set]
  · rw [if_neg hi, if_neg hi, List.getElem?_set_ne (fun e : j = i => hi (by rw [← e]; exact h))]
theorem wipe_idem (σ : St) (vs : List Nat) : L2.wipe (L2.wipe σ vs) vs = L2.wipe σ vs := by
  apply List.ext_getElem?
  intro i
  rw [wipe_get, wipe_get]
  by_cases hi : i ∈ vs
  · rw [if_pos hi, if_pos hi, L2.wipe_length]
  · rw [if_neg hi]
section
variable {G : Cw} {X : Cx} {W : WX} {pos : Pos} {μ : List Addr} {H : Hp} {h : DH}
theorem ptDs_len : ∀ (l : PTl) (xs : List D) (ds ds' : DSt), ptDs l xs ds = some ds' → xs.length = l.len
  | .nil, xs, ds, ds', e => by
    simp only [ptDs] at e
    cases xs with
    | nil => rfl
    | cons x r => cases e
  | .cons p l, xs, ds, ds', e => by
    simp only [ptDs] at e
    cases xs with
    | nil => cases e
    | cons x r =>
      simp only at e
      cases q : ptD p x ds with
      | none => rw [q] at e; cases e
      | some d1 =>
        rw [q] at e
        show r.length + 1 = l.len + 1
        rw [ptDs_len l r d1 ds' e]
mutual
theorem pt_ok {vs : List Nat} : ∀ (p : PTg) (d : D) (ds ds' : DSt) (σ : St) (v : V), ptD p d ds = some ds' → RSt G μ H ds σ → RV G μ H d v → ptIn vs p = true → ∃ σ', RSt G μ H ds' σ' ∧ L2.wipe σ' vs = L2.wipe σ vs ∧ ∀ Q : St → Hp → Prop, Q σ' H → ptG G.K p v σ H Q
  | .nm i, d, ds, ds', σ, v, e, rs, rv, hi => by
    simp only [ptD] at e
    cases e
    simp only [ptIn, List.contains_iff_mem] at hi
    exact ⟨_, rs.set i rv, wipe_over σ v hi, fun Q q => q⟩
  | .tp l, d, ds, ds', σ, v, e, rs, rv, hi => by
    simp only [ptD] at e
    cases d with
    | tup xs =>
      simp only [RV] at rv
      obtain ⟨a, vs', rfl, s, rvs⟩ := rv
      obtain ⟨σ', h1, h2, h3⟩ := pts_ok l xs ds ds' σ vs' e rs rvs (by simpa only [ptIn] using hi)
      exact ⟨σ', h1, h2, fun Q q => ⟨a, vs', rfl, s, by rw [← rvs.length]; exact ptDs_len l xs ds ds' e, h3 Q q⟩⟩
    | _ => cases e
theorem pts_ok {vs : List Nat} : ∀ (l : PTl) (xs : List D) (ds ds' : DSt) (σ : St) (us : List V), ptDs l xs ds = some ds' → RSt G μ H ds σ → RVs G μ H xs us → ptIns vs l = true → ∃ σ', RSt G μ H ds' σ' ∧ L2.wipe σ' vs = L2.wipe σ vs ∧ ∀ Q : St → Hp → Prop, Q σ' H → ptGs G.K l us σ H Q
  | .nil, xs, ds, ds', σ, us, e, rs, rvs, hi => by
    simp only [ptDs] at e
    cases xs with
    | nil =>
      cases e
      simp only [RVs] at rvs
      exact ⟨σ, rs, rfl, fun Q q => ⟨rvs, q⟩⟩
    | cons x r => cases e
  | .cons p l, xs, ds, ds', σ, us, e, rs, rvs, hi => by
    simp only [ptDs] at e
    cases xs with
    | nil => cases e
    | cons x r =>
      simp only at e
      simp only [RVs] at rvs
      obtain ⟨v, ws, rfl, rv, rvs⟩ := rvs
      simp only [ptIns, Bool.and_eq_true] at hi
      cases q : ptD p x ds with
      | none => rw [q] at e; cases e
      | some d1 =>
        rw [q] at e
        obtain ⟨σ1, h1, h2, h3⟩ := pt_ok p x ds d1 σ v q rs rv hi.1
        obtain ⟨σ2, k1, k2, k3⟩ := pts_ok l r d1 ds' σ1 ws e h1 rvs hi.2
        exact ⟨σ2, k1, k2.trans h2, fun Q q => ⟨v, ws, rfl, h3 _ (k3 Q q)⟩⟩
end
def lcP (it : Itd) (g : PTg) (t : TM) (e : EM) (n : Nat) (ds : DSt) : Nat → Nat → DH → Res D
  | 0, _, _ => .no
  | k + 1, i, h => match it.at_ i h with
    | none => .no
    | some none => .ok (.ref n) h
    | some (some x) => match ptD g x ds with
      | none => .no
      | some ds1 => match t ds1 h with
        | .ok true h1 => match e ds1 h1 with
          | .ok d h2 => match h2[n]? with
            | some (.lst acc) => if acc.length < 16777216 then lcP it g t e n ds k (i + 1) (h2.set n (.lst (acc ++ [d]))) else .no
            | _ => .no
          | _ => .no
        | .ok false h1 => lcP it g t e n ds k (i + 1) h1
        | _ => .no
@[irreducible] def mLcP (mi : IM) (g : PTg) (t : TM) (e : EM) (vs : List Nat) : EM := fun ds h => (mi ds h).bind fun it h1 => lcP it g t e h1.length (wipeD ds vs) (it.len h1 + 1) 0 (h1 ++ [.lst []])
theorem snd_lcP {mi : IM} {g : PTg} {mt : TM} {me : EM} {vs : List Nat} (hj : ptIn vs g = true) : ∀ σ H Q, tE G W (mLcP mi g mt me vs) σ H Q → tLc (tI G W mi) (ptG G.K g) (tT G WF mt) (tE G WF me) vs σ H Q := fun σ H Q ⟨μ, ds, h, w, rs, p⟩ => ⟨μ, ds, h, w, rs, post_bind (show post G W ds (RV G) μ H ((mi ds h).bind fun it h1 => lcP it g mt me h1.length (wipeD ds vs) (it.len h1 + 1) 0 (h1 ++ [.lst []])) Q by unfold mLcP at p; exact p) fun it h1 μ1 J H1 e1 w1 r1 p1 => fun D hD => by
  have exD : Ext G μ1 H1 (μ1 ++ [D]) (upd H1 D (.lst [])) := (ext_new hD).trans (ext_app [D])
  refine ⟨fun i m H => ∃ μ h, Wd G μ h H ∧ RSt G μ H (wipeD ds vs) (L2.wipe σ vs) ∧ RSt G μ H ds σ ∧ relIt G μ H it J ∧ μ[h1.length]? = some D ∧ post G W ds (RV G) μ H (lcP it g mt me h1.length (wipeD ds vs) m i h) Q, ⟨_, μ1 ++ [D], h1 ++ [.lst []], w1.alloc hD rfl (show RObj G _ _ D (.lst []) from ⟨[], upd_same, RVs.nil⟩), wipe_st (rs.mono (e1.trans exD)) vs, rs.mono (e1.trans exD), r1.mono exD, by rw [← w1.len]; exact get_last μ1 D, post_mono exD p1⟩, ?_⟩
  rintro i m H ⟨μ, h, w, rsw, rs', ri, hn, p⟩
  cases m with
  | zero => exact p.elim
  | succ k =>
    simp only [lcP] at p
    cases q : it.at_ i h with
    | none => simp only [q] at p; exact p.elim
    | some o =>
      cases o with
      | none =>
        simp only [q] at p
        exact .inl ⟨it_stop w ri q, post_ok p w (by simp only [RV]; exact ⟨D, rfl, hn⟩)⟩
      | some d =>
        simp only [q] at p
        obtain ⟨g1, g2⟩ := it_go w ri q
        refine .inr ⟨g1, fun H => ∃ μ h, Wd G μ h H ∧ RSt G μ H (wipeD ds vs) (L2.wipe σ vs) ∧ RSt G μ H ds σ ∧ relIt G μ H it J ∧ μ[h1.length]? = some D ∧ post G W ds (RV G) μ H (lcP it g mt me h1.length (wipeD ds vs) k (i + 1) h) Q, fun H' z => ⟨k, Nat.lt_succ_self k, z⟩, fun x H' y => ?_⟩
        obtain ⟨ey, wy, rx⟩ := g2 x H' y
        replace rsw := rsw.mono ey
        replace rs' := rs'.mono ey
        replace ri := ri.mono ey
        replace p := post_mono ey p
        cases qg : ptD g d (wipeD ds vs) with
        | none => simp only [qg] at p; exact p.elim
        | some ds1 =>
        simp only [qg] at p
        obtain ⟨σ2, rs2, wq, gk⟩ := pt_ok g d _ ds1 (L2.wipe σ vs) x qg rsw rx hj
        refine gk _ ⟨wq.trans (wipe_idem σ vs), μ, ds1, h, wy, rs2, ?_⟩
        cases q2 : mt ds1 h with
        | ok b h2 =>
          intro μ2 b' H2 e2 w2 rb
          have eb : b = b' := rb
          subst eb
          cases b with
          | false =>
            simp only [q2] at p
            exact ⟨μ2, h2, w2, rsw.mono e2, rs'.mono e2, ri.mono e2, (ey.trans e2).pre _ _ hn, post_mono e2 p⟩
          | true =>
            simp only [q2] at p
            refine ⟨μ2, ds1, h2, w2, rs2.mono e2, ?_⟩
            cases q3 : me ds1 h2 with
            | ok z h3 =>
              simp only [q3] at p
              intro μ3 zv H3 e3 w3 rz
              have ex := e2.trans e3
              cases q4 : h3[h1.length]? with
              | none => simp only [q4] at p; exact p.elim
              | some ob =>
                cases ob with
                | lst acc =>
                  simp only [q4] at p
                  by_cases ha : acc.length < 16777216
                  · rw [if_pos ha] at p
                    have hn3 := (ey.trans ex).pre _ _ hn
                    obtain ⟨av, hav, rav⟩ := w3.ob _ _ _ hn3 q4
                    obtain ⟨ex4, w4⟩ := w3.setL hn3 q4 (RVs.append rav (RVs.cons rz RVs.nil))
                    exact ⟨av, hav, by rw [← rav.length, sizeLine_eq]; exact ha, μ3, _, w4, rsw.mono (ex.trans ex4), rs'.mono (ex.trans ex4), ri.mono (ex.trans ex4), hn3, post_mono (ex.trans ex4) p⟩
                  · rw [if_neg ha] at p; exact p.elim
                | fro acc => simp only [q4] at p; exact p.elim
                | dK kvs => simp only [q4] at p; exact p.elim
                | ins c fs => simp only [q4] at p; exact p.elim
            | exc e h3 => simp only [q3] at p; exact p.elim
            | no => simp only [q3] at p; exact p.elim
        | exc e h2 => simp only [q2] at p; exact p.elim
        | no => simp only [q2] at p; exact p.elim⟩
theorem pm_lcP {e : Expr} {mi : IM} {g : PTg} {mt : TM} {me : EM} {vs : List Nat} (hj : ptIn vs g = true) (h : PE X e (tLc (tI G W mi) (ptG G.K g) (tT G WF mt) (tE G WF me) vs)) : PE X e (tE G W (mLcP mi g mt me vs)) := h.imp (snd_lcP hj)
theorem sm_setLcP {st : Stmt} {i : Nat} {mi : IM} {g : PTg} {mt : TM} {me : EM} {vs : List Nat} (hj : ptIn vs g = true) (h : PS X st (tAsg (tLc (tI G W mi) (ptG G.K g) (tT G WF mt) (tE G WF me) vs) (gName i))) : PS X st (tS G W (sAsg (mLcP mi g mt me vs) (gNm i))) := h.imp fun E σ H ⟨μ, ds, h, w, rs, p⟩ =>
  snd_lcP hj σ H _ ⟨μ, ds, h, w, rs, post_st p fun x h1 μ1 v H1 e1 w1 r1 p1 => p1 μ1 (σ.set i (some v)) H1 Ext.refl w1 ((rs.mono e1).set i r1)⟩
/-! ### enumerate, zip, reversed -/
def iEn (e : EM) : IM := fun ds h => (e ds h).bind fun d h1 => match d with
  | .ref n => (match lsO h1 n with | some _ => .ok (.enm n) h1 | none => .no)
  | _ => .no
def iZp (e f : EM) : IM := fun ds h => (e ds h).bind fun d h1 => (f ds h1).bind fun u h2 => match d, u with
  | .ref n, .ref m => (match lsO h2 n, lsO h2 m with | some _, some _ => .ok (.zip n m) h2 | _, _ => .no)
  | _, _ => .no
def iRv (e : EM) : IM := fun ds h => (e ds h).bind fun d h1 => match d with
  | .ref n => (match lsO h1 n with | some xs => .ok (.rev n xs.length) h1 | none => .no)
  | _ => .no
theorem im_en {tg e : Expr} {m : EM} (h : PI X tg e (iEnum G.K (tA G W (aCons m aNil)))) : PI X tg e (tI G W (iEn m)) := PI.imp h fun σ H R ⟨μ, ds, h, w, rs, p⟩ => ⟨μ, ds, h, w, rs, by
  refine post_bind (r := aCons m aNil ds h) (f := fun xs h1 => match xs with | [.ref n] => (match lsO h1 n with | some _ => .ok (.enm n) h1 | none => .no) | _ => .no) (rel2 := relIt G) (Q2 := R) ?_ fun xs h1 μ1 vs H1 e1 w1 r1 p1 => ?_
  · unfold iEn at p
    unfold aCons aNil
    cases q : m ds h with
    | ok d h1 => rw [q] at p; cases d <;> exact p
    | exc e h1 => rw [q] at p; exact p
    | no => rw [q] at p; exact p
  · match xs, p1 with
    | [.ref n], p1 =>
      simp only [RVs, RV] at r1
      obtain ⟨v, ws, rfl, ⟨a, rfl, ha⟩, rfl⟩ := r1
      have p2 : post G W ds (relIt G) μ1 H1 (match lsO h1 n with | some _ => .ok (.enm n) h1 | none => .no) R := p1
      cases q : lsO h1 n with
      | none => rw [q] at p2; exact p2.elim
      | some xs =>
        rw [q] at p2
        obtain ⟨vs, s1, s2⟩ := w1.lsO ha q
        exact ⟨a, vs, rfl, s1, post_ok p2 w1 ⟨a, ha, rfl⟩⟩⟩
theorem im_zp {tg e : Expr} {m m2 : EM} (h : PI X tg e (iZip G.K (tA G W (aCons m (aCons m2 aNil))))) : PI X tg e (tI G W (iZp m m2)) := PI.imp h fun σ H R ⟨μ, ds, h, w, rs, p⟩ => ⟨μ, ds, h, w, rs, by
  refine post_bind (r := aCons m (aCons m2 aNil) ds h) (f := fun xs h2 => match xs with | [.ref n, .ref k] => (match lsO h2 n, lsO h2 k with | some _, some _ => .ok (.zip n k) h2 | _, _ => .no) | _ => .no) (rel2 := relIt G) (Q2 := R) ?_ fun xs h1 μ1 vs H1 e1 w1 r1 p1 => ?_
  · unfold iZp at p
    unfold aCons aNil
    cases q : m ds h with
    | ok d h1 =>
      rw [q] at p
      simp only [Res.bind] at p ⊢
      cases q2 : m2 ds h1 with
      | ok u h2 => rw [q2] at p; cases d <;> cases u <;> exact p
      | exc e h1 => rw [q2] at p; exact p
      | no => rw [q2] at p; exact p
    | exc e h1 => rw [q] at p; exact p
    | no => rw [q] at p; exact p
  · match xs, p1 with
    | [.ref n, .ref k], p1 =>
      simp only [RVs, RV] at r1
      obtain ⟨v, ws, rfl, ⟨a, rfl, ha⟩, v2, ws2, rfl, ⟨b, rfl, hb⟩, rfl⟩ := r1
      have p2 : post G W ds (relIt G) μ1 H1 (match lsO h1 n, lsO h1 k with | some _, some _ => .ok (.zip n k) h1 | _, _ => .no) R := p1
      cases q : lsO h1 n with
      | none => rw [q] at p2; exact p2.elim
      | some xs =>
        cases q2 : lsO h1 k with
        | none => rw [q, q2] at p2; exact p2.elim
        | some ys =>
          rw [q, q2] at p2
          obtain ⟨vs, s1, s2⟩ := w1.lsO ha q
          obtain ⟨us, t1, t2⟩ := w1.lsO hb q2
          exact ⟨a, b, vs, us, rfl, s1, t1, post_ok p2 w1 ⟨a, b, ha, hb, rfl⟩⟩⟩
theorem im_rv {tg e : Expr} {m : EM} (h : PI X tg e (iRev G.K (tA G W (aCons m aNil)))) : PI X tg e (tI G W (iRv m)) := PI.imp h fun σ H R ⟨μ, ds, h, w, rs, p⟩ => ⟨μ, ds, h, w, rs, by
  refine post_bind (r := aCons m aNil ds h) (f := fun xs h1 => match xs with | [.ref n] => (match lsO h1 n with | some xs => .ok (.rev n xs.length) h1 | none => .no) | _ => .no) (rel2 := relIt G) (Q2 := R) ?_ fun xs h1 μ1 vs H1 e1 w1 r1 p1 => ?_
  · unfold iRv at p
    unfold aCons aNil
    cases q : m ds h with
    | ok d h1 => rw [q] at p; cases d <;> exact p
    | exc e h1 => rw [q] at p; exact p
    | no => rw [q] at p; exact p
  · match xs, p1 with
    | [.ref n], p1 =>
      simp only [RVs, RV] at r1
      obtain ⟨v, ws, rfl, ⟨a, rfl, ha⟩, rfl⟩ := r1
      have p2 : post G W ds (relIt G) μ1 H1 (match lsO h1 n with | some xs => .ok (.rev n xs.length) h1 | none => .no) R := p1
      cases q : lsO h1 n with
      | none => rw [q] at p2; exact p2.elim
      | some xs =>
        rw [q] at p2
        obtain ⟨vs, s1, s2⟩ := w1.lsO ha q
        exact ⟨a, vs, rfl, s1, post_ok p2 w1 ⟨a, ha, by rw [s2.length]⟩⟩⟩
/-! ### truths with | & ^ -/
def bOpD (g : Bool → Bool → Bool) (x y : D) (h : DH) : Res D := match x, y with | .bl a, .bl b => .ok (.bl (g a b)) h | _, _ => .no
def rBB (g : Bool → Bool → Bool) : V → V → Hp → VK → Prop := fun x y H Q => ∃ a b, x = .bl a ∧ y = .bl b ∧ Q (.bl (g a b)) H
theorem opBB {f : Value → Value → Sem Value} {g : Bool → Bool → Bool}
    (rule : ∀ (i j : Bool) (s : Shared) (Q : Value → Shared → Prop) (E : Value → Shared → Prop), Q (.bool (g i j)) s → wpAny (model X.prog X.w) X.A (f (.bool i) (.bool j)) Q E s) :
    OpR X f (rBB g) := by
  intro pins s σ H x y v u Q I rx ry h
  obtain ⟨i, j, rfl, rfl, q⟩ := h
  cases rx
  cases ry
  exact rule i j s _ _ ⟨.bl (g i j), H, I, rfl, q⟩
theorem op_orB : OpR X (binaryOp .BitOr) (rBB (· || ·)) := opBB fun _ _ _ _ _ q => PyProof.Rows.or_bool q
theorem op_andB : OpR X (binaryOp .BitAnd) (rBB (· && ·)) := opBB fun _ _ _ _ _ q => PyProof.Rows.and_bool q
theorem op_xorB : OpR X (binaryOp .BitXor) (rBB (· != ·)) := opBB fun _ _ _ _ _ q => PyProof.Rows.xor_bool q
theorem s_bOp {g : Bool → Bool → Bool} : OpS G (rBB g) (bOpD g) := fun W ds μ h H x y v u Q w rx ry p => by
  unfold bOpD at p
  cases x with
  | bl a =>
    cases y with
    | bl b =>
      simp only [RV] at rx ry
      exact ⟨a, b, rx, ry, post_ok p w (by simp only [RV])⟩
    | _ => exact p.elim
  | _ => exact p.elim
/-! ### all, any of a list of truths -/
def blsO (xs : List D) : Option (List Bool) := match xs with
  | [] => some []
  | .bl b :: r => (blsO r).map (b :: ·)
  | _ => none
theorem blsO_map : ∀ {xs : List D} {bs : List Bool}, blsO xs = some bs → xs = bs.map D.bl
  | [], bs, e => by cases e; rfl
  | .bl b :: r, bs, e => by
    simp only [blsO] at e
    cases q : blsO r with
    | none => rw [q] at e; cases e
    | some cs => rw [q] at e; cases e; rw [List.map_cons, ← blsO_map q]
  | .non :: r, bs, e => by cases e
  | .int _ :: r, bs, e => by cases e
  | .str _ :: r, bs, e => by cases e
  | .tup _ :: r, bs, e => by cases e
  | .ref _ :: r, bs, e => by cases e
def allD (f : List Bool → Bool) (xs : List D) (h : DH) : Res D := match xs with
  | [.ref n] => (match (lsO h n).bind blsO with | some bs => .ok (.bl (f bs)) h | none => .no)
  | _ => .no
theorem s_all {f : List Bool → Bool} {r : List V → Hp → VK → Prop} (hr : ∀ (a : Addr) (bs : List Bool) (H : Hp) (Q : VK), SqL G.K H a (bs.map V.bl) → Q (.bl (f bs)) H → r [.ref a] H Q) : CallS G r (allD f) := fun W ds μ h H xs vs Q w rs p => by
  unfold allD at p
  match xs, p with
  | [.ref n], p =>
    simp only [RVs, RV] at rs
    obtain ⟨v, ws, rfl, ⟨a, rfl, ha⟩, rfl⟩ := rs
    have p2 : post G W ds (RV G) μ H (match (lsO h n).bind blsO with | some bs => .ok (.bl (f bs)) h | none => .no) Q := p
    cases q : lsO h n with
    | none => rw [q] at p2; exact p2.elim
    | some xs =>
      rw [q] at p2
      cases q2 : blsO xs with
      | none => simp only [Option.bind, q2] at p2; exact p2.elim
      | some bs =>
        simp only [Option.bind, q2] at p2
        obtain ⟨us, s1, s2⟩ := w.lsO ha q
        rw [blsO_map q2] at s2
        rw [s2.bls_of] at s1
        exact hr a bs H Q s1 (post_ok p2 w (by simp only [RV]))
theorem s_allA : CallS G (rAll G.K) (allD fun bs => bs.all id) := s_all fun a bs H Q s q => ⟨a, bs, rfl, s, q⟩
theorem s_anyA : CallS G (rAny G.K) (allD fun bs => bs.any id) := s_all fun a bs H Q s q => ⟨a, bs, rfl, s, q⟩
/-! ### objects -/
def mFld (c : Nat) (f : Str) (m : EM) : EM := fun ds h => (m ds h).bind fun d h1 => match d with
  | .ref n => (match h1[n]? with
    | some (.ins c' fs) => if c' = c then (match fs.lookup f with | some v => .ok v h1 | none => .no) else .no
    | _ => .no)
  | _ => .no
theorem RVs.look {f : Str} : ∀ {fs : List (Str × D)} {ws : List (Str × V)} {d : D}, ws.map (·.1) = fs.map (·.1) → RVs G μ H (fs.map (·.2)) (ws.map (·.2)) → fs.lookup f = some d → ∃ v, ws.lookup f = some v ∧ RV G μ H d v
  | [], ws, d, e, r, q => by cases q
  | (g, x) :: fs, [], d, e, r, q => by cases e
  | (g, x) :: fs, (g', y) :: ws, d, e, r, q => by
    simp only [List.map_cons, List.cons.injEq] at e
    simp only [List.map_cons, RVs] at r
    obtain ⟨v, us, e2, r1, r2⟩ := r
    simp only [List.cons.injEq] at e2
    obtain ⟨e3, e4⟩ := e2
    have e1 : g' = g := e.1
    subst e1
    simp only [List.lookup] at q ⊢
    cases z : (f == g') with
    | true => rw [z] at q; cases q; exact ⟨y, rfl, by rw [e3]; exact r1⟩
    | false => rw [z] at q; exact RVs.look e.2 (by rw [e4]; exact r2) q
theorem pm_fld {c : Nat} {f : Str} {m : EM} {e : Expr} (he : PE X e (tE G W m)) (hK : X.K = G.K) (cl : Cls G.K (G.cad c)) (na : NoAttr G.K (G.cad c) f) (hb : attributeBase e f X.env (eval e X.env) = eval e X.env := by rfl) : PE X (.Attribute e f pos) (tE G W (mFld c f m)) := (pe_fld he hb).imp fun σ H Q ⟨μ, ds, h, w, rs, p⟩ => ⟨μ, ds, h, w, rs, post_bind p fun x h1 μ1 v H1 e1 w1 r1 p1 => by
  cases x with
  | ref n =>
    simp only [RV] at r1
    obtain ⟨a, rfl, ha⟩ := r1
    have p2 : post G W ds (RV G) μ1 H1 (match h1[n]? with | some (.ins c' fs) => if c' = c then (match fs.lookup f with | some v => .ok v h1 | none => .no) else .no | _ => .no) Q := p1
    cases q : h1[n]? with
    | none => rw [q] at p2; exact p2.elim
    | some o =>
      rw [q] at p2
      cases o with
      | ins c' fs =>
        by_cases z : c' = c
        · subst z
          simp only [if_true] at p2
          cases q2 : fs.lookup f with
          | none => rw [q2] at p2; exact p2.elim
          | some d =>
            rw [q2] at p2
            obtain ⟨dx, ws, o1, o2, o3⟩ := w1.ob n a _ ha q
            obtain ⟨u, l1, l2⟩ := RVs.look o2 o3 q2
            exact ⟨a, _, dx, ws, u, rfl, o1, by rw [hK]; exact cl, by rw [hK]; exact na, l1, post_ok p2 w1 l2⟩
        · simp only [if_neg z] at p2; exact p2.elim
      | _ => exact p2.elim
  | _ => exact p1.elim⟩
def putFD (f : Str) (v : D) : List (Str × D) → List (Str × D)
  | [] => [(f, v)]
  | (g, x) :: r => if g = f then (g, v) :: r else (g, x) :: putFD f v r
theorem putFD_ok {f : Str} {d : D} {v : V} (rv : RV G μ H d v) : ∀ {fs : List (Str × D)} {ws : List (Str × V)}, ws.map (·.1) = fs.map (·.1) → RVs G μ H (fs.map (·.2)) (ws.map (·.2)) → (putF f v ws).map (·.1) = (putFD f d fs).map (·.1) ∧ RVs G μ H ((putFD f d fs).map (·.2)) ((putF f v ws).map (·.2))
  | [], [], e, r => ⟨rfl, RVs.cons rv RVs.nil⟩
  | [], w :: ws, e, r => by cases e
  | (g, x) :: fs, [], e, r => by cases e
  | (g, x) :: fs, (g', y) :: ws, e, r => by
    simp only [List.map_cons, List.cons.injEq] at e
    simp only [List.map_cons, RVs] at r
    obtain ⟨u, us, e2, r1, r2⟩ := r
    simp only [List.cons.injEq] at e2
    obtain ⟨e3, e4⟩ := e2
    have e1 : g' = g := e.1
    subst e1
    unfold putFD putF
    by_cases z : g' = f
    · rw [if_pos z, if_pos z]
      exact ⟨by simp only [List.map_cons, e.2], RVs.cons rv (by rw [e4]; exact r2)⟩
    · rw [if_neg z, if_neg z]
      obtain ⟨i1, i2⟩ := putFD_ok rv e.2 (by rw [e4]; exact r2)
      exact ⟨by simp only [List.map_cons, i1], RVs.cons (by rw [e3]; exact r1) i2⟩
/-- o.f = value -/
def sFd (c : Nat) (f : Str) (mo mv : EM) : SM := fun ds h => (mv ds h).st ds fun v h1 => (mo ds h1).st ds fun d h2 => match d with
  | .ref n => (match h2[n]? with
    | some (.ins c' fs) => if c' = c ∧ fs.length < 1000 then .nx ds (h2.set n (.ins c (putFD f v fs))) else .no
    | _ => .no)
  | _ => .no
theorem Wd.setI {n : Nat} {a : Addr} {c : Nat} {fs fs' : List (Str × D)} {ws ws' : List (Str × V)} {dx : Addr} (w : Wd G μ h H) (e1 : μ[n]? = some a) (e2 : h[n]? = some (.ins c fs)) (hi : H a = some (.ins (G.cad c) dx ws)) (k : ws'.map (·.1) = fs'.map (·.1)) (r : RVs G μ H (fs'.map (·.2)) (ws'.map (·.2))) :
    Ext G μ H μ (upd H a (.ins (G.cad c) dx ws')) ∧ Wd G μ (h.set n (.ins c fs')) (upd H a (.ins (G.cad c) dx ws')) := by
  have ex : Ext G μ H μ (upd H a (.ins (G.cad c) dx ws')) := ext_write hi trivial
  exact ⟨ex, w.write e1 e2 rfl rfl ex ⟨dx, ws', upd_same, k, RVs.mono ex _ _ r⟩⟩
theorem sm_fd {c : Nat} {f : Str} {mo mv : EM} {o value : Expr} {pos' : Pos} (ha : PE X o (tE G W mo)) (hv : PE X value (tE G W mv)) (hK : X.K = G.K) (cl : Cls G.K (G.cad c)) (na : NoAttr G.K (G.cad c) f) (hs : swapsWith value (some (.Attribute o f pos')) pos.line X.env = pure false := by rfl) : PS X (.Assign [.Attribute o f pos'] value pos) (tS G W (sFd c f mo mv)) := (ps_fld ha hv hs).imp fun E σ H ⟨μ, ds, h, w, rs, p⟩ =>
  ⟨μ, ds, h, w, rs, post_st p fun x h1 μ1 v H1 e1 w1 r1 p1 => ⟨μ1, ds, h1, w1, rs.mono e1, post_st p1 fun y h2 μ2 u H2 e2 w2 r2 p2 => by
    cases y with
    | ref n =>
      simp only [RV] at r2
      obtain ⟨a, rfl, ha⟩ := r2
      have p3 : postS G W μ2 H2 (match h2[n]? with | some (.ins c' fs) => if c' = c ∧ fs.length < 1000 then .nx ds (h2.set n (.ins c (putFD f x fs))) else .no | _ => .no) E := p2
      cases q : h2[n]? with
      | none => rw [q] at p3; exact p3.elim
      | some ob =>
        rw [q] at p3
        cases ob with
        | ins c' fs =>
          by_cases z : c' = c ∧ fs.length < 1000
          · simp only [if_pos z] at p3
            obtain ⟨z1, z2⟩ := z
            subst z1
            obtain ⟨dx, ws, o1, o2, o3⟩ := w2.ob n a _ ha q
            obtain ⟨k1, k2⟩ := putFD_ok (f := f) (RV.mono e2 _ _ r1) o2 o3
            obtain ⟨ex, w3⟩ := w2.setI (c := c') ha q o1 k1 k2
            refine ⟨a, _, dx, ws, rfl, o1, by rw [hK]; exact cl, by rw [hK]; exact na, ?_, p3 μ2 σ _ ex w3 (rs.mono ((e1.trans e2).trans ex))⟩
            have l : ws.length = fs.length := by
              have := congrArg List.length o2
              rwa [List.length_map, List.length_map] at this
            rw [l]; exact z2
          · simp only [if_neg z] at p3; exact p3.elim
        | _ => exact p3.elim
    | _ => exact p2.elim⟩⟩
/-- a new object -/
def mkF (c : Nat) (F : List D → DH → Res D) (xs : List D) (h : DH) : Res D := match F (.ref h.length :: xs) (h ++ [.ins c []]) with
  | .ok .non h2 => .ok (.ref h.length) h2
  | _ => .no
theorem mk_len {c n : Nat} {F : List D → DH → Res D} (hn : ∀ xs h, F xs h ≠ .no → xs.length = n + 1) : ∀ xs h, mkF c F xs h ≠ .no → xs.length = n := fun xs h e => by
  unfold mkF at e
  have := hn (.ref h.length :: xs) (h ++ [.ins c []]) (fun z => by rw [z] at e; exact e rfl)
  simpa using this
theorem snd_make {F : List D → DH → Res D} {n c : Nat} {m : AM} {C : Addr} (hC : G.cad c = C) (hn : ∀ xs h, F xs h ≠ .no → xs.length = n + 1) : ∀ σ H Q, tE G W (mCB (mkF c F) m) σ H Q → tMake C (spF G (n + 1) F) [] (fun _ _ _ => False) (tA G W m) σ H Q := fun σ H Q ⟨μ, ds, h, w, rs, p⟩ =>
  ⟨μ, ds, h, w, rs, post_bind p fun xs h1 μ1 vs H1 e1 w1 r1 p1 => fun x dx hx hdx hne => by
    subst hC
    have ex1 : Ext G μ1 H1 μ1 (upd H1 dx (.own x)) := ext_new hdx
    have hx2 : (upd H1 dx (.own x)) x = none := by rw [upd_ne (Ne.symm hne)]; exact hx
    have ex : Ext G μ1 H1 (μ1 ++ [x]) (upd (upd H1 dx (.own x)) x (.ins (G.cad c) dx [])) := (ex1.trans (ext_new hx2)).trans (ext_app [x])
    have w2 := (w1.new (o := .own x) hdx).alloc (u := .ins c []) (o := .ins (G.cad c) dx []) hx2 rfl ⟨dx, [], upd_same, rfl, RVs.nil⟩
    have p1 : post G W ds (RV G) μ1 H1 (mkF c F xs h1) Q := p1
    have hnz : F (.ref h1.length :: xs) (h1 ++ [.ins c []]) ≠ .no := fun z => by
      unfold mkF at p1; rw [z] at p1; exact p1
    refine ⟨?_, μ1 ++ [x], .ref h1.length :: xs, h1 ++ [.ins c []], w2, RVs.cons ?_ (by rw [List.append_nil]; exact RVs.mono ex _ _ r1), ?_⟩
    · have := hn _ _ hnz
      have l := r1.length
      simp only [List.length_cons, List.append_nil] at this ⊢
      omega
    · simp only [RV]; exact ⟨x, rfl, by rw [← w1.len]; exact get_last μ1 x⟩
    · unfold mkF at p1
      cases q : F (.ref h1.length :: xs) (h1 ++ [.ins c []]) with
      | ok d h2 =>
        rw [q] at p1
        cases d with
        | non =>
          intro μ2 v H2 e2 w3 r3
          simp only [RV] at r3
          refine ⟨r3, p1 μ2 (.ref x) H2 (ex.trans e2) w3 ?_⟩
          simp only [RV]
          exact ⟨x, rfl, e2.pre _ _ (by rw [← w1.len]; exact get_last μ1 x)⟩
        | _ => exact p1.elim
      | exc e h2 => rw [q] at p1; exact p1.elim
      | no => exact absurd q hnz⟩
theorem pm_make {e : Expr} {F : List D → DH → Res D} {n c : Nat} {m : AM} {C : Addr} (hC : G.cad c = C) (hn : ∀ xs h, F xs h ≠ .no → xs.length = n + 1) (h : PE X e (tMake C (spF G (n + 1) F) [] (fun _ _ _ => False) (tA G W m))) : PE X e (tE G W (mCB (mkF c F) m)) := h.imp (snd_make hC hn)
end
end Mi
namespace Mi
open PySem L2
theorem pass_no {X : Cx} {P : Program} {w : World} : Passes (L2.CX P w) X (fun _ _ _ => False) := fun pins σ H s e s' I h => by
  obtain ⟨_, _, _, _, _, _, _, _, _, _, _, _, z⟩ := h
  exact z.elim
end Mi
/-! dicts that the program makes; sorted; extend -/
namespace Mi
open PySem L2
def keyD : D → Option Key
  | .int i => some (.inl i)
  | .str x => some (.inr x)
  | _ => none
def lookK {α : Type} (kvs : List (Key × α)) (k : Key) : Option α := (kvs.find? fun kv => decide (kv.1 = k)).map (·.2)
def setK {α : Type} (kvs : List (Key × α)) (k : Key) (v : α) : List (Key × α) := if (kvs.any fun kv => decide (kv.1 = k)) = true then kvs.map (fun kv => if kv.1 = k then (kv.1, v) else kv) else kvs ++ [(k, v)]
def delK {α : Type} (kvs : List (Key × α)) (k : Key) : List (Key × α) := kvs.filter fun kv => decide (kv.1 ≠ k)
/-- the entry of a key -/
def getD' (x y : D) (h : DH) : Option (Option D) := match x with
  | .ref n => match h[n]? with
    | some (.dK kvs) => (keyD y).map (lookK kvs)
    | _ => none
  | _ => none
def mDGet (a b : EM) : EM := fun ds h => (a ds h).bind fun x h1 => (b ds h1).bind fun y h2 => match getD' x y h2 with | some (some d) => .ok d h2 | _ => .no
def isDk (x : D) (h : DH) : Bool := match x with
  | .ref n => match h[n]? with | some (.dK _) => true | _ => false
  | _ => false
def mDGet1 (a b : EM) : EM := fun ds h => (a ds h).bind fun x h1 => if isDk x h1 then (b ds h1).bind fun y h2 => match getD' x y h2 with | some o => .ok (o.getD .non) h2 | none => .no else .no
def mDIn (neg : Bool) (b a : EM) : EM := fun ds h => (b ds h).bind fun y h1 => (a ds h1).bind fun x h2 => match getD' x y h2 with | some o => .ok (.bl (if neg then !o.isSome else o.isSome)) h2 | none => .no
def mDNew : EM := fun _ h => .ok (.ref h.length) (h ++ [.dK []])
def putDh (x y v : D) (h : DH) : Option DH := match x with
  | .ref n => match h[n]? with
    | some (.dK kvs) => match keyD y with
      | some k => if kvs.length < 16777216 then some (h.set n (.dK (setK kvs k v))) else none
      | none => none
    | _ => none
  | _ => none
def sDPut (v a b : EM) : SM := fun ds h => (v ds h).st ds fun z h1 => (a ds h1).st ds fun x h2 => (b ds h2).st ds fun y h3 => match putDh x y z h3 with | some h4 => .nx ds h4 | none => .no
def delDh (x y : D) (h : DH) : Option DH := match x with
  | .ref n => match h[n]? with
    | some (.dK kvs) => match keyD y with
      | some k => if (lookK kvs k).isSome then some (h.set n (.dK (delK kvs k))) else none
      | none => none
    | _ => none
  | _ => none
def sDDel (a b : EM) : SM := fun ds h => (a ds h).st ds fun x h1 => (b ds h1).st ds fun y h2 => match delDh x y h2 with | some h3 => .nx ds h3 | none => .no
section
variable {G : Cw} {X : Cx} {W : WX} {pos : Pos} {μ : List Addr} {h : DH} {H : Hp}
/-- an entry and what stands for it -/
def ROp (G : Cw) (μ : List Addr) (H : Hp) : Option D → Option V → Prop
  | some d, o' => ∃ z, o' = some z ∧ RV G μ H d z
  | none, o' => o' = none
theorem kV_of {y : D} {k : Key} {v : V} (e : keyD y = some k) (r : RV G μ H y v) : v = kV k := by
  cases y with
  | int i => cases e; simp only [RV] at r; exact r
  | str s => cases e; simp only [RV] at r; exact r
  | _ => cases e
theorem RVs.un {d : D} {ds : List D} {vs : List V} (r : RVs G μ H (d :: ds) vs) : ∃ v ws, vs = v :: ws ∧ RV G μ H d v ∧ RVs G μ H ds ws := by simp only [RVs] at r; exact r
theorem look_ok {k : Key} : ∀ {kvs : List (Key × D)} {ws : List (Key × V)}, ws.map (·.1) = kvs.map (·.1) → RVs G μ H (kvs.map (·.2)) (ws.map (·.2)) → match lookK kvs k with | some d => ∃ v, valV ws k = some v ∧ RV G μ H d v | none => valV ws k = none
  | [], ws, e, r => by
    cases ws with
    | nil => rfl
    | cons x y => cases e
  | (a, d) :: kvs, [], e, r => by cases e
  | (a, d) :: kvs, (b, v) :: ws, e, r => by
    simp only [List.map_cons, List.cons.injEq] at e
    obtain ⟨rfl, e⟩ := e
    obtain ⟨v', ws', e2, r1, r2⟩ := RVs.un r
    simp only [List.map_cons, List.cons.injEq] at e2
    obtain ⟨rfl, rfl⟩ := e2
    have ih := look_ok (k := k) e r2
    by_cases c : b = k
    · have e1 : lookK ((b, d) :: kvs) k = some d := by unfold lookK; rw [List.find?_cons_of_pos (by exact decide_eq_true c)]; rfl
      have e3 : valV ((b, v) :: ws) k = some v := by unfold valV; rw [List.find?_cons_of_pos (by exact decide_eq_true c)]; rfl
      rw [e1]; exact ⟨v, e3, r1⟩
    · have e1 : lookK ((b, d) :: kvs) k = lookK kvs k := by unfold lookK; rw [List.find?_cons_of_neg (by simpa using c)]
      have e3 : valV ((b, v) :: ws) k = valV ws k := by unfold valV; rw [List.find?_cons_of_neg (by simpa using c)]
      rw [e1, e3]; exact ih
theorem set_repl {k : Key} {d : D} {v : V} (r0 : RV G μ H d v) : ∀ {kvs : List (Key × D)} {ws : List (Key × V)}, ws.map (·.1) = kvs.map (·.1) → RVs G μ H (kvs.map (·.2)) (ws.map (·.2)) → (ws.map (fun kv => if kv.1 = k then (kv.1, v) else kv)).map (·.1) = (kvs.map (fun kv => if kv.1 = k then (kv.1, d) else kv)).map (·.1) ∧ RVs G μ H ((kvs.map (fun kv => if kv.1 = k then (kv.1, d) else kv)).map (·.2)) ((ws.map (fun kv => if kv.1 = k then (kv.1, v) else kv)).map (·.2))
  | [], ws, e, r => by
    cases ws with
    | nil => exact ⟨rfl, RVs.nil⟩
    | cons x y => cases e
  | (a, z) :: kvs, [], e, r => by cases e
  | (a, z) :: kvs, (b, u) :: ws, e, r => by
    simp only [List.map_cons, List.cons.injEq] at e
    obtain ⟨rfl, e⟩ := e
    obtain ⟨v', ws', e2, r1, r2⟩ := RVs.un r
    simp only [List.map_cons, List.cons.injEq] at e2
    obtain ⟨rfl, rfl⟩ := e2
    obtain ⟨h1, h2⟩ := set_repl (k := k) r0 e r2
    simp only [List.map_cons]
    by_cases c : b = k
    · rw [if_pos c, if_pos c]; exact ⟨by rw [h1], RVs.cons r0 h2⟩
    · rw [if_neg c, if_neg c]; exact ⟨by rw [h1], RVs.cons r1 h2⟩
theorem any_keys {k : Key} : ∀ {kvs : List (Key × D)} {ws : List (Key × V)}, ws.map (·.1) = kvs.map (·.1) → (ws.any fun kv => decide (kv.1 = k)) = kvs.any fun kv => decide (kv.1 = k)
  | [], ws, e => by cases ws with | nil => rfl | cons x y => cases e
  | a :: kvs, [], e => by cases e
  | a :: kvs, b :: ws, e => by
    simp only [List.map_cons, List.cons.injEq] at e
    rw [List.any_cons, List.any_cons, any_keys e.2, e.1]
theorem set_ok {k : Key} {d : D} {v : V} {kvs : List (Key × D)} {ws : List (Key × V)} (r0 : RV G μ H d v) (e : ws.map (·.1) = kvs.map (·.1)) (r : RVs G μ H (kvs.map (·.2)) (ws.map (·.2))) : (putK ws k v).map (·.1) = (setK kvs k d).map (·.1) ∧ RVs G μ H ((setK kvs k d).map (·.2)) ((putK ws k v).map (·.2)) := by
  unfold putK setK
  rw [any_keys e]
  by_cases c : (kvs.any fun kv => decide (kv.1 = k)) = true
  · rw [if_pos c, if_pos c]; exact set_repl r0 e r
  · rw [if_neg c, if_neg c]
    simp only [List.map_append, e, List.map_cons, List.map_nil]
    exact ⟨trivial, RVs.append r (RVs.cons r0 RVs.nil)⟩
theorem del_ok {k : Key} : ∀ {kvs : List (Key × D)} {ws : List (Key × V)}, ws.map (·.1) = kvs.map (·.1) → RVs G μ H (kvs.map (·.2)) (ws.map (·.2)) → (dropK ws k).map (·.1) = (delK kvs k).map (·.1) ∧ RVs G μ H ((delK kvs k).map (·.2)) ((dropK ws k).map (·.2))
  | [], ws, e, r => by
    cases ws with
    | nil => exact ⟨rfl, RVs.nil⟩
    | cons x y => cases e
  | (a, z) :: kvs, [], e, r => by cases e
  | (a, z) :: kvs, (b, u) :: ws, e, r => by
    simp only [List.map_cons, List.cons.injEq] at e
    obtain ⟨rfl, e⟩ := e
    obtain ⟨v', ws', e2, r1, r2⟩ := RVs.un r
    simp only [List.map_cons, List.cons.injEq] at e2
    obtain ⟨rfl, rfl⟩ := e2
    obtain ⟨h1, h2⟩ := del_ok (k := k) e r2
    unfold dropK delK at h1 h2 ⊢
    by_cases c : b = k
    · rw [List.filter_cons_of_neg (by simpa using c), List.filter_cons_of_neg (by simpa using c)]; exact ⟨h1, h2⟩
    · rw [List.filter_cons_of_pos (by simpa using c), List.filter_cons_of_pos (by simpa using c)]
      simp only [List.map_cons]
      exact ⟨by rw [h1], RVs.cons r1 h2⟩
theorem dk_at {n : Nat} {v : V} {kvs : List (Key × D)} (w : Wd G μ h H) (rx : RV G μ H (.ref n) v) (q : h[n]? = some (.dK kvs)) : ∃ a ws, v = .ref a ∧ μ[n]? = some a ∧ H a = some (.dK ws) ∧ ws.map (·.1) = kvs.map (·.1) ∧ RVs G μ H (kvs.map (·.2)) (ws.map (·.2)) := by
  simp only [RV] at rx
  obtain ⟨a, rfl, ha⟩ := rx
  obtain ⟨vs, h1, r1⟩ := w.ob _ _ _ ha q
  exact ⟨a, vs, rfl, ha, h1, r1⟩
theorem get_dk {x y : D} {o : Option D} (e : getD' x y h = some o) : ∃ n kvs k, x = .ref n ∧ h[n]? = some (.dK kvs) ∧ keyD y = some k ∧ o = lookK kvs k := by
  unfold getD' at e
  cases x with
  | ref n =>
    cases q : h[n]? with
    | none => simp only [q] at e; cases e
    | some ob =>
      cases ob with
      | dK kvs =>
        simp only [q] at e
        cases q2 : keyD y with
        | none => rw [q2] at e; cases e
        | some k => rw [q2] at e; cases e; exact ⟨n, kvs, k, rfl, q, rfl, rfl⟩
      | _ => simp only [q] at e; cases e
  | _ => cases e
theorem get_ok {x y : D} {v u : V} {o : Option D} (w : Wd G μ h H) (rx : RV G μ H x v) (ry : RV G μ H y u) (e : getD' x y h = some o) : ∃ a o', v = .ref a ∧ DGet H a u o' ∧ ROp G μ H o o' := by
  obtain ⟨n, kvs, k, rfl, q, q2, rfl⟩ := get_dk e
  obtain ⟨a, ws, rfl, ha, h1, h2, h3⟩ := dk_at w rx q
  refine ⟨a, valV ws k, rfl, .inl ⟨ws, k, .inl h1, kV_of q2 ry, rfl⟩, ?_⟩
  have l := look_ok (k := k) h2 h3
  cases q3 : lookK kvs k with
  | none => rw [q3] at l; exact l
  | some d => rw [q3] at l; obtain ⟨z, l1, l2⟩ := l; exact ⟨z, l1, l2⟩
variable {a b : Expr} {ma mb mv : EM}
theorem pm_dget (hr : X.A.units + 1 < cLine) (ha : PE X a (tE G W ma)) (hb : PE X b (tE G W mb)) (hs : NoSl b) : PE X (.Subscript a b pos) (tE G W (mDGet ma mb)) := (pe_dget hr ha hb hs).imp fun σ H Q ⟨μ, ds, h, w, rs, p⟩ =>
  ⟨μ, ds, h, w, rs, post_bind p fun x h1 μ1 v H1 e1 w1 r1 p1 => ⟨μ1, ds, h1, w1, rs.mono e1, post_bind p1 fun y h2 μ2 u H2 e2 w2 r2 p2 => by
    cases q : getD' x y h2 with
    | none => simp only [q] at p2; exact p2.elim
    | some o =>
      obtain ⟨a, o', rfl, g1, g2⟩ := get_ok w2 (RV.mono e2 _ _ r1) r2 q
      cases o with
      | none => simp only [q] at p2; exact p2.elim
      | some d =>
        simp only [q] at p2
        obtain ⟨z, rfl, rz⟩ := g2
        exact ⟨a, z, rfl, g1, post_ok p2 w2 rz⟩⟩⟩
theorem isd_ok {x : D} {v : V} (w : Wd G μ h H) (rx : RV G μ H x v) (e : isDk x h = true) : ∃ a, v = .ref a ∧ IsD H a := by
  unfold isDk at e
  cases x with
  | ref n =>
    cases q : h[n]? with
    | none => simp only [q] at e; cases e
    | some ob =>
      cases ob with
      | dK kvs =>
        obtain ⟨a, ws, rfl, ha, h1, h2, h3⟩ := dk_at w rx q
        exact ⟨a, rfl, .inl ⟨ws, .inl h1⟩⟩
      | _ => simp only [q] at e; cases e
  | _ => cases e
theorem pm_dget1 {apos cpos : Pos} (hr : X.A.units + 1 < cLine) (ha : PE X a (tE G W ma)) (hb : PE X b (tE G W mb)) (hm : M1 X a "get" apos b cpos) : PE X (.Call (.Attribute a "get" apos) [b] [] cpos) (tE G W (mDGet1 ma mb)) := (pe_dget1 hr ha hb hm).imp fun σ H Q ⟨μ, ds, h, w, rs, p⟩ =>
  ⟨μ, ds, h, w, rs, post_bind p fun x h1 μ1 v H1 e1 w1 r1 p1 => by
    by_cases c : isDk x h1 = true
    · rw [if_pos c] at p1
      obtain ⟨a, rfl, id⟩ := isd_ok w1 r1 c
      refine ⟨a, rfl, id, μ1, ds, h1, w1, rs.mono e1, post_bind p1 fun y h2 μ2 u H2 e2 w2 r2 p2 => ?_⟩
      cases q : getD' x y h2 with
      | none => simp only [q] at p2; exact p2.elim
      | some o =>
        obtain ⟨a', o', ea, g1, g2⟩ := get_ok w2 (RV.mono e2 _ _ r1) r2 q
        cases ea
        simp only [q] at p2
        refine ⟨o', g1, post_ok p2 w2 ?_⟩
        cases o with
        | none => rw [show o' = none from g2]; simp only [Option.getD, RV]
        | some d => obtain ⟨z, rfl, rz⟩ := g2; exact rz
    · rw [if_neg c] at p1; exact p1.elim⟩
theorem un1 {k : Nat} {A : Around} (h : Room k A) : A.units + 1 < cLine := by have := h.un; omega
theorem pm_din (hr : X.A.units + 1 < cLine) (hb : PE X b (tE G W mb)) (ha : PE X a (tE G W ma)) (hm : behindInMarks .In a = false) : PE X (.Compare b [.In] [a] pos) (tE G W (mDIn false mb ma)) := (pe_cmp (pc_din hr hb ha) hm).imp fun σ H Q ⟨μ, ds, h, w, rs, p⟩ =>
  ⟨μ, ds, h, w, rs, post_bind p fun y h1 μ1 u H1 e1 w1 r1 p1 => ⟨μ1, ds, h1, w1, rs.mono e1, post_bind p1 fun x h2 μ2 v H2 e2 w2 r2 p2 => by
    cases q : getD' x y h2 with
    | none => simp only [q] at p2; exact p2.elim
    | some o =>
      obtain ⟨a, o', rfl, g1, g2⟩ := get_ok w2 r2 (RV.mono e2 _ _ r1) q
      simp only [q] at p2
      refine ⟨a, o', rfl, g1, post_ok p2 w2 ?_⟩
      cases o with
      | none => rw [show o' = none from g2]; simp [RV]
      | some d => obtain ⟨z, rfl, rz⟩ := g2; simp [RV]⟩⟩
theorem pm_dnin (hr : X.A.units + 1 < cLine) (hb : PE X b (tE G W mb)) (ha : PE X a (tE G W ma)) (hm : behindInMarks .NotIn a = false) : PE X (.Compare b [.NotIn] [a] pos) (tE G W (mDIn true mb ma)) := (pe_cmp (pc_dnotin hr hb ha) hm).imp fun σ H Q ⟨μ, ds, h, w, rs, p⟩ =>
  ⟨μ, ds, h, w, rs, post_bind p fun y h1 μ1 u H1 e1 w1 r1 p1 => ⟨μ1, ds, h1, w1, rs.mono e1, post_bind p1 fun x h2 μ2 v H2 e2 w2 r2 p2 => by
    cases q : getD' x y h2 with
    | none => simp only [q] at p2; exact p2.elim
    | some o =>
      obtain ⟨a, o', rfl, g1, g2⟩ := get_ok w2 r2 (RV.mono e2 _ _ r1) q
      simp only [q] at p2
      refine ⟨a, o', rfl, g1, post_ok p2 w2 ?_⟩
      cases o with
      | none => rw [show o' = none from g2]; simp [RV]
      | some d => obtain ⟨z, rfl, rz⟩ := g2; simp [RV]⟩⟩
theorem Wd.setD {n : Nat} {a : Addr} {kvs kvs' : List (Key × D)} {ws' : List (Key × V)} (w : Wd G μ h H) (e1 : μ[n]? = some a) (e2 : h[n]? = some (.dK kvs)) (hk : ws'.map (·.1) = kvs'.map (·.1)) (hv : RVs G μ H (kvs'.map (·.2)) (ws'.map (·.2))) :
    Ext G μ H μ (upd H a (.dK ws')) ∧ Wd G μ (h.set n (.dK kvs')) (upd H a (.dK ws')) := by
  obtain ⟨us, h1, _⟩ := w.ob n a _ e1 e2
  have ex : Ext G μ H μ (upd H a (.dK ws')) := ext_write h1 trivial
  exact ⟨ex, w.write e1 e2 rfl rfl ex ⟨ws', upd_same, hk, RVs.mono ex _ _ hv⟩⟩
theorem put_dk {x y z : D} {h' : DH} (e : putDh x y z h = some h') : ∃ n kvs k, x = .ref n ∧ h[n]? = some (.dK kvs) ∧ keyD y = some k ∧ kvs.length < 16777216 ∧ h' = h.set n (.dK (setK kvs k z)) := by
  unfold putDh at e
  cases x with
  | ref n =>
    cases q : h[n]? with
    | none => simp only [q] at e; cases e
    | some ob =>
      cases ob with
      | dK kvs =>
        simp only [q] at e
        cases q2 : keyD y with
        | none => rw [q2] at e; cases e
        | some k =>
          rw [q2] at e
          by_cases c : kvs.length < 16777216
          · simp only [if_pos c] at e; cases e; exact ⟨n, kvs, k, rfl, q, rfl, c, rfl⟩
          · simp only [if_neg c] at e; cases e
      | _ => simp only [q] at e; cases e
  | _ => cases e
theorem keys_len {kvs : List (Key × D)} {ws : List (Key × V)} (e : ws.map (·.1) = kvs.map (·.1)) : ws.length = kvs.length := by
  have := congrArg List.length e
  rwa [List.length_map, List.length_map] at this
theorem put_ok {x y z : D} {v u t : V} {h' : DH} (w : Wd G μ h H) (rx : RV G μ H x v) (ry : RV G μ H y u) (rz : RV G μ H z t) (e : putDh x y z h = some h') : ∃ a H', v = .ref a ∧ DPut H a u t H' ∧ Ext G μ H μ H' ∧ Wd G μ h' H' := by
  obtain ⟨n, kvs, k, rfl, q, q2, hl, rfl⟩ := put_dk e
  obtain ⟨a, ws, rfl, ha, h1, h2, h3⟩ := dk_at w rx q
  obtain ⟨s1, s2⟩ := set_ok (k := k) rz h2 h3
  obtain ⟨ex, w'⟩ := w.setD ha q s1 s2
  exact ⟨a, _, rfl, .inl ⟨ws, k, h1, kV_of q2 ry, by rw [keys_len h2, sizeLine_eq]; exact hl, rfl⟩, ex, w'⟩
theorem sm_dput {value : Expr} {pos' : Pos} (hr : X.A.units + 1 < cLine) (ha : PE X a (tE G W ma)) (hb : PE X b (tE G W mb)) (hv : PE X value (tE G W mv)) (hs : swapsWith value (some (.Subscript a b pos')) pos.line X.env = pure false := by rfl) : PS X (.Assign [.Subscript a b pos'] value pos) (tS G W (sDPut mv ma mb)) := (ps_dput hr ha hb hv hs).imp fun E σ H ⟨μ, ds, h, w, rs, p⟩ =>
  ⟨μ, ds, h, w, rs, post_st p fun z h1 μ1 t H1 e1 w1 r1 p1 => ⟨μ1, ds, h1, w1, rs.mono e1, post_st p1 fun x h2 μ2 v H2 e2 w2 r2 p2 => ⟨μ2, ds, h2, w2, rs.mono (e1.trans e2), post_st p2 fun y h3 μ3 u H3 e3 w3 r3 p3 => by
    cases q : putDh x y z h3 with
    | none => simp only [q] at p3; exact p3.elim
    | some h4 =>
      obtain ⟨a, H4, rfl, g1, ex, w4⟩ := put_ok w3 (RV.mono e3 _ _ r2) r3 (RV.mono (e2.trans e3) _ _ r1) q
      simp only [q] at p3
      exact ⟨a, H4, rfl, g1, p3 μ3 σ H4 ex w4 (rs.mono ((e1.trans (e2.trans e3)).trans ex))⟩⟩⟩⟩
theorem sm_ddel {tpos : Pos} (ha : PE X a (tE G W ma)) (hb : PE X b (tE G W mb)) : PS X (.Delete [.Subscript a b tpos] pos) (tS G W (sDDel ma mb)) := (ps_ddel ha hb).imp fun E σ H ⟨μ, ds, h, w, rs, p⟩ =>
  ⟨μ, ds, h, w, rs, post_st p fun x h1 μ1 v H1 e1 w1 r1 p1 => ⟨μ1, ds, h1, w1, rs.mono e1, post_st p1 fun y h2 μ2 u H2 e2 w2 r2 p2 => by
    cases q : delDh x y h2 with
    | none => simp only [q] at p2; exact p2.elim
    | some h3 =>
      simp only [q] at p2
      unfold delDh at q
      cases x with
      | ref n =>
        cases qq : h2[n]? with
        | none => simp only [qq] at q; cases q
        | some ob =>
          cases ob with
          | dK kvs =>
            simp only [qq] at q
            cases q2 : keyD y with
            | none => rw [q2] at q; cases q
            | some k =>
              rw [q2] at q
              by_cases c : (lookK kvs k).isSome = true
              · simp only [if_pos c] at q; cases q
                obtain ⟨a, ws, rfl, ha, g1, g2, g3⟩ := dk_at w2 (RV.mono e2 _ _ r1) qq
                obtain ⟨s1, s2⟩ := del_ok (k := k) g2 g3
                obtain ⟨ex, w'⟩ := w2.setD ha qq s1 s2
                refine ⟨a, ws, k, rfl, g1, kV_of q2 r2, ?_, p2 μ2 σ _ ex w' (rs.mono ((e1.trans e2).trans ex))⟩
                have l := look_ok (k := k) g2 g3
                cases q3 : lookK kvs k with
                | none => rw [q3] at c; cases c
                | some d => rw [q3] at l; obtain ⟨z, l1, _⟩ := l; rw [l1]; rfl
              · simp only [if_neg c] at q; cases q
          | _ => simp only [qq] at q; cases q
      | _ => cases q⟩⟩
theorem pm_dnew : PE X (.Dict [] [] pos) (tE G W mDNew) := pe_dnewK.imp fun σ H Q ⟨μ, ds, h, w, rs, p⟩ => fun q hq => by
  have ex : Ext G μ H (μ ++ [q]) (upd H q (.dK [])) := (ext_new hq).trans (ext_app [q])
  refine p (μ ++ [q]) (.ref q) (upd H q (.dK [])) ex (w.alloc hq rfl ⟨[], upd_same, rfl, RVs.nil⟩) ?_
  simp only [RV]
  exact ⟨q, rfl, by rw [← w.len]; exact get_last μ q⟩
/-! ### dict comprehensions -/
def dcP (it : Itd) (g : PTg) (t : TM) (ek ev : EM) (n : Nat) (ds : DSt) : Nat → Nat → DH → Res D
  | 0, _, _ => .no
  | k + 1, i, h => match it.at_ i h with
    | none => .no
    | some none => .ok (.ref n) h
    | some (some x) => match ptD g x ds with
      | none => .no
      | some ds1 => match t ds1 h with
        | .ok true h1 => match ek ds1 h1 with
          | .ok y h2 => match ev ds1 h2 with
            | .ok z h3 => match putDh (.ref n) y z h3 with
              | some h4 => dcP it g t ek ev n ds k (i + 1) h4
              | none => .no
            | _ => .no
          | _ => .no
        | .ok false h1 => dcP it g t ek ev n ds k (i + 1) h1
        | _ => .no
@[irreducible] def mDc (mi : IM) (g : PTg) (t : TM) (ek ev : EM) (vs : List Nat) : EM := fun ds h => (mi ds h).bind fun it h1 => dcP it g t ek ev h1.length (wipeD ds vs) (it.len h1 + 1) 0 (h1 ++ [.dK []])
theorem snd_dc {mi : IM} {g : PTg} {mt : TM} {mk mv : EM} {vs : List Nat} (hj : ptIn vs g = true) : ∀ σ H Q, tE G W (mDc mi g mt mk mv vs) σ H Q → tDc (tI G W mi) (ptG G.K g) (tT G WF mt) (tE G WF mk) (tE G WF mv) vs σ H Q := fun σ H Q ⟨μ, ds, h, w, rs, p⟩ => ⟨μ, ds, h, w, rs, post_bind (show post G W ds (RV G) μ H ((mi ds h).bind fun it h1 => dcP it g mt mk mv h1.length (wipeD ds vs) (it.len h1 + 1) 0 (h1 ++ [.dK []])) Q by unfold mDc at p; exact p) fun it h1 μ1 J H1 e1 w1 r1 p1 => fun D hD => by
  have exD : Ext G μ1 H1 (μ1 ++ [D]) (upd H1 D (.dK [])) := (ext_new hD).trans (ext_app [D])
  refine ⟨fun i m H => ∃ μ h, Wd G μ h H ∧ RSt G μ H (wipeD ds vs) (L2.wipe σ vs) ∧ RSt G μ H ds σ ∧ relIt G μ H it J ∧ μ[h1.length]? = some D ∧ post G W ds (RV G) μ H (dcP it g mt mk mv h1.length (wipeD ds vs) m i h) Q, ⟨_, μ1 ++ [D], h1 ++ [.dK []], w1.alloc hD rfl (show RObj G _ _ D (.dK []) from ⟨[], upd_same, rfl, RVs.nil⟩), wipe_st (rs.mono (e1.trans exD)) vs, rs.mono (e1.trans exD), r1.mono exD, by rw [← w1.len]; exact get_last μ1 D, post_mono exD p1⟩, ?_⟩
  rintro i m H ⟨μ, h, w, rsw, rs', ri, hn, p⟩
  cases m with
  | zero => exact p.elim
  | succ k =>
    simp only [dcP] at p
    cases q : it.at_ i h with
    | none => simp only [q] at p; exact p.elim
    | some o =>
      cases o with
      | none =>
        simp only [q] at p
        exact .inl ⟨it_stop w ri q, post_ok p w (by simp only [RV]; exact ⟨D, rfl, hn⟩)⟩
      | some d =>
        simp only [q] at p
        obtain ⟨g1, g2⟩ := it_go w ri q
        refine .inr ⟨g1, fun H => ∃ μ h, Wd G μ h H ∧ RSt G μ H (wipeD ds vs) (L2.wipe σ vs) ∧ RSt G μ H ds σ ∧ relIt G μ H it J ∧ μ[h1.length]? = some D ∧ post G W ds (RV G) μ H (dcP it g mt mk mv h1.length (wipeD ds vs) k (i + 1) h) Q, fun H' z => ⟨k, Nat.lt_succ_self k, z⟩, fun x H' y => ?_⟩
        obtain ⟨ey, wy, rx⟩ := g2 x H' y
        replace rsw := rsw.mono ey
        replace rs' := rs'.mono ey
        replace ri := ri.mono ey
        replace p := post_mono ey p
        cases qg : ptD g d (wipeD ds vs) with
        | none => simp only [qg] at p; exact p.elim
        | some ds1 =>
        simp only [qg] at p
        obtain ⟨σ2, rs2, wq, gk⟩ := pt_ok g d _ ds1 (L2.wipe σ vs) x qg rsw rx hj
        refine gk _ ⟨wq.trans (wipe_idem σ vs), μ, ds1, h, wy, rs2, ?_⟩
        cases q2 : mt ds1 h with
        | ok b h2 =>
          intro μ2 b' H2 e2 w2 rb
          have eb : b = b' := rb
          subst eb
          cases b with
          | false =>
            simp only [q2] at p
            exact ⟨μ2, h2, w2, rsw.mono e2, rs'.mono e2, ri.mono e2, (ey.trans e2).pre _ _ hn, post_mono e2 p⟩
          | true =>
            simp only [q2] at p
            refine ⟨μ2, ds1, h2, w2, rs2.mono e2, ?_⟩
            cases q3 : mk ds1 h2 with
            | ok yd h3 =>
              simp only [q3] at p
              intro μ3 yv H3 e3 w3 ry
              refine ⟨μ3, ds1, h3, w3, rs2.mono (e2.trans e3), ?_⟩
              cases q4 : mv ds1 h3 with
              | ok zd h4 =>
                simp only [q4] at p
                intro μ4 zv H4 e4 w4 rz
                have ex := (e2.trans e3).trans e4
                cases q5 : putDh (.ref h1.length) yd zd h4 with
                | none => simp only [q5] at p; exact p.elim
                | some h5 =>
                  simp only [q5] at p
                  have hn3 := (ey.trans ex).pre _ _ hn
                  obtain ⟨n, kvs, k', en, qn, qk, hl, rfl⟩ := put_dk q5
                  cases en
                  obtain ⟨a, ws, ea, ha, g3, g4, g5⟩ := dk_at w4 (v := .ref D) (by simp only [RV]; exact ⟨D, rfl, hn3⟩) qn
                  cases ea
                  obtain ⟨s1, s2⟩ := set_ok (k := k') rz g4 g5
                  obtain ⟨ex5, w5⟩ := w4.setD hn3 qn s1 s2
                  exact ⟨ws, k', kV_of qk (RV.mono e4 _ _ ry), g3, by rw [keys_len g4, sizeLine_eq]; exact hl, μ4, _, w5, rsw.mono (ex.trans ex5), rs'.mono (ex.trans ex5), ri.mono (ex.trans ex5), hn3, post_mono (ex.trans ex5) p⟩
              | exc e h3 => simp only [q4] at p; exact p.elim
              | no => simp only [q4] at p; exact p.elim
            | exc e h3 => simp only [q3] at p; exact p.elim
            | no => simp only [q3] at p; exact p.elim
        | exc e h2 => simp only [q2] at p; exact p.elim
        | no => simp only [q2] at p; exact p.elim⟩
theorem pm_dc {e : Expr} {mi : IM} {g : PTg} {mt : TM} {mk mv : EM} {vs : List Nat} (hj : ptIn vs g = true) (h : PE X e (tDc (tI G W mi) (ptG G.K g) (tT G WF mt) (tE G WF mk) (tE G WF mv) vs)) : PE X e (tE G W (mDc mi g mt mk mv vs)) := h.imp (snd_dc hj)
end
end Mi
/-! list(reversed(xs)) -/
namespace RvL
open PySem
theorem sub_lri : isSubtype (.type "list_reverseiterator") (.type "list_reverseiterator") = pure true := by
  rw [isSubtype_type]
  rfl
theorem hint_rev {M : Model} {A : Around} {E : Value → Shared → Prop} {s : Shared} {it : Addr} (ht : s.TypeIs (.ref it) "list_reverseiterator") {Q : Bool → Shared → Prop} (q : Q false s) : wpAny M A (Builtin.List.listLengthHint (.ref it)) Q E s := by
  unfold Builtin.List.listLengthHint
  refine wpAny_bind ?_
  refine wpAny_specialOf ht RT.nolen_lri ?_
  dsimp only
  rw [if_neg (by decide), if_neg (by decide)]
  refine wpAny_bind ?_
  refine wpAny_specialOf ht RT.hint_lri ?_
  dsimp only
  rw [show splitId "list_reverseiterator.__length_hint__" = some ("list_reverseiterator", "__length_hint__") from by decide +kernel]
  dsimp only
  refine wpAny_bind ?_
  refine wpAny_isInstance ht (b := true) sub_lri ?_
  rw [if_neg (by decide), if_pos (by decide +kernel), if_neg (by decide +kernel)]
  exact wpAny_pure q
section
variable {prog : Program} {w : World} {A : Around} {s : Shared} {I l : Addr} {items : Array Value}
theorem walks_rev (hA : A.handled = none) (hne : l ≠ I) : WalksS prog w A I [I, l] [I] (fun a b => a = b) items.size (fun i v => items[items.size - 1 - i]? = some v) (fun i s => i ≤ items.size ∧ s.heap.IsRevIter I l ((items.size : Int) - 1 - i) ∧ s.heap.IsList l items) where
  sub := fun b hb => by rw [List.mem_singleton.mp hb]; exact List.mem_cons_self
  grefl := fun _ => rfl
  gtrans := fun _ _ _ a b => a.trans b
  frame := fun i s h' tk ⟨h1, h2, h3⟩ _ k => by
    refine ⟨h1, h2.at fun o => k I List.mem_cons_self o, ?_⟩
    obtain ⟨o, e, r⟩ := h3
    exact ⟨o, k l (List.mem_cons_of_mem _ List.mem_cons_self) o e, r⟩
  item := fun i s Q E hi ⟨h1, h2, h3⟩ k => by
    have e : ((items.size : Int) - 1 - i) = ((items.size - 1 - i : Nat) : Int) := by omega
    rw [e] at h2
    obtain ⟨x, hx⟩ : ∃ x, items[items.size - 1 - i]? = some x := ⟨_, Array.getElem?_eq_getElem (by omega)⟩
    refine wpAny_pyNext_rev_item h2 h3 hx fun h' r sb => ?_
    refine k x _ hx ⟨by omega, ?_, ?_⟩ ⟨fun b o nb hb => ?_, rfl, rfl, rfl, Nat.le_refl _⟩
    · have e2 : ((items.size : Int) - 1 - (i + 1 : Nat)) = ((items.size - 1 - i : Nat) : Int) - 1 := by omega
      rw [e2]; exact r
    · obtain ⟨o, e, q⟩ := h3
      exact ⟨o, by show h'.get? l = _; rw [sb.2 l hne]; exact e, q⟩
    · show h'.get? b = _
      rw [sb.2 b (fun z => nb (by rw [z]; exact List.mem_cons_self))]; exact hb
  done := fun s Q E ⟨h1, h2, h3⟩ k => by
    have e : ((items.size : Int) - 1 - items.size) = -1 := by omega
    rw [e] at h2
    refine wpAny_pyNext_rev_end hA h2 fun h' sb => k _ ⟨fun b o nb hb => ?_, rfl, rfl, rfl, Nat.le_refl _⟩
    exact sb b o (fun z => nb (by rw [z]; exact List.mem_cons_self)) hb
  self := fun i s Q E ⟨h1, h2, h3⟩ q => wpAny_pyIter_revIter h2 q
theorem extend_rev {R : Result → Shared → Prop} (hA : A.in1.handled = none) (hne : l ≠ I) {S : Addr} (hS1 : S ≠ I) (hS2 : S ≠ l) (res : Value) (c₀ : Nat) (hI : s.heap.IsRevIter I l ((items.size : Int) - 1)) (hl : s.heap.IsList l items) (hz : items.size ≤ sizeLine)
    (hs : s.heap.get? S = some { cls := .type "list", data := .seq #[] c₀ })
    (k : ∀ (s' : Shared) (acc' : Array Value) (c' : Nat), Moved [S, I] (fun a b => a = b) s s' → s'.heap.get? S = some { cls := .type "list", data := .seq acc' c' } → ItemsOf (fun i v => items[items.size - 1 - i]? = some v) acc' items.size → R (.ok (.ret res)) s') :
    wpAny (model prog w) A.in1 (Builtin.List.listExtendWith (.ref S) (.ref I) res) (fun fin s' => match fin with | .done f => R (.ok f) s' | .again c' => c'.quiet = true ∧ codeAny (model prog w) A c' R s') (fun e s' => R (.error e) s') s := by
  have ht := hI.typeIs
  unfold Builtin.List.listExtendWith
  refine wpAny_bind ?_
  refine wpAny_typeOf ht ?_
  have e1 : (Builtin.List.listSameRef (.ref S) (.ref I)) = false := by
    show (S == I) = false
    exact beq_eq_false_iff_ne.mpr hS1
  rw [e1]
  rw [if_neg (by decide +kernel)]
  refine wpAny_bind ?_
  refine wpAny_pyIter_revIter hI ?_
  refine wpAny_bind ?_
  refine wpAny_holding ?_
  refine hint_rev ht ?_
  dsimp only
  rw [if_neg (by decide +kernel)]
  unfold again
  refine wpAny_pure ?_
  refine ⟨plainId_quiet F.plain_extend_loop _, ?_⟩
  refine codeAny_extend_loopS (walks_rev (A := A.in1) hA hne) hz S (by simp [hS1, hS2]) res items.size 0 s #[] c₀ (by omega) (Nat.zero_le _) ⟨Nat.zero_le _, ?_, hl⟩ hs (ItemsOf.nil _) k
  have : ((items.size : Int) - 1 - (0 : Nat)) = (items.size : Int) - 1 := by omega
  rw [this]; exact hI
theorem init_rev {R : Result → Shared → Prop} (hA : A.in1.handled = none) (hne : l ≠ I) {S : Addr} (hS1 : S ≠ I) (hS2 : S ≠ l) (hI : s.heap.IsRevIter I l ((items.size : Int) - 1)) (hl : s.heap.IsList l items) (hz : items.size ≤ sizeLine)
    (hs : s.heap.get? S = some { cls := .type "list", data := .seq #[] })
    (k : ∀ (s' : Shared) (acc' : Array Value) (c' : Nat), Moved [S, I] (fun a b => a = b) s s' → s'.heap.get? S = some { cls := .type "list", data := .seq acc' c' } → ItemsOf (fun i v => items[items.size - 1 - i]? = some v) acc' items.size → R (.ok (.ret .none)) s') :
    wpAny (model prog w) A.in1 (Builtin.«list.__init__» { pos := [.ref S, .ref I] }) (fun fin s' => match fin with | .done f => R (.ok f) s' | .again c' => c'.quiet = true ∧ codeAny (model prog w) A c' R s') (fun e s' => R (.error e) s') s := by
  unfold Builtin.«list.__init__»
  dsimp only
  rw [if_neg (by decide), if_neg (by simp)]
  refine wpAny_bind ?_
  refine wpAny_listItems hs rfl ?_
  refine wpAny_bind ?_
  refine PyProof.Rows.listUpdate_at hs rfl ?_ (by decide) (by decide)
  refine wpAny_bind ?_
  refine wpAny_letGo ?_
  have hs2 : (s.heap.update S (Obj.mapSeq fun _ => #[])).get? S = some { cls := .type "list", data := .seq #[] } := Heap.get?_update_self _ hs rfl
  have ko : ∀ (b : Addr) (o : Obj), b ≠ S → s.heap.get? b = some o → (s.heap.update S (Obj.mapSeq fun _ => #[])).get? b = some o := fun b o nb hb => by rw [Heap.get?_update_ne _ _ _ _ nb]; exact hb
  refine extend_rev (s := { heap := s.heap.update S (Obj.mapSeq fun _ => #[]), gens := s.gens, drawn := s.drawn, toks := s.toks, os := s.os }) hA hne hS1 hS2 .none 0 (hI.at fun o => ko I o (Ne.symm hS1)) ?_ hz hs2 fun s' acc' c' mv h1 h2 => k s' acc' c' ?_ h1 h2
  · obtain ⟨o, e, q⟩ := hl
    exact ⟨o, ko l o (Ne.symm hS2) e, q⟩
  · exact ⟨fun b o nb hb => mv.heap b o nb (ko b o (fun z => nb (by rw [z]; exact List.mem_cons_self)) hb), mv.gens, mv.drawn, mv.os, mv.toks⟩
/-- list(it) of a list reversed -/
theorem call_list_rev {E Q : Value → Shared → Prop} (hA : A.handled = none) (hne : l ≠ I) (hI : s.heap.IsRevIter I l ((items.size : Int) - 1)) (hl : s.heap.IsList l items) (hz : items.size ≤ sizeLine)
    (k : ∀ (s' : Shared) (acc' : Array Value) (c' : Nat), (∀ b o, b ≠ I → s.heap.get? b = some o → s'.heap.get? b = some o) → s'.gens = s.gens → s'.drawn = s.drawn → s'.os = s.os → s'.heap.get? s.heap.objs.size = some { cls := .type "list", data := .seq acc' c' } → ItemsOf (fun i v => items[items.size - 1 - i]? = some v) acc' items.size → Q (.ref s.heap.objs.size) s') :
    wpAny (model prog w) A (call (.type "list") [.ref I]) Q E s := by
  refine callType_codes F.called_list (F.typeCall_list_1 _) F.entry_list_init (code_list_new (.ref I) (Q₁ := fun obj s1 => obj = .ref s.heap.objs.size ∧ s1 = { heap := s.heap.push { cls := .type "list", data := .seq #[] }, gens := s.gens, drawn := s.drawn, toks := s.toks, os := s.os }) ⟨rfl, rfl⟩) ?_
  rintro obj s1 ⟨rfl, rfl⟩
  have hlt : I < s.heap.objs.size := by obtain ⟨o, e, _⟩ := hI; exact Heap.lt_size e
  have hll : l < s.heap.objs.size := by obtain ⟨o, e, _⟩ := hl; exact Heap.lt_size e
  refine ⟨⟨_, Heap.get?_push_size _ rfl, rfl⟩, rfl, ?_⟩
  refine init_rev (A := A.in1) (s := { heap := s.heap.push { cls := .type "list", data := .seq #[] }, gens := s.gens, drawn := s.drawn, toks := s.toks, os := s.os }) (S := s.heap.objs.size) (by exact hA) hne (Nat.ne_of_gt hlt) (Nat.ne_of_gt hll) (hI.at fun o ho => Heap.get?_push_of_some _ ho) (hl.push _) hz (Heap.get?_push_size _ rfl) fun s' acc' c' mv h1 h2 => ⟨rfl, ?_⟩
  refine k s' acc' c' (fun b o nb hb => mv.heap b o ?_ (Heap.get?_push_of_some _ hb)) mv.gens.symm mv.drawn mv.os h1 h2
  have := Heap.lt_size hb
  intro z
  rcases List.mem_cons.mp z with z | z
  · rw [z] at this; exact Nat.lt_irrefl _ this
  · exact nb (List.mem_singleton.mp z)
end
end RvL
namespace L2
open PySem
def tLstRev (K : PySem.W.Frag) (te : TE) : TE := fun σ H Q => te σ H fun v H1 => ∃ a xs, v = .ref a ∧ SqL K H1 a xs ∧ ∀ q : Addr, H1 q = none → Q (.ref q) (upd H1 q (.lst xs.reverse))
theorem pe_lstRev {X : Cx} {e : Expr} {te : TE} {p p2 pos pos2 : Pos} (hc : X.calm = true) (g1 : Gl X "list") (m1 : X.mg "list" = none) (g2 : Gl X "reversed") (m2 : X.mg "reversed" = none) (he : PE X e te)
    (h1 : starEach [e] X.env = (false, eval e X.env) :: starEach [] X.env := by rfl)
    (h2 : starEach [.Call (.Name "reversed" p2) [e] [] pos2] X.env = (false, eval (.Call (.Name "reversed" p2) [e] [] pos2) X.env) :: starEach [] X.env := by rfl) :
    PE X (.Call (.Name "list" p) [.Call (.Name "reversed" p2) [e] [] pos2] [] pos) (tLstRev X.K te) := ⟨fun pins s σ H Q I hq => by
  refine PyProof.Rows.Call_ ?_
  refine ld_blt I g1 m1 (u := .type "list") (by rfl) ?_
  refine PyProof.Rows.callWith_type1 ?_ h2
  refine PyProof.Rows.args_cons ?_ h2
  refine PyProof.Rows.Call_ ?_
  refine ld_blt I g2 m2 PyProof.Rows.boot_reversed ?_
  refine PyProof.Rows.callWith_type1 ?_ h1
  refine PyProof.Rows.args_cons ?_ h1
  refine thn (he.run pins s σ H _ I hq) fun v s1 ev => ?_
  obtain ⟨v', H1, I1, r1, a, xs, rfl, sq, k⟩ := ev
  cases r1
  refine PyProof.Rows.args_nil ?_
  obtain ⟨its, vs, pl, hz⟩ := I1.list sq
  have il : s1.heap.IsList a its.toArray := pl.isList
  have la : a < s1.heap.objs.size := by obtain ⟨o, e, _⟩ := il; exact Heap.lt_size e
  refine call_reversed_list il ?_
  refine PyProof.Rows.args_nil ?_
  refine RvL.call_list_rev (I := s1.heap.objs.size) (l := a) (items := its.toArray) (I1.ok.hd hc) (Nat.ne_of_lt la) ⟨_, Heap.get?_push_size _ rfl, rfl, rfl⟩ (il.push _) (by rw [List.size_toArray, ← vs.length]; exact hz) fun s' acc' c' k1 k2 k3 k4 k5 k6 => ?_
  have hS : s1.heap.objs.size ≤ (s1.heap.push (revObj a ((its.toArray.size : Int) - 1))).objs.size := Nat.le_of_lt (Heap.lt_size (Heap.get?_push_size s1.heap (o := revObj a ((its.toArray.size : Int) - 1)) rfl))
  obtain ⟨h', g', d', t', o'⟩ := s'
  have k2 : g' = s1.gens := k2
  have k3 : d' = s1.drawn := k3
  have k4 : o' = s1.os := k4
  subst k2; subst k3; subst k4
  refine ⟨.ref _, _, I1.laid (a := (s1.heap.push (revObj a ((its.toArray.size : Int) - 1))).objs.size) (o := .lst xs.reverse) (fun b u hb => k1 b u (Nat.ne_of_lt (Heap.lt_size hb)) (Heap.get?_push_of_some _ hb)) hS ?_, rfl, k _ (I1.hok.fresh hS)⟩
  unfold ObjOk
  exact ⟨by rw [List.length_reverse]; exact hz, acc'.toList, c', RT.vals_rev vs k6, by simpa using k5⟩⟩
end L2
/-! sorted(set(xs)) of a list of whole numbers -/
namespace StL
open PySem
theorem callType_chk {prog : Program} {w : World} {A : Around} {E : Value → Shared → Prop} {s : Shared} {T newId initId : String} {Bi : Builtin} {args : List Value} {Q Q₁ : Value → Shared → Prop}
    (ft : TypeCalled T newId initId) (hct : checkTypeCall T { pos := args } = pure ()) (entryI : entryFor table initId = some Bi)
    (hnew : codeAny (model prog w) A.in1 (Code.call (.builtin newId) { pos := .type T :: args }) (wants Q₁ E) s)
    (hnext : ∀ obj s₁, Q₁ obj s₁ → s₁.TypeIs obj T ∧ wpAny (model prog w) A.in1.in1 (checkBuiltinCall initId { pos := obj :: args }) (fun _ s2 => wpAny (model prog w) A.in1.in1 (Bi { pos := obj :: args })
      (fun fin s' => match fin with | .done f => wants (fun r s₂ => r = .none ∧ Q obj s₂) E (.ok f) s' | .again c' => c'.quiet = true ∧ codeAny (model prog w) A.in1 c' (wants (fun r s₂ => r = .none ∧ Q obj s₂) E) s')
      (fun e s' => wants (fun r s₂ => r = .none ∧ Q obj s₂) E (.error e) s') s2) (fun e s' => wants (fun r s₂ => r = .none ∧ Q obj s₂) E (.error e) s') s₁) :
    wpAny (model prog w) A (call (.type T) args) Q E s := by
  obtain ⟨c, tl, hmro⟩ := ft.mro
  refine wpAny_call ?_
  refine codeAny_of_tree ?_
  refine wpAny_pure ⟨Code.quiet_builtin { pos := .type T :: args } (by decide +kernel), ?_⟩
  refine codeAny_builtin F.entry_type_call ?_
  rw [Around.under_plain (weight_type_call_type T args []) rfl]
  unfold Builtin.«type.__call__»
  dsimp only
  rw [if_neg (by rw [ft.notType]; decide), if_neg (by rw [ft.canCreate]; decide)]
  refine wpAny_bind ?_
  refine wpAny_of_eq hct ?_
  refine wpAny_bind ?_
  refine wpAny_of_eq hmro ?_
  rw [if_neg (by simp)]
  refine wpAny_bind ?_
  refine wpAny_of_eq ft.made ?_
  dsimp only
  refine wpAny_bind ?_
  refine wpAny_pure ?_
  refine wpAny_bind ?_
  refine wpAny_holding ?_
  refine wpAny_call ?_
  refine codeAny_mono hnew fun r s1 hr => ?_
  match r, hr with
  | .ok (.ret obj), hr =>
    obtain ⟨ht, hn⟩ := hnext obj s1 hr
    dsimp only
    refine wpAny_bind ?_
    refine wpAny_isInstance ht ft.sub ?_
    rw [if_neg (by decide)]
    refine wpAny_bind ?_
    refine wpAny_holding ?_
    unfold callSpecial?
    refine wpAny_bind ?_
    refine wpAny_specialOf ht ft.init.lookup ?_
    dsimp only
    refine wpAny_holding ?_
    refine wpAny_bind ?_
    refine wpAny_of_eq (ft.init.bind obj) ?_
    dsimp only
    refine wpAny_bind ?_
    refine wpAny_call ?_
    refine codeAny_mono (codeAny_call_builtin ft.init.plain entryI hn) fun r s2 hr => ?_
    match r, hr with
    | .ok (.ret v), hr =>
      obtain ⟨rfl, hq⟩ := hr
      dsimp only
      refine wpAny_pure ?_
      dsimp only
      rw [if_neg (by decide)]
      exact wpAny_pure hq
    | .ok .next, hr => exact hr.elim
    | .error e, hr => exact hr
  | .error e, hr => exact hr
section
variable {prog : Program} {w : World} {A : Around} {s : Shared} {l S : Addr} {items : Array Value}
theorem nameCut {M : Model} {E : Value → Shared → Prop} {n : Nat} {Q : String → Shared → Prop} (ht : s.TypeIs (.ref S) "set") (q : ∀ z, Q z s) : wpAny M A (typeNameOfCut n (.ref S)) Q E s := by
  unfold typeNameOfCut shownTypeOf
  refine wpAny_bind ?_
  refine wpAny_bind ?_
  refine wpAny_typeOf ht ?_
  dsimp only
  rw [if_neg (by decide +kernel)]
  refine wpAny_pure ?_
  unfold typeNameCut
  dsimp only
  unfold typeName
  dsimp only
  exact wpAny_pure (q _)
theorem update_list {E : Value → Shared → Prop} {Q : Unit → Shared → Prop} (hA : A.handled = none) (ns : List Int) (hl : s.heap.IsList l items) (hi : PyProof.Rows.IntsAre items.toList ns) (hz : ns.length + 1 < scanBound) (hne : S ≠ l)
    (hS : L2.SetR w s.heap S (fun j => decide (j ∈ ns.take 0)) 0) (k : ∀ (s' : Shared) (c : Nat), (∀ b o, b ≠ S → s.heap.get? b = some o → s'.heap.get? b = some o) → s'.gens = s.gens → s'.drawn = s.drawn → s'.os = s.os → c ≤ ns.length → L2.SetR w s'.heap S (fun j => decide (j ∈ ns)) c → Q () s') :
    wpAny (model prog w) A (Builtin.Frozenset.updateFrom "set.__init__" S (.ref l)) Q E s := by
  have ht : s.TypeIs (.ref l) "list" := by obtain ⟨o, e, q, _⟩ := hl; exact ⟨o, e, q⟩
  have hlen : items.size = ns.length := by
    have : ∀ {us : List Value} {ns : List Int}, PyProof.Rows.IntsAre us ns → us.length = ns.length := fun h => by
      induction h with
      | nil => rfl
      | cons n t _ ih => rw [List.length_cons, List.length_cons, ih]
    rw [← this hi, Array.length_toList]
  have hll : l < s.heap.objs.size := by obtain ⟨o, e, _⟩ := hl; exact Heap.lt_size e
  unfold Builtin.Frozenset.updateFrom Builtin.Frozenset.isAnySet
  refine wpAny_bind ?_
  unfold orM
  refine wpAny_bind ?_
  refine wpAny_isInstance ht F.sub_list_set ?_
  dsimp only
  rw [show toBool false = false from rfl]
  refine wpAny_isInstance ht F.sub_list_frozenset ?_
  rw [if_neg (by decide)]
  refine wpAny_bind ?_
  refine wpAny_typeOf ht ?_
  rw [if_neg (by decide +kernel)]
  refine wpAny_bind ?_
  refine wpAny_pyIter_list hl ?_
  refine wpAny_bind ?_
  refine wpAny_runValue ?_
  have hS' := hS.at (h' := s.heap.push { cls := .type "list_iterator", data := .fields #[.ref l, .int 0 0] }) fun o ho => Heap.get?_push_of_some _ ho
  have hSl := hS.lt
  refine L2.set_update_ints (Walks.toS (Walks.list (A := A.in1) hA s.heap.objs.size l (Nat.ne_of_lt hll) items)) S (by simp only [List.mem_cons, List.not_mem_nil, or_false, not_or]; exact ⟨Nat.ne_of_lt hSl, hne⟩) ns hlen hz (fun i v hv => ?_) items.size 0 _ (by omega) (Nat.zero_le _) ⟨⟨_, Heap.get?_push_size _ rfl, rfl, rfl⟩, hl.push _⟩ ⟨0, Nat.le_refl _, hS'⟩ fun s' c mv hc h => ?_
  · obtain ⟨t, rfl⟩ := hi.int_at i v (by rw [Array.getElem?_toList]; exact hv)
    have li : i < ns.length := by
      have := (Array.getElem?_eq_some_iff.mp hv).1
      omega
    exact ⟨_, t, by rw [List.getD_eq_getElem?_getD, List.getElem?_eq_getElem li]; rfl, rfl⟩
  · refine wpAny_pure (k s' c (fun b o nb hb => mv.heap b o ?_ (Heap.get?_push_of_some _ hb)) mv.gens mv.drawn mv.os (by omega) h)
    have := Heap.lt_size hb
    intro z
    rcases List.mem_cons.mp z with z | z
    · exact nb z
    · rw [List.mem_singleton.mp z] at this; exact Nat.lt_irrefl _ this
theorem call_set_list {E Q : Value → Shared → Prop} (hA : A.handled = none) (ns : List Int) (hl : s.heap.IsList l items) (hi : PyProof.Rows.IntsAre items.toList ns) (hz : ns.length + 1 < scanBound)
    (k : ∀ (s' : Shared) (c : Nat), (∀ b o, s.heap.get? b = some o → s'.heap.get? b = some o) → s'.gens = s.gens → s'.drawn = s.drawn → s'.os = s.os → c ≤ ns.length → L2.SetR w s'.heap s.heap.objs.size (fun j => decide (j ∈ ns)) c → Q (.ref s.heap.objs.size) s') :
    wpAny (model prog w) A (call (.type "set") [.ref l]) Q E s := by
  have hll : l < s.heap.objs.size := by obtain ⟨o, e, _⟩ := hl; exact Heap.lt_size e
  refine callType_chk F.called_set (F.typeCall_set_1 _) F.entry_set_init (L2.code_set_led1 (.ref l) (Q₁ := fun obj s1 => obj = .ref s.heap.objs.size ∧ s1 = { heap := s.heap.push { cls := .type "set", data := .set #[] 0 (SetTable.fresh 0 0 !w.params.followText "set-order") }, gens := s.gens, drawn := s.drawn, toks := s.toks, os := s.os }) ⟨rfl, rfl⟩) ?_
  rintro obj s1 ⟨rfl, rfl⟩
  have hg : (s.heap.push { cls := .type "set", data := .set #[] 0 (SetTable.fresh 0 0 !w.params.followText "set-order") }).get? s.heap.objs.size = some _ := Heap.get?_push_size _ rfl
  refine ⟨⟨_, hg, rfl⟩, check_set_init_1 ⟨_, hg, rfl⟩ ?_⟩
  unfold Builtin.«set.__init__»
  refine wpAny_bind ?_
  unfold noKeywords
  rw [if_pos (show (({ pos := [.ref s.heap.objs.size, .ref l] } : Args).kw.isEmpty = true) from rfl)]
  refine wpAny_pure ?_
  dsimp only
  refine wpAny_bind ?_
  refine nameCut ⟨_, hg, rfl⟩ fun z => ?_
  refine wpAny_bind ?_
  unfold checkCount
  dsimp only
  rw [if_neg (by simp), if_neg (by simp), if_neg (by simp)]
  refine wpAny_pure ?_
  refine wpAny_bind ?_
  unfold Builtin.Frozenset.addrOf
  refine wpAny_pure ?_
  refine wpAny_bind ?_
  unfold setUsed
  refine wpAny_bind ?_
  refine wpAny_setState_of hg rfl (by generalize (!w.params.followText "set-order") = b; cases b <;> decide +kernel) ?_
  refine wpAny_pure ?_
  dsimp only
  rw [if_neg (by generalize (!w.params.followText "set-order") = b; cases b <;> decide +kernel)]
  refine wpAny_bind ?_
  refine update_list (by exact hA) ns (hl.push _) hi hz (Nat.ne_of_gt hll) (L2.setR_new_at hg) fun s' c k1 k2 k3 k4 hc hS => ?_
  refine wpAny_pure ⟨rfl, ?_⟩
  exact k s' c (fun b o hb => k1 b o (Nat.ne_of_lt (Heap.lt_size hb)) (Heap.get?_push_of_some _ hb)) k2 k3 k4 hc hS
end
end StL
namespace L2
open PySem
def tSortSet (K : PySem.W.Frag) (te : TE) : TE := fun σ H Q => te σ H fun v H1 => ∃ (a : Addr) (ns : List Int), v = .ref a ∧ SqL K H1 a (ns.map V.int) ∧ ns.length < 4000 ∧ (∀ ms : List Int, ms.Nodup → (∀ k, k ∈ ms ↔ k ∈ ns) → ms.length < 64) ∧ ∀ (ns' : List Int) (q : Addr), ns'.Pairwise (· < ·) → (∀ k, k ∈ ns' ↔ k ∈ ns) → H1 q = none → Q (.ref q) (upd H1 q (.lst (ns'.map V.int)))
theorem pe_sortSet {X : Cx} {e : Expr} {te : TE} {p p2 pos pos2 : Pos} (hc : X.calm = true) (g1 : Gl X "sorted") (m1 : X.mg "sorted" = none) (g2 : Gl X "set") (m2 : X.mg "set" = none) (he : PE X e te)
    (h1 : starEach [e] X.env = (false, eval e X.env) :: starEach [] X.env := by rfl)
    (h2 : starEach [.Call (.Name "set" p2) [e] [] pos2] X.env = (false, eval (.Call (.Name "set" p2) [e] [] pos2) X.env) :: starEach [] X.env := by rfl) :
    PE X (.Call (.Name "sorted" p) [.Call (.Name "set" p2) [e] [] pos2] [] pos) (tSortSet X.K te) := ⟨fun pins s σ H Q I hq => by
  refine PyProof.Rows.Call_ ?_
  refine ld_blt I g1 m1 (u := .builtin "sorted") (by rfl) ?_
  refine PyProof.Rows.callWith_builtin1 ?_ h2
  refine PyProof.Rows.args_cons ?_ h2
  refine PyProof.Rows.Call_ ?_
  refine ld_blt I g2 m2 (u := .type "set") (by rfl) ?_
  refine PyProof.Rows.callWith_type1 ?_ h1
  refine PyProof.Rows.args_cons ?_ h1
  refine thn (he.run pins s σ H _ I hq) fun v s1 ev => ?_
  obtain ⟨v', H1, I1, r1, a, ns, rfl, sq, hn, h64, k⟩ := ev
  cases r1
  refine PyProof.Rows.args_nil ?_
  obtain ⟨its, vs, pl, hz⟩ := I1.list sq
  have hA := I1.ok.hd hc
  refine StL.call_set_list (items := its.toArray) hA ns pl.isList (intsAre_of vs) (by unfold scanBound; omega) fun s2 c k1 k2 k3 k4 hcn hS => ?_
  refine PyProof.Rows.args_nil ?_
  have hc64 : c < 64 := by
    obtain ⟨o, es, ep, t, z1, z2, z3, z4, z5, z6, z7, z8, z9, _⟩ := id hS
    have := h64 _ z5 fun k => by rw [← z6 k]; exact decide_eq_true_iff
    rwa [List.length_map, Array.length_toList, z9] at this
  refine sorted_set hS hA hc64 fun s3 q out c' ns' j1 j2 j3 j4 j5 j6 j7 j8 j9 => ?_
  have hq1 : s1.heap.objs.size ≤ q := Nat.le_trans (Nat.le_of_lt hS.lt) j4
  obtain ⟨h3, g3, d3, t3, o3⟩ := s3
  have e2 : g3 = s1.gens := j2.trans k2
  have e3 : o3 = s1.os := j3.trans k4
  subst e2; subst e3
  have I2 := I1.laid (h' := h3) (a := q) (o := .lst (ns'.map V.int)) (t' := t3) (fun b u hb => j1 b u (k1 b u hb)) hq1 (by
    unfold ObjOk
    have lv : (ns'.map V.int).length = out.toList.length := Vals.length (vals_of_ints j6)
    refine ⟨?_, out.toList, c', vals_of_ints j6, by simpa using j5⟩
    rw [List.length_map, j9, sizeLine_eq]; omega)
  refine ⟨.ref q, _, ⟨I2.ok, I2.os, I2.bare, I2.base, I2.loc, I2.cell, I2.free, I2.freeC, I2.pin, I2.hok, I2.len⟩, rfl, k ns' q j7 (fun z => ?_) (I1.hok.fresh hq1)⟩
  rw [j8]; exact decide_eq_true_iff⟩
end L2
/-! list(reversed(..)), sorted(..), sorted(set(..)), extend -/
namespace Mi
open PySem L2
def insI (x : Int) : List Int → List Int
  | [] => [x]
  | y :: ys => if x ≤ y then x :: y :: ys else y :: insI x ys
def sortI : List Int → List Int
  | [] => []
  | x :: xs => insI x (sortI xs)
theorem insI_perm (x : Int) : ∀ ys : List Int, (insI x ys).Perm (x :: ys)
  | [] => List.Perm.refl _
  | y :: ys => by
    unfold insI
    split
    · exact List.Perm.refl _
    · exact ((insI_perm x ys).cons y).trans (List.Perm.swap x y ys)
theorem sortI_perm : ∀ xs : List Int, (sortI xs).Perm xs
  | [] => List.Perm.refl _
  | x :: xs => (insI_perm x _).trans ((sortI_perm xs).cons x)
theorem insI_sorted (x : Int) : ∀ ys : List Int, ys.Pairwise (· ≤ ·) → (insI x ys).Pairwise (· ≤ ·)
  | [], _ => List.pairwise_singleton _ _
  | y :: ys, h => by
    obtain ⟨h1, h2⟩ := List.pairwise_cons.mp h
    unfold insI
    split
    · rename_i c
      exact List.pairwise_cons.mpr ⟨fun z hz => by
        rcases List.mem_cons.mp hz with rfl | hz
        · exact c
        · exact Int.le_trans c (h1 z hz), h⟩
    · rename_i c
      refine List.pairwise_cons.mpr ⟨fun z hz => ?_, insI_sorted x ys h2⟩
      rcases List.mem_cons.mp ((insI_perm x ys).mem_iff.mp hz) with rfl | hz
      · omega
      · exact h1 z hz
theorem sortI_sorted : ∀ xs : List Int, (sortI xs).Pairwise (· ≤ ·)
  | [] => List.Pairwise.nil
  | x :: xs => insI_sorted x _ (sortI_sorted xs)
theorem sorted_eq : ∀ {xs ys : List Int}, xs.Perm ys → xs.Pairwise (· ≤ ·) → ys.Pairwise (· ≤ ·) → xs = ys
  | [], ys, p, _, _ => by rw [List.nil_perm.mp p]
  | x :: xs, [], p, _, _ => by cases List.perm_nil.mp p
  | x :: xs, y :: ys, p, h, k => by
    obtain ⟨h1, h2⟩ := List.pairwise_cons.mp h
    obtain ⟨k1, k2⟩ := List.pairwise_cons.mp k
    have e : x = y := by
      have a : x ≤ y := by
        rcases List.mem_cons.mp (p.mem_iff.mpr List.mem_cons_self) with z | z
        · omega
        · exact h1 y z
      have b : y ≤ x := by
        rcases List.mem_cons.mp (p.mem_iff.mp List.mem_cons_self) with z | z
        · omega
        · exact k1 x z
      omega
    subst e
    rw [sorted_eq (List.Perm.cons_inv p) h2 k2]
/-- the members once each, in order -/
def dedI : List Int → List Int
  | [] => []
  | x :: xs => if x ∈ dedI xs then dedI xs else x :: dedI xs
theorem dedI_mem {z : Int} : ∀ {xs : List Int}, z ∈ dedI xs ↔ z ∈ xs
  | [] => Iff.rfl
  | x :: xs => by
    unfold dedI
    split
    · rename_i c
      rw [dedI_mem, List.mem_cons]
      exact ⟨.inr, fun q => q.elim (fun q => by rw [q]; exact dedI_mem.mp c) id⟩
    · rw [List.mem_cons, List.mem_cons, dedI_mem]
theorem dedI_nodup : ∀ xs : List Int, (dedI xs).Nodup
  | [] => List.nodup_nil
  | x :: xs => by
    unfold dedI
    split
    · exact dedI_nodup xs
    · rename_i c; exact List.nodup_cons.mpr ⟨c, dedI_nodup xs⟩
def ssortI (xs : List Int) : List Int := sortI (dedI xs)
theorem strict_eq {xs ys : List Int} (h : xs.Pairwise (· < ·)) (k : ys.Pairwise (· < ·)) (m : ∀ z, z ∈ xs ↔ z ∈ ys) : xs = ys := by
  have nd : ∀ {l : List Int}, l.Pairwise (· < ·) → l.Nodup := fun h => h.imp fun z => by omega
  have le : ∀ {l : List Int}, l.Pairwise (· < ·) → l.Pairwise (· ≤ ·) := fun h => h.imp fun z => by omega
  exact sorted_eq ((List.perm_ext_iff_of_nodup (nd h) (nd k)).mpr m) (le h) (le k)
theorem ssortI_mem {xs : List Int} {z : Int} : z ∈ ssortI xs ↔ z ∈ xs := by
  unfold ssortI; rw [(sortI_perm _).mem_iff, dedI_mem]
theorem ssortI_strict (xs : List Int) : (ssortI xs).Pairwise (· < ·) := by
  have nd : (ssortI xs).Nodup := (sortI_perm _).nodup_iff.mpr (dedI_nodup xs)
  have le := sortI_sorted (dedI xs)
  have : (ssortI xs).Pairwise fun a b => a ≤ b ∧ a ≠ b := List.pairwise_and_iff.mpr ⟨le, nd⟩
  exact this.imp fun z => by omega
/-! the machine -/
def seqD (x : D) (h : DH) : Option (List D) := match x with
  | .ref n => match h[n]? with
    | some (.lst xs) => some xs
    | some (.fro xs) => some xs
    | _ => none
  | _ => none
def intsD : List D → Option (List Int)
  | [] => some []
  | .int i :: r => (intsD r).map (i :: ·)
  | _ => none
def lrevD (x : D) (h : DH) : Res D := match seqD x h with
  | some xs => .ok (.ref h.length) (h ++ [.lst xs.reverse])
  | none => .no
def ssetD (x : D) (h : DH) : Res D := match (seqD x h).bind intsD with
  | some ns => if ns.length < 4000 ∧ (dedI ns).length < 64 then .ok (.ref h.length) (h ++ [.lst ((ssortI ns).map D.int)]) else .no
  | none => .no
def sortD (xs : List D) (h : DH) : Res D := match xs with
  | [x] => match (seqD x h).bind intsD with
    | some ns => .ok (.ref h.length) (h ++ [.lst ((sortI ns).map D.int)])
    | none => .no
  | _ => .no
def rgD (n : Nat) : List D := (List.range n).map fun i => .int ((i : Nat) : Int)
def lrgD (x : D) (h : DH) : Res D := match x with
  | .int j => if 0 ≤ j ∧ j ≤ 16777216 then .ok (.ref h.length) (h ++ [.lst (rgD j.toNat)]) else .no
  | _ => .no
section
variable {G : Cw} {X : Cx} {W : WX} {pos : Pos} {μ : List Addr} {h : DH} {H : Hp} {ma : EM} {e : Expr}
theorem rvs_rg {G : Cw} {μ : List Addr} {H : Hp} {j : Int} (h0 : 0 ≤ j) : RVs G μ H (rgD j.toNat) (rgV 0 j) := by
  unfold rgD rgV
  rw [Int.sub_zero]
  generalize (List.range j.toNat) = l
  induction l with
  | nil => rfl
  | cons a l ih => exact ⟨.int (0 + (a : Int)), _, rfl, by rw [Int.zero_add]; exact rfl, ih⟩
theorem pm_lrg (h : PE X e (tLstRg (tRg1 (tE G W ma)))) : PE X e (tE G W (mUn lrgD ma)) := h.imp fun σ H Q ⟨μ, ds, h, w, rs, p⟩ =>
  ⟨μ, ds, h, w, rs, post_bind p fun x h1 μ1 v H1 e1 w1 r1 p1 => by
    unfold lrgD at p1
    cases x with
    | int j =>
      by_cases c : 0 ≤ j ∧ j ≤ 16777216
      · simp only [if_pos c] at p1
        simp only [RV] at r1
        exact ⟨j, r1, RgOk.of_le (by omega) c.2 (by omega) c.1, new_lst w1 (rvs_rg c.1) p1⟩
      · simp only [if_neg c] at p1; exact p1.elim
    | _ => exact p1.elim⟩
theorem seq_ok {x : D} {v : V} {xs : List D} (w : Wd G μ h H) (rx : RV G μ H x v) (q : seqD x h = some xs) : ∃ a vs, v = .ref a ∧ SqL G.K H a vs ∧ RVs G μ H xs vs := by
  unfold seqD at q
  cases x with
  | ref n =>
    simp only [RV] at rx
    obtain ⟨a, rfl, ha⟩ := rx
    cases q2 : h[n]? with
    | none => simp only [q2] at q; cases q
    | some ob =>
      cases ob with
      | lst ys => simp only [q2] at q; cases q; obtain ⟨vs, h1, r⟩ := w.ob _ _ _ ha q2; exact ⟨a, vs, rfl, SqL.of h1, r⟩
      | fro ys =>
        simp only [q2] at q; cases q
        obtain ⟨vs, h1, r⟩ := w.ob _ _ _ ha q2
        refine ⟨a, vs, rfl, ?_, r⟩
        rcases h1 with ⟨u, h1⟩ | h1
        · exact .inl (.inr ⟨u, h1⟩)
        · exact h1 H
      | _ => simp only [q2] at q; cases q
  | _ => cases q
theorem ints_ok : ∀ {xs : List D} {ns : List Int}, intsD xs = some ns → xs = ns.map D.int
  | [], ns, e => by cases e; rfl
  | .int i :: r, ns, e => by
    unfold intsD at e
    cases q : intsD r with
    | none => rw [q] at e; cases e
    | some ms => rw [q] at e; cases e; rw [ints_ok q]; rfl
  | .non :: r, ns, e => by cases e
  | .bl _ :: r, ns, e => by cases e
  | .str _ :: r, ns, e => by cases e
  | .tup _ :: r, ns, e => by cases e
  | .ref _ :: r, ns, e => by cases e
theorem pm_lrev (hK : X.K = G.K) (h : PE X e (tLstRev X.K (tE G W ma))) : PE X e (tE G W (mUn lrevD ma)) := h.imp fun σ H Q ⟨μ, ds, h, w, rs, p⟩ =>
  ⟨μ, ds, h, w, rs, post_bind p fun x h1 μ1 v H1 e1 w1 r1 p1 => by
    unfold lrevD at p1
    cases q : seqD x h1 with
    | none => simp only [q] at p1; exact p1.elim
    | some xs =>
      simp only [q] at p1
      obtain ⟨a, vs, rfl, sq, r⟩ := seq_ok w1 r1 q
      exact ⟨a, vs, rfl, by rw [hK]; exact sq, new_lst w1 r.reverse p1⟩⟩
theorem pm_sset (hK : X.K = G.K) (h : PE X e (tSortSet X.K (tE G W ma))) : PE X e (tE G W (mUn ssetD ma)) := h.imp fun σ H Q ⟨μ, ds, h, w, rs, p⟩ =>
  ⟨μ, ds, h, w, rs, post_bind p fun x h1 μ1 v H1 e1 w1 r1 p1 => by
    unfold ssetD at p1
    cases q : seqD x h1 with
    | none => simp only [q] at p1; exact p1.elim
    | some xs =>
      cases q2 : intsD xs with
      | none => simp only [q, Option.bind, q2] at p1; exact p1.elim
      | some ns =>
        simp only [q, Option.bind, q2] at p1
        obtain ⟨a, vs, rfl, sq, r⟩ := seq_ok w1 r1 q
        rw [ints_ok q2] at r
        have r := RVs.ints_of r
        subst r
        by_cases c : ns.length < 4000 ∧ (dedI ns).length < 64
        · rw [if_pos c] at p1
          refine ⟨a, ns, rfl, by rw [hK]; exact sq, c.1, fun ms nd hm => ?_, fun ns' q hs hm hq => ?_⟩
          · rw [((List.perm_ext_iff_of_nodup nd (dedI_nodup ns)).mpr fun z => by rw [hm, dedI_mem]).length_eq]; exact c.2
          rw [strict_eq hs (ssortI_strict ns) fun z => by rw [hm, ssortI_mem]]
          exact new_lst w1 RVs.ints p1 q hq
        · rw [if_neg c] at p1; exact p1.elim⟩
theorem s_sort : CallS G (rSortedI G.K) sortD := fun W ds μ h H xs vs Q w rs p => by
  unfold sortD at p
  match xs, rs, p with
  | [x], rs, p =>
    obtain ⟨v, ws, rfl, r1, r2⟩ := RVs.un rs
    simp only [RVs] at r2
    subst r2
    cases q : seqD x h with
    | none => simp only [q] at p; exact p.elim
    | some xs =>
      cases q2 : intsD xs with
      | none => simp only [q, Option.bind, q2] at p; exact p.elim
      | some ns =>
        simp only [q, Option.bind, q2] at p
        obtain ⟨a, vs, rfl, sq, r⟩ := seq_ok w r1 q
        rw [ints_ok q2] at r
        have r := RVs.ints_of r
        subst r
        refine ⟨a, ns, rfl, sq, fun ns' q pm hs hq => ?_⟩
        rw [sorted_eq (pm.trans (sortI_perm ns).symm) hs (sortI_sorted ns)]
        exact new_lst w RVs.ints p q hq
  | [], rs, p => exact p.elim
  | _ :: _ :: _, rs, p => exact p.elim
end
end Mi
/-! tests on dicts that the program makes; list(dict) -/
namespace Mi
open PySem L2
def keyO : Key → D
  | .inl i => .int i
  | .inr s => .str s
def keysD (x : D) (h : DH) : Option (List D) := match x with
  | .ref n => match h[n]? with
    | some (.dK kvs) => some (kvs.map fun kv => keyO kv.1)
    | _ => none
  | _ => none
def dkeysD (xs : List D) (h : DH) : Res D := match xs with
  | [x] => match keysD x h with
    | some ys => .ok (.ref h.length) (h ++ [.lst ys])
    | none => .no
  | _ => .no
def rDKeys : List V → Hp → VK → Prop := fun xs H Q => ∃ (a : Addr) (kvs : List (Key × V)), xs = [.ref a] ∧ Rd H a (.dK kvs) ∧ ∀ p, H p = none → Q (.ref p) (upd H p (.lst (kvs.map fun kv => kV kv.1)))
section
variable {G : Cw} {X : Cx} {W : WX} {pos : Pos} {μ : List Addr} {h : DH} {H : Hp} {ma mb : EM} {a b : Expr}
theorem snd_din : ∀ σ H Q, tE G W (mDIn false mb ma) σ H Q → tDIn (tE G W mb) (tE G W ma) σ H Q := fun σ H Q ⟨μ, ds, h, w, rs, p⟩ =>
  ⟨μ, ds, h, w, rs, post_bind p fun y h1 μ1 u H1 e1 w1 r1 p1 => ⟨μ1, ds, h1, w1, rs.mono e1, post_bind p1 fun x h2 μ2 v H2 e2 w2 r2 p2 => by
    cases q : getD' x y h2 with
    | none => simp only [q] at p2; exact p2.elim
    | some o =>
      obtain ⟨a, o', rfl, g1, g2⟩ := get_ok w2 r2 (RV.mono e2 _ _ r1) q
      simp only [q] at p2
      refine ⟨a, o', rfl, g1, post_ok p2 w2 ?_⟩
      cases o with
      | none => rw [show o' = none from g2]; simp [RV]
      | some d => obtain ⟨z, rfl, rz⟩ := g2; simp [RV]⟩⟩
theorem snd_dnin : ∀ σ H Q, tE G W (mDIn true mb ma) σ H Q → tDNotIn (tE G W mb) (tE G W ma) σ H Q := fun σ H Q ⟨μ, ds, h, w, rs, p⟩ =>
  ⟨μ, ds, h, w, rs, post_bind p fun y h1 μ1 u H1 e1 w1 r1 p1 => ⟨μ1, ds, h1, w1, rs.mono e1, post_bind p1 fun x h2 μ2 v H2 e2 w2 r2 p2 => by
    cases q : getD' x y h2 with
    | none => simp only [q] at p2; exact p2.elim
    | some o =>
      obtain ⟨a, o', rfl, g1, g2⟩ := get_ok w2 r2 (RV.mono e2 _ _ r1) q
      simp only [q] at p2
      refine ⟨a, o', rfl, g1, post_ok p2 w2 ?_⟩
      cases o with
      | none => rw [show o' = none from g2]; simp [RV]
      | some d => obtain ⟨z, rfl, rz⟩ := g2; simp [RV]⟩⟩
theorem tm_din (hr : X.A.units + 1 < cLine) (hb : PE X b (tE G W mb)) (ha : PE X a (tE G W ma)) (hm : behindInMarks .In a = false) : PT X (.Compare b [.In] [a] pos) (tT G W (mTest (mDIn false mb ma))) := (pt_cmp (pc_din hr hb ha) hm).imp (snd_test snd_din)
theorem tm_dnin (hr : X.A.units + 1 < cLine) (hb : PE X b (tE G W mb)) (ha : PE X a (tE G W ma)) (hm : behindInMarks .NotIn a = false) : PT X (.Compare b [.NotIn] [a] pos) (tT G W (mTest (mDIn true mb ma))) := (pt_cmp (pc_dnotin hr hb ha) hm).imp (snd_test snd_dnin)
theorem keys_rv {μ : List Addr} {H : Hp} : ∀ {kvs : List (Key × D)} {ws : List (Key × V)}, ws.map (·.1) = kvs.map (·.1) → RVs G μ H (kvs.map fun kv => keyO kv.1) (ws.map fun kv => kV kv.1)
  | [], [], _ => RVs.nil
  | [], w :: ws, e => by cases e
  | k :: kvs, [], e => by cases e
  | k :: kvs, w :: ws, e => by
    simp only [List.map_cons, List.cons.injEq] at e
    simp only [List.map_cons]
    refine RVs.cons ?_ (keys_rv e.2)
    rw [e.1]
    cases k.1 with
    | inl i => simp only [keyO, RV]; rfl
    | inr s => simp only [keyO, RV]; rfl
theorem keysD_get {x : D} {h : DH} {ys : List D} (e : keysD x h = some ys) : ∃ n kvs, x = .ref n ∧ h[n]? = some (.dK kvs) ∧ ys = kvs.map fun kv => keyO kv.1 := by
  unfold keysD at e
  cases x with
  | ref n =>
    cases q : h[n]? with
    | none => simp only [q] at e; cases e
    | some ob =>
      cases ob with
      | dK kvs => simp only [q] at e; cases e; exact ⟨n, kvs, rfl, q, rfl⟩
      | _ => simp only [q] at e; cases e
  | _ => cases e
theorem s_dkeys : CallS G rDKeys dkeysD := fun W ds μ h H xs vs Q w rs p => by
  unfold dkeysD at p
  match xs, rs, p with
  | [x], rs, p =>
    obtain ⟨v, ws, rfl, r1, r2⟩ := RVs.un rs
    simp only [RVs] at r2
    subst r2
    cases q0 : keysD x h with
    | none => simp only [q0] at p; exact p.elim
    | some ys =>
      simp only [q0] at p
      obtain ⟨n, kvs, rfl, q, rfl⟩ := keysD_get q0
      obtain ⟨a, ws, rfl, ha, h1, h2, h3⟩ := dk_at w r1 q
      exact ⟨a, ws, rfl, .inl h1, new_lst w (keys_rv h2) p⟩
end
end Mi
/-! name = {k: v for ..} on one line -/
namespace L2
open PySem PySem.Spec PyProof.Rows
section
variable {X : Cx}
theorem ps_setDc {i : Nat} {y : Str} {py : Pos} {kx vx tg iter : Expr} {ifs : List Expr} {scope : Scope} {own : List (Str × Nat)} {pos spos : Pos} {wi : TI} {g : TG} {tt : TT} {tk tv : TE} (hc : X.calm = true) (hN : X.N.Nodup) (hy : X.N[i]? = some y) (hyl : X.env.scope.names.lookup y = some .local)
    (hsw : swapsWith (.DictComp kx vx [⟨tg, iter, ifs, 0⟩] scope pos) (some (.Name y py)) spos.line X.env = pure true) (hi : PI X tg iter wi) (ok : BlkOk X.N X.env.scope scope own)
    (hg : ∀ (s : Shared) (H : Hp) (C : Addr) (cl : List (Str × Addr)) (fp : List Addr), PG (X.blk s H scope (compEnvC scope cl C X.env) fp) tg g) (ht : ∀ (s : Shared) (H : Hp) (C : Addr) (cl : List (Str × Addr)) (fp : List Addr), PTs (X.blk s H scope (compEnvC scope cl C X.env) fp) ifs tt)
    (hk : ∀ (s : Shared) (H : Hp) (C : Addr) (cl : List (Str × Addr)) (fp : List Addr), PE (X.blk s H scope (compEnvC scope cl C X.env) fp) kx tk)
    (he : ∀ (s : Shared) (H : Hp) (C : Addr) (cl : List (Str × Addr)) (fp : List Addr), PE (X.blk s H scope (compEnvC scope cl C X.env) fp) vx tv) (hs : ∀ x, foldedSetIterable iter X.env x = pure x := by intro _; rfl) :
    PS X (.Assign [.Name y py] (.DictComp kx vx [⟨tg, iter, ifs, 0⟩] scope pos) spos) (tAsg (tDc wi g tt tk tv (own.map (·.2))) (gName i)) := by
  refine ⟨fun pins s σ H D I h => ?_⟩
  rw [exec_Assign_Name_used _ _ _ _ hsw]
  refine wpAny_bind (wpAny_standAt (wpAny_bind ?_))
  have h : tDc wi g tt tk tv (own.map (·.2)) σ H (fun x H1 => gName i x σ H1 D.nx) := h
  have core := dc_core (pos := pos) (pos' := firstIterPos [⟨tg, iter, ifs, 0⟩] pos) (use := some (assign (.Name y py) X.env)) (Qf := fun _ s' => SP X pins D .next s') hc hN I hi ok hg ht hk he hs h fun L C s' m H' I' q hn f => by
    show wpAny _ _ (assign (.Name y py) X.env (.ref L)) _ _ _
    refine wpAny_assign_Name (store_ok2 (v := V.ref L) I' hN hy (.inl hyl) rfl (fun s2 I2 ⟨a, sb, ha⟩ => ?_) (.inr hyl))
    obtain ⟨f0, f1, f2, f3, f4, f5⟩ := f
    have haC : C ≠ a := by
      rcases ha with z | z
      · rw [z]; exact f1
      · exact fun e => f4 y a z e.symm
    exact ⟨m, hn.sameBut sb haC, fun h3 sb3 => ⟨_, H', I2.turned (t' := s2.toks) (fun b o hb e => (sb3.2 b hb).trans e) f0 f1 f3 f4 f5, q⟩⟩
  exact wpAny_bind (thn core fun _ s' hq => wpAny_pure (wpAny_pure hq))
theorem sw_trueD {kx vx : Expr} {gs : List Comprehension} {scope : Scope} {pos py : Pos} {y : Str} {l : Nat} {env : Env} (hk : env.scope.kind = .function) (hy : env.scope.names.lookup y = some .local) (hl : (py.line == pos.line) = true)
    (ha : (scope.names.any fun (n, k) => n == y && (k == .local || k == .cell)) = false) : swapsWith (.DictComp kx vx gs scope pos) (some (.Name y py)) l env = pure true := by
  have ky : env.kindOf y = some .local := hy
  have hb : env.blockKind = .function := by unfold Env.blockKind; rw [hk]; rfl
  unfold swapsWith
  simp only [hb, ky, ha, Expr.pos, hl]
  rfl
end
end L2
namespace Mi
open PySem L2
section
variable {G : Cw} {X : Cx} {W WF : WX}
theorem sm_setDc {st : Stmt} {i : Nat} {mi : IM} {g : PTg} {mt : TM} {mk mv : EM} {vs : List Nat} (hj : ptIn vs g = true) (h : PS X st (tAsg (tDc (tI G W mi) (ptG G.K g) (tT G Mi.WF mt) (tE G Mi.WF mk) (tE G Mi.WF mv) vs) (gName i))) : PS X st (tS G W (sAsg (mDc mi g mt mk mv vs) (gNm i))) := h.imp fun E σ H ⟨μ, ds, h, w, rs, p⟩ =>
  snd_dc hj σ H _ ⟨μ, ds, h, w, rs, post_st p fun x h1 μ1 v H1 e1 w1 r1 p1 => p1 μ1 (σ.set i (some v)) H1 Ext.refl w1 ((rs.mono e1).set i r1)⟩
end
end Mi
/-! what a run satisfies: a calculus over data alone -/
namespace Mi
open PySem L2
def SatE {α : Type} (r : Res α) (P : α → DH → Prop) : Prop := match r with | .ok a h => P a h | _ => False
/-- next and continue, break, return -/
def SatL (r : RS) (C B : DSt → DH → Prop) (R : D → DH → Prop) : Prop := match r with | .nx s h => C s h | .ct s h => C s h | .bk s h => B s h | .rt d h => R d h | _ => False
abbrev NoB : DSt → DH → Prop := fun _ _ => False
section
variable {α β : Type} {P : α → DH → Prop} {C B : DSt → DH → Prop} {R : D → DH → Prop} {ds : DSt} {h : DH}
theorem satE_ok {a : α} : SatE (.ok a h) P ↔ P a h := Iff.rfl
theorem SatE.of_eq {r : Res α} {a : α} (e : r = .ok a h) (p : P a h) : SatE r P := by rw [e]; exact p
theorem SatE.imp {r : Res α} {Q : α → DH → Prop} (s : SatE r P) (k : ∀ a h, P a h → Q a h) : SatE r Q := by
  cases r with
  | ok a h => exact k a h s
  | exc e h => exact s
  | no => exact s
theorem SatE.eq {r : Res α} (s : SatE r P) : ∃ a h, r = .ok a h ∧ P a h := by
  cases r with
  | ok a h => exact ⟨a, h, rfl, s⟩
  | exc e h => exact s.elim
  | no => exact s.elim
theorem SatL.imp {r : RS} {C' B' : DSt → DH → Prop} {R' : D → DH → Prop} (s : SatL r C B R) (k : ∀ a h, C a h → C' a h) (kb : ∀ a h, B a h → B' a h) (kr : ∀ a h, R a h → R' a h) : SatL r C' B' R' := by
  cases r with
  | nx a h => exact k a h s
  | ct a h => exact k a h s
  | bk a h => exact kb a h s
  | rt a h => exact kr a h s
  | exc e s' h => exact s
  | no => exact s
theorem satE_bind {Q : β → DH → Prop} {r : Res α} {f : α → DH → Res β} : SatE (r.bind f) Q ↔ SatE r fun a h => SatE (f a h) Q := by
  cases r <;> exact Iff.rfl
theorem satE_ite {c : Prop} [Decidable c] {r : Res α} : SatE (if c then r else .no) P ↔ c ∧ SatE r P := by
  by_cases q : c
  · rw [if_pos q]; exact ⟨fun x => ⟨q, x⟩, fun x => x.2⟩
  · rw [if_neg q]; exact ⟨fun x => x.elim, fun x => q x.1⟩
theorem satL_st {r : Res α} {k : α → DH → RS} : SatL (r.st ds k) C B R ↔ SatE r fun a h => SatL (k a h) C B R := by
  cases r <;> exact Iff.rfl
/-! expressions -/
variable {PD : D → DH → Prop} {PB : Bool → DH → Prop} {PL : List D → DH → Prop} {PO : Option Int → DH → Prop}
theorem w_c {d : D} : SatE (mC d ds h) PD ↔ PD d h := Iff.rfl
theorem w_var {i : Nat} : SatE (mVar i ds h) PD ↔ match ds.getD i none with | some d => PD d h | none => False := by
  unfold mVar
  cases ds.getD i none <;> exact Iff.rfl
theorem w_op {f : D → D → DH → Res D} {a b : EM} : SatE (mOp f a b ds h) PD ↔ SatE (a ds h) fun x h1 => SatE (b ds h1) fun y h2 => SatE (f x y h2) PD := by
  unfold mOp
  rw [satE_bind]
  simp only [satE_bind]
theorem w_un {f : D → DH → Res D} {a : EM} : SatE (mUn f a ds h) PD ↔ SatE (a ds h) fun x h1 => SatE (f x h1) PD := satE_bind
theorem w_nil : SatE (aNil ds h) PL ↔ PL [] h := Iff.rfl
theorem w_cons {a : EM} {r : AM} : SatE (aCons a r ds h) PL ↔ SatE (a ds h) fun x h1 => SatE (r ds h1) fun xs h2 => PL (x :: xs) h2 := by
  unfold aCons
  rw [satE_bind]
  simp only [satE_bind, satE_ok]
theorem w_tup {a : AM} : SatE (mTup a ds h) PD ↔ SatE (a ds h) fun xs h1 => xs.length ≤ 16777216 ∧ PD (.tup xs) h1 := by
  unfold mTup
  rw [satE_bind]
  simp only [satE_ite, satE_ok]
theorem w_lst {a : AM} : SatE (mLst a ds h) PD ↔ SatE (a ds h) fun xs h1 => xs.length ≤ 16777216 ∧ PD (.ref h1.length) (h1 ++ [.lst xs]) := by
  unfold mLst
  rw [satE_bind]
  simp only [satE_ite, satE_ok]
theorem w_cb {f : List D → DH → Res D} {a : AM} : SatE (mCB f a ds h) PD ↔ SatE (a ds h) fun xs h1 => SatE (f xs h1) PD := satE_bind
theorem w_test {a : EM} : SatE (mTest a ds h) PB ↔ SatE (a ds h) fun x h1 => ∃ b, x = .bl b ∧ PB b h1 := by
  unfold mTest
  rw [satE_bind]
  cases a ds h with
  | ok x h1 =>
    show SatE (match x with | .bl b => .ok b h1 | _ => .no) PB ↔ ∃ b, x = .bl b ∧ PB b h1
    cases x with
    | bl b => exact ⟨fun p => ⟨b, rfl, p⟩, fun ⟨c, e, p⟩ => by cases e; exact p⟩
    | _ => exact ⟨fun p => p.elim, fun ⟨c, e, p⟩ => by cases e⟩
  | exc e h => exact Iff.rfl
  | no => exact Iff.rfl
theorem w_bl {b : Bool} {Q : Bool → Prop} : (∃ c, D.bl b = D.bl c ∧ Q c) ↔ Q b := ⟨fun ⟨c, e, p⟩ => by cases e; exact p, fun p => ⟨b, rfl, p⟩⟩
theorem w_not {t : TM} : SatE (mNot t ds h) PB ↔ SatE (t ds h) fun b h1 => PB (!b) h1 := by
  unfold mNot; rw [satE_bind]; exact Iff.rfl
theorem w_and {t u : TM} : SatE (mAnd t u ds h) PB ↔ SatE (t ds h) fun b h1 => if b then SatE (u ds h1) PB else PB false h1 := by
  unfold mAnd
  rw [satE_bind]
  cases t ds h with
  | ok b h1 => cases b <;> exact Iff.rfl
  | exc e h => exact Iff.rfl
  | no => exact Iff.rfl
theorem w_or {t u : TM} : SatE (mOr t u ds h) PB ↔ SatE (t ds h) fun b h1 => if b then PB true h1 else SatE (u ds h1) PB := by
  unfold mOr
  rw [satE_bind]
  cases t ds h with
  | ok b h1 => cases b <;> exact Iff.rfl
  | exc e h => exact Iff.rfl
  | no => exact Iff.rfl
theorem w_notV {a : EM} : SatE (mNotV a ds h) PD ↔ SatE (a ds h) fun x h1 => ∃ b, x = .bl b ∧ PD (.bl (!b)) h1 := by
  unfold mNotV
  rw [satE_bind]
  cases a ds h with
  | ok x h1 =>
    cases x with
    | bl b => exact ⟨fun p => ⟨b, rfl, p⟩, fun ⟨c, e, p⟩ => by cases e; exact p⟩
    | _ => exact ⟨fun p => p.elim, fun ⟨c, e, p⟩ => by cases e⟩
  | exc e h => exact Iff.rfl
  | no => exact Iff.rfl
theorem w_andV {a b : EM} : SatE (mAndV a b ds h) PD ↔ SatE (a ds h) fun x h1 => ∃ c, x = .bl c ∧ if c then SatE (b ds h1) PD else PD (.bl false) h1 := by
  unfold mAndV
  rw [satE_bind]
  cases a ds h with
  | ok x h1 =>
    cases x with
    | bl c => cases c <;> exact ⟨fun p => ⟨_, rfl, p⟩, fun ⟨d, e, p⟩ => by cases e; exact p⟩
    | _ => exact ⟨fun p => p.elim, fun ⟨c, e, p⟩ => by cases e⟩
  | exc e h => exact Iff.rfl
  | no => exact Iff.rfl
theorem w_orV {a b : EM} : SatE (mOrV a b ds h) PD ↔ SatE (a ds h) fun x h1 => ∃ c, x = .bl c ∧ if c then PD (.bl true) h1 else SatE (b ds h1) PD := by
  unfold mOrV
  rw [satE_bind]
  cases a ds h with
  | ok x h1 =>
    cases x with
    | bl c => cases c <;> exact ⟨fun p => ⟨_, rfl, p⟩, fun ⟨d, e, p⟩ => by cases e; exact p⟩
    | _ => exact ⟨fun p => p.elim, fun ⟨c, e, p⟩ => by cases e⟩
  | exc e h => exact Iff.rfl
  | no => exact Iff.rfl
theorem w_if {t : TM} {a b : EM} : SatE (mIf t a b ds h) PD ↔ SatE (t ds h) fun c h1 => if c then SatE (a ds h1) PD else SatE (b ds h1) PD := by
  unfold mIf
  rw [satE_bind]
  cases t ds h with
  | ok c h1 => cases c <;> exact Iff.rfl
  | exc e h => exact Iff.rfl
  | no => exact Iff.rfl
theorem w_yes : SatE (mYes ds h) PB ↔ PB true h := Iff.rfl
theorem w_oN : SatE (oNone ds h) PO ↔ PO none h := Iff.rfl
theorem w_oS {a : EM} : SatE (oSome a ds h) PO ↔ SatE (a ds h) fun x h1 => ∃ i, x = .int i ∧ PO (some i) h1 := by
  unfold oSome
  rw [satE_bind]
  cases a ds h with
  | ok x h1 =>
    cases x with
    | int i => exact ⟨fun p => ⟨i, rfl, p⟩, fun ⟨c, e, p⟩ => by cases e; exact p⟩
    | _ => exact ⟨fun p => p.elim, fun ⟨c, e, p⟩ => by cases e⟩
  | exc e h => exact Iff.rfl
  | no => exact Iff.rfl
theorem w_ie {i : Int} {Q : Int → Prop} : (∃ j, D.int i = D.int j ∧ Q j) ↔ Q i := ⟨fun ⟨c, e, p⟩ => by cases e; exact p, fun p => ⟨i, rfl, p⟩⟩
theorem w_sl {f : D → Option Int → Option Int → DH → Res D} {a : EM} {lo hi : DSt → DH → Res (Option Int)} : SatE (mSl f a lo hi ds h) PD ↔ SatE (a ds h) fun x h1 => SatE (lo ds h1) fun l h2 => SatE (hi ds h2) fun u h3 => SatE (f x l u h3) PD := by
  unfold mSl
  rw [satE_bind]
  simp only [satE_bind]
theorem w_mt {T : String} {f : D → List D → DH → Res D} {o : EM} {a : AM} : SatE (mMt T f o a ds h) PD ↔ SatE (o ds h) fun x h1 => isTy T x h1 = true ∧ SatE (a ds h1) fun xs h2 => SatE (f x xs h2) PD := by
  unfold mMt
  rw [satE_bind]
  simp only [satE_ite, satE_bind]
theorem w_isi {T : Ty} {a : EM} : SatE (mIsi T a ds h) PD ↔ SatE (a ds h) fun x h1 => ∃ S, tyD x h1 = some S ∧ PD (.bl (subTy S T)) h1 := by
  unfold mIsi
  rw [satE_bind]
  cases a ds h with
  | ok x h1 =>
    show SatE (match tyD x h1 with | some S => .ok (.bl (subTy S T)) h1 | none => .no) PD ↔ _
    cases q : tyD x h1 with
    | none => exact ⟨fun p => p.elim, fun ⟨S, e, p⟩ => by rw [q] at e; cases e⟩
    | some S => exact ⟨fun p => ⟨S, q, p⟩, fun ⟨S', e, p⟩ => by rw [q] at e; cases e; exact p⟩
  | exc e h => exact Iff.rfl
  | no => exact Iff.rfl
theorem w_chain {f g : D → D → DH → Res D} {a b c : EM} : SatE (mChain f g a b c ds h) PD ↔ SatE (a ds h) fun x h1 => SatE (b ds h1) fun y h2 => SatE (f x y h2) fun z h3 => ∃ k, z = .bl k ∧ if k then SatE (c ds h3) fun w h4 => SatE (g y w h4) PD else PD (.bl false) h3 := by
  unfold mChain
  rw [satE_bind]
  cases a ds h with
  | ok x h1 =>
    show SatE ((b ds h1).bind _) PD ↔ SatE (b ds h1) _
    rw [satE_bind]
    cases b ds h1 with
    | ok y h2 =>
      show SatE ((f x y h2).bind _) PD ↔ SatE (f x y h2) _
      rw [satE_bind]
      cases f x y h2 with
      | ok z h3 =>
        cases z with
        | bl k =>
          cases k with
          | true =>
            show SatE ((c ds h3).bind fun w h4 => g y w h4) PD ↔ ∃ k, D.bl true = D.bl k ∧ _
            rw [satE_bind]
            exact ⟨fun p => ⟨true, rfl, p⟩, fun ⟨k, e, p⟩ => by cases e; exact p⟩
          | false => exact ⟨fun p => ⟨false, rfl, p⟩, fun ⟨k, e, p⟩ => by cases e; exact p⟩
        | _ => exact ⟨fun p => p.elim, fun ⟨c, e, p⟩ => by cases e⟩
      | exc e h => exact Iff.rfl
      | no => exact Iff.rfl
    | exc e h => exact Iff.rfl
    | no => exact Iff.rfl
  | exc e h => exact Iff.rfl
  | no => exact Iff.rfl
/-! statements -/
theorem w_next : SatL (sNext ds h) C B R ↔ C ds h := Iff.rfl
theorem w_seq {a b : SM} : SatL (sSeq a b ds h) C B R ↔ match a ds h with | .nx ds' h' => SatL (b ds' h') C B R | r => SatL r C B R := by
  unfold sSeq
  cases a ds h <;> exact Iff.rfl
/-- a sequence, where the first part neither breaks nor goes on with the next turn -/
def SatN (r : RS) (N : DSt → DH → Prop) (C B : DSt → DH → Prop) (R : D → DH → Prop) : Prop := match r with | .nx s h => N s h | .ct s h => C s h | .bk s h => B s h | .rt d h => R d h | _ => False
variable {N : DSt → DH → Prop}
theorem n_of : SatL (r : RS) C B R ↔ SatN r C C B R := by cases r <;> exact Iff.rfl
theorem n_next : SatN (sNext ds h) N C B R ↔ N ds h := Iff.rfl
theorem n_seq {a b : SM} : SatN (sSeq a b ds h) N C B R ↔ SatN (a ds h) (fun ds' h' => SatN (b ds' h') N C B R) C B R := by
  unfold sSeq
  cases a ds h <;> exact Iff.rfl
theorem n_st {r : Res α} {k : α → DH → RS} : SatN (r.st ds k) N C B R ↔ SatE r fun a h => SatN (k a h) N C B R := by
  cases r <;> exact Iff.rfl
theorem n_set {e : EM} {i : Nat} : SatN (sAsg e (gNm i) ds h) N C B R ↔ SatE (e ds h) fun d h1 => N (ds.set i (some d)) h1 := by
  unfold sAsg; rw [n_st]; exact Iff.rfl
theorem n_asg {e : EM} {g : GM} : SatN (sAsg e g ds h) N C B R ↔ SatE (e ds h) fun d h1 => match g d ds h1 with | some p => N p.1 p.2 | none => False := by
  unfold sAsg
  rw [n_st]
  cases e ds h with
  | ok d h1 =>
    show SatN (match g d ds h1 with | some p => .nx p.1 p.2 | none => .no) N C B R ↔ match g d ds h1 with | some p => N p.1 p.2 | none => False
    cases g d ds h1 <;> exact Iff.rfl
  | exc e h => exact Iff.rfl
  | no => exact Iff.rfl
theorem n_drop {e : EM} : SatN (sDrop e ds h) N C B R ↔ SatE (e ds h) fun _ h1 => N ds h1 := by unfold sDrop; rw [n_st]; exact Iff.rfl
theorem n_ret {e : EM} : SatN (sRet e ds h) N C B R ↔ SatE (e ds h) fun d h1 => R d h1 := by unfold sRet; rw [n_st]; exact Iff.rfl
theorem n_retN : SatN (sRetN ds h) N C B R ↔ R .non h := Iff.rfl
theorem n_brk : SatN (sBrk ds h) N C B R ↔ B ds h := Iff.rfl
theorem n_cnt : SatN (sCnt ds h) N C B R ↔ C ds h := Iff.rfl
theorem n_if {t : TM} {a b : SM} : SatN (sIf t a b ds h) N C B R ↔ SatE (t ds h) fun c h1 => if c then SatN (a ds h1) N C B R else SatN (b ds h1) N C B R := by
  unfold sIf
  rw [n_st]
  cases t ds h with
  | ok c h1 => cases c <;> exact Iff.rfl
  | exc e h => exact Iff.rfl
  | no => exact Iff.rfl
theorem n_aug {i : Nat} {f : D → D → DH → Res D} {e : EM} : SatN (sAug i f e ds h) N C B R ↔ match ds.getD i none with | some x => SatE (e ds h) fun y h1 => SatE (f x y h1) fun z h2 => N (ds.set i (some z)) h2 | none => False := by
  unfold sAug
  cases ds.getD i none with
  | none => exact Iff.rfl
  | some x =>
    show SatN ((e ds h).st ds _) N C B R ↔ SatE (e ds h) _
    rw [n_st]
    cases e ds h with
    | ok y h1 => show SatN ((f x y h1).st ds _) N C B R ↔ SatE (f x y h1) _; rw [n_st]; exact Iff.rfl
    | exc e h => exact Iff.rfl
    | no => exact Iff.rfl
theorem SatN.imp {r : RS} {N' C' B' : DSt → DH → Prop} {R' : D → DH → Prop} (s : SatN r N C B R) (kn : ∀ a h, N a h → N' a h) (k : ∀ a h, C a h → C' a h) (kb : ∀ a h, B a h → B' a h) (kr : ∀ a h, R a h → R' a h) : SatN r N' C' B' R' := by
  cases r with
  | nx a h => exact kn a h s
  | ct a h => exact k a h s
  | bk a h => exact kb a h s
  | rt a h => exact kr a h s
  | exc e s' h => exact s
  | no => exact s
/-- a def -/
theorem w_def {ar n : Nat} {b : SM} {xs : List D} (hl : xs.length = ar) (s : SatN (b (xs.map some ++ List.replicate (n - xs.length) none) h) (fun _ h' => PD .non h') NoB NoB PD) : SatE (runF ar n b xs h) PD := by
  unfold runF runB
  rw [if_pos hl]
  cases q : b (xs.map some ++ List.replicate (n - xs.length) none) h with
  | nx ds' h' => rw [q] at s; exact s
  | rt d h' => rw [q] at s; exact s
  | ct ds' h' => rw [q] at s; exact s.elim
  | bk ds' h' => rw [q] at s; exact s.elim
  | exc e ds' h' => rw [q] at s; exact s.elim
  | no => rw [q] at s; exact s.elim
/-! loops -/
theorem for_items {it : Itd} {g : GM} {b : SM} {xs : List D} (I : Nat → DSt → DH → Prop) (hit : ∀ i ds h, i ≤ xs.length → I i ds h → it.at_ i h = some xs[i]?)
    (turn : ∀ i x ds h, xs[i]? = some x → I i ds h → match g x ds h with | some p => SatN (b p.1 p.2) (I (i + 1)) (I (i + 1)) N R | none => False)
    (done : ∀ ds h, I xs.length ds h → N ds h) : ∀ (k i : Nat) (ds : DSt) (h : DH), k + i = xs.length + 1 → i ≤ xs.length → I i ds h → SatN (forN it g b k i ds h) N C B R := by
  intro k
  induction k with
  | zero => intro i ds h e l p; omega
  | succ k ih =>
    intro i ds h e l p
    simp only [forN]
    rw [hit i ds h l p]
    cases q : xs[i]? with
    | none =>
      have : xs.length ≤ i := List.getElem?_eq_none_iff.mp q
      have e2 : i = xs.length := by omega
      subst e2
      exact done ds h p
    | some x =>
      have hl : i < xs.length := (List.getElem?_eq_some_iff.mp q).1
      have t := turn i x ds h q p
      cases q2 : g x ds h with
      | none => rw [q2] at t; exact t.elim
      | some p2 =>
        rw [q2] at t
        have t : SatN (b p2.1 p2.2) (I (i + 1)) (I (i + 1)) N R := t
        simp only [q2]
        cases q3 : b p2.1 p2.2 with
        | nx ds' h' => rw [q3] at t; exact ih (i + 1) ds' h' (by omega) hl t
        | ct ds' h' => rw [q3] at t; exact ih (i + 1) ds' h' (by omega) hl t
        | bk ds' h' => rw [q3] at t; exact t
        | rt d h' => rw [q3] at t; exact t
        | exc e2 s h' => rw [q3] at t; exact t.elim
        | no => rw [q3] at t; exact t.elim
theorem n_for {mi : IM} {g : GM} {b : SM} : SatN (sFor mi g b ds h) N C B R ↔ SatE (mi ds h) fun it h1 => SatN (forN it g b (it.len h1 + 1) 0 ds h1) N C B R := by unfold sFor; exact n_st
theorem w_r1 {e : EM} {P : Itd → DH → Prop} : SatE (iR1 e ds h) P ↔ SatE (e ds h) fun d h1 => ∃ j, d = .int j ∧ (-(2 ^ 62) ≤ j ∧ j < 2 ^ 62) ∧ P (.rng 0 j.toNat) h1 := by
  unfold iR1
  rw [satE_bind]
  cases e ds h with
  | ok d h1 =>
    cases d with
    | int j =>
      show SatE (if -(2 ^ 62) ≤ j ∧ j < 2 ^ 62 then Res.ok (Itd.rng 0 j.toNat) h1 else .no) P ↔ _
      rw [satE_ite]
      exact ⟨fun p => ⟨j, rfl, p.1, p.2⟩, fun ⟨i, e, p1, p2⟩ => by cases e; exact ⟨p1, p2⟩⟩
    | _ => exact ⟨fun p => p.elim, fun ⟨c, e, p⟩ => by cases e⟩
  | exc e h => exact Iff.rfl
  | no => exact Iff.rfl
theorem w_r2 {e f : EM} {P : Itd → DH → Prop} : SatE (iR2 e f ds h) P ↔ SatE (e ds h) fun d h1 => SatE (f ds h1) fun u h2 => ∃ i j, d = .int i ∧ u = .int j ∧ (-(2 ^ 62) ≤ i ∧ i < 2 ^ 62 ∧ -(2 ^ 62) ≤ j ∧ j < 2 ^ 62) ∧ P (.rng i (j - i).toNat) h2 := by
  unfold iR2
  rw [satE_bind]
  cases e ds h with
  | ok d h1 =>
    show SatE ((f ds h1).bind _) P ↔ SatE (f ds h1) _
    rw [satE_bind]
    cases f ds h1 with
    | ok u h2 =>
      cases d with
      | int i =>
        cases u with
        | int j =>
          show SatE (if -(2 ^ 62) ≤ i ∧ i < 2 ^ 62 ∧ -(2 ^ 62) ≤ j ∧ j < 2 ^ 62 then Res.ok (Itd.rng i (j - i).toNat) h2 else .no) P ↔ ∃ i' j', D.int i = D.int i' ∧ D.int j = D.int j' ∧ _
          rw [satE_ite]
          exact ⟨fun p => ⟨i, j, rfl, rfl, p.1, p.2⟩, fun ⟨i, j, e1, e2, p1, p2⟩ => by cases e1; cases e2; exact ⟨p1, p2⟩⟩
        | _ => exact ⟨fun p => p.elim, fun ⟨_, _, _, e, _⟩ => by cases e⟩
      | _ => exact ⟨fun p => by cases u <;> exact p.elim, fun ⟨_, _, e, _⟩ => by cases e⟩
    | exc e h => exact Iff.rfl
    | no => exact Iff.rfl
  | exc e h => exact Iff.rfl
  | no => exact Iff.rfl
theorem w_seqT {e : EM} {P : Itd → DH → Prop} {xs : List D} (s : SatE (e ds h) fun d h1 => d = .tup xs ∧ P (.tup xs) h1) : SatE (iSeq e ds h) P := by
  unfold iSeq
  rw [satE_bind]
  exact s.imp fun d h1 ⟨e1, p⟩ => by subst e1; exact p
theorem w_seqL {e : EM} {P : Itd → DH → Prop} {n : Nat} {xs : List D} (s : SatE (e ds h) fun d h1 => d = .ref n ∧ itemsD (.ref n) h1 = some xs ∧ P (.lst n) h1) : SatE (iSeq e ds h) P := by
  unfold iSeq
  rw [satE_bind]
  refine s.imp fun d h1 ⟨e1, e2, p⟩ => ?_
  subst e1
  show SatE (match h1[n]? with | some (.lst _) => .ok (.lst n) h1 | some (.fro _) => .ok (.lst n) h1 | _ => .no) P
  simp only [itemsD] at e2
  cases q : h1[n]? with
  | none => simp only [q] at e2; cases e2
  | some o =>
    cases o with
    | lst ys => exact p
    | fro ys => exact p
    | dK ys => simp only [q] at e2; cases e2
    | ins c ys => simp only [q] at e2; cases e2
theorem at_lst {n i : Nat} {xs : List D} (e : itemsD (.ref n) h = some xs) : (Itd.lst n).at_ i h = some xs[i]? ∧ (Itd.lst n).len h = xs.length := by
  simp only [itemsD] at e
  simp only [Itd.at_, Itd.len]
  cases q : h[n]? with
  | none => simp only [q] at e; cases e
  | some o =>
    simp only [q] at e
    cases o <;> first | (cases e; exact ⟨rfl, rfl⟩) | cases e
/-- over lo, lo + 1, .. -/
theorem for_rng {lo : Int} {n : Nat} {g : GM} {b : SM} (I : Nat → DSt → DH → Prop) (start : I 0 ds h)
    (turn : ∀ i ds h, i < n → I i ds h → match g (.int (lo + (i : Nat))) ds h with | some p => SatN (b p.1 p.2) (I (i + 1)) (I (i + 1)) N R | none => False)
    (done : ∀ ds h, I n ds h → N ds h) : SatN (forN (.rng lo n) g b ((Itd.rng lo n).len h + 1) 0 ds h) N C B R := by
  have hx : ∀ i, ((List.range n).map fun i : Nat => D.int (lo + (i : Nat)))[i]? = if i < n then some (.int (lo + (i : Nat))) else none := fun i => by
    rw [List.getElem?_map]
    by_cases q : i < n
    · rw [List.getElem?_range q, if_pos q]; rfl
    · rw [if_neg q, List.getElem?_eq_none (by simpa using q)]; rfl
  have hl : ((List.range n).map fun i : Nat => D.int (lo + (i : Nat))).length = n := by simp
  refine for_items (xs := (List.range n).map fun i : Nat => D.int (lo + (i : Nat))) I (fun i ds h _ _ => ?_) (fun i x ds h e p => ?_) (fun ds h p => done ds h (by rw [hl] at p; exact p)) _ 0 ds h (by rw [hl]; rfl) (Nat.zero_le _) start
  · rw [hx]
    simp only [Itd.at_]
    by_cases q : i < n
    · rw [if_pos q, if_pos q]
    · rw [if_neg q, if_neg q]
  · rw [hx] at e
    by_cases q : i < n
    · rw [if_pos q] at e; cases e; exact turn i ds h q p
    · rw [if_neg q] at e; cases e
theorem for_tup {xs : List D} {g : GM} {b : SM} (I : Nat → DSt → DH → Prop) (start : I 0 ds h)
    (turn : ∀ i x ds h, xs[i]? = some x → I i ds h → match g x ds h with | some p => SatN (b p.1 p.2) (I (i + 1)) (I (i + 1)) N R | none => False)
    (done : ∀ ds h, I xs.length ds h → N ds h) : SatN (forN (.tup xs) g b ((Itd.tup xs).len h + 1) 0 ds h) N C B R :=
  for_items I (fun _ _ _ _ _ => rfl) turn done _ 0 ds h rfl (Nat.zero_le _) start
theorem for_lst {n : Nat} {xs : List D} {g : GM} {b : SM} (I : Nat → DSt → DH → Prop) (start : I 0 ds h) (stay : ∀ i ds h, I i ds h → itemsD (.ref n) h = some xs)
    (turn : ∀ i x ds h, xs[i]? = some x → I i ds h → match g x ds h with | some p => SatN (b p.1 p.2) (I (i + 1)) (I (i + 1)) N R | none => False)
    (done : ∀ ds h, I xs.length ds h → N ds h) : SatN (forN (.lst n) g b ((Itd.lst n).len h + 1) 0 ds h) N C B R := by
  refine for_items I (fun i ds h _ p => (at_lst (stay i ds h p)).1) turn done _ 0 ds h ?_ (Nat.zero_le _) start
  rw [(at_lst (i := 0) (stay 0 ds h start)).2]
theorem while_n {t : TM} {b : SM} (I : Nat → DSt → DH → Prop)
    (turn : ∀ m ds h, I m ds h → SatE (t ds h) fun c h1 => if c then SatN (b ds h1) (fun ds' h' => ∃ m', m' < m ∧ I m' ds' h') (fun ds' h' => ∃ m', m' < m ∧ I m' ds' h') N R else N ds h1) :
    ∀ (k m : Nat) (ds : DSt) (h : DH), m < k → I m ds h → SatN (whileN t b k ds h) N C B R := by
  intro k
  induction k with
  | zero => intro m ds h l; omega
  | succ k ih =>
    intro m ds h l p
    show SatN ((t ds h).st ds _) N C B R
    rw [n_st]
    refine (turn m ds h p).imp fun c h1 q => ?_
    cases c with
    | false => exact q
    | true =>
      have q : SatN (b ds h1) (fun ds' h' => ∃ m', m' < m ∧ I m' ds' h') (fun ds' h' => ∃ m', m' < m ∧ I m' ds' h') N R := q
      show SatN (match b ds h1 with | .nx ds' h' => whileN t b k ds' h' | .ct ds' h' => whileN t b k ds' h' | .bk ds' h' => .nx ds' h' | r => r) N C B R
      cases q3 : b ds h1 with
      | nx ds' h' => rw [q3] at q; obtain ⟨m', l', p'⟩ := q; exact ih m' ds' h' (by omega) p'
      | ct ds' h' => rw [q3] at q; obtain ⟨m', l', p'⟩ := q; exact ih m' ds' h' (by omega) p'
      | bk ds' h' => rw [q3] at q; exact q
      | rt d h' => rw [q3] at q; exact q
      | exc e2 s h' => rw [q3] at q; exact q.elim
      | no => rw [q3] at q; exact q.elim
/-! heaps -/
def Keep (h h' : DH) : Prop := ∀ (n : Nat) o, h[n]? = some o → h'[n]? = some o
theorem Keep.refl (h : DH) : Keep h h := fun _ _ e => e
theorem Keep.trans {h1 h2 h3 : DH} (a : Keep h1 h2) (b : Keep h2 h3) : Keep h1 h3 := fun n o e => b n o (a n o e)
theorem Keep.app (h l : DH) : Keep h (h ++ l) := fun n o e => by
  rw [List.getElem?_append_left (List.getElem?_eq_some_iff.mp e).1]; exact e
theorem Keep.len {h h' : DH} (k : Keep h h') : h.length ≤ h'.length := by
  cases hl : h.length with
  | zero => exact Nat.zero_le _
  | succ n =>
    have : n < h.length := by omega
    have q := k n h[n] (by simp [this])
    have := (List.getElem?_eq_some_iff.mp q).1
    omega
theorem Keep.set {h h' : DH} (k : Keep h h') {n : Nat} {o : DO} (hn : h.length ≤ n) : Keep h (h'.set n o) := fun m u e => by
  have : m < h.length := (List.getElem?_eq_some_iff.mp e).1
  rw [List.getElem?_set_ne (by omega)]
  exact k m u e
theorem Keep.items {h h' : DH} (k : Keep h h') {d : D} {xs : List D} (e : itemsD d h = some xs) : itemsD d h' = some xs := by
  cases d with
  | ref n =>
    simp only [itemsD] at e ⊢
    cases q : h[n]? with
    | none => simp only [q] at e; cases e
    | some o => rw [k n o q]; simp only [q] at e; exact e
  | _ => exact e
theorem set_same {h : DH} {n : Nat} {o u : DO} (e : h[n]? = some u) : (h.set n o)[n]? = some o := by
  rw [List.getElem?_set_self (List.getElem?_eq_some_iff.mp e).1]
theorem items_lst {h : DH} {n : Nat} {xs : List D} (e : h[n]? = some (.lst xs)) : itemsD (.ref n) h = some xs := by simp only [itemsD, e]
/-! comprehensions -/
theorem w_lc {mi : IM} {j : Nat} {t : TM} {e : EM} {vs : List Nat} : SatE (mLc mi j t e vs ds h) PD ↔ SatE (mi ds h) fun it h1 => SatE (lcN it j t e h1.length (wipeD ds vs) (it.len h1 + 1) 0 (h1 ++ [.lst []])) PD := by unfold mLc; exact satE_bind
theorem lc_items {it : Itd} {j : Nat} {t : TM} {e : EM} {n : Nat} {xs : List D} (I : Nat → List D → DH → Prop) (hit : ∀ i acc h, i ≤ xs.length → I i acc h → it.at_ i h = some xs[i]?)
    (turn : ∀ i x acc h, xs[i]? = some x → h[n]? = some (.lst acc) → I i acc h → SatE (t (ds.set j (some x)) h) fun b h1 => if b then SatE (e (ds.set j (some x)) h1) fun d h2 => h2[n]? = some (.lst acc) ∧ I (i + 1) (acc ++ [d]) (h2.set n (.lst (acc ++ [d]))) else h1[n]? = some (.lst acc) ∧ I (i + 1) acc h1)
    (done : ∀ acc h, h[n]? = some (.lst acc) → I xs.length acc h → PD (.ref n) h) (hz : xs.length ≤ 16777216) : ∀ (k i : Nat) (acc : List D) (h : DH), k + i = xs.length + 1 → i ≤ xs.length → acc.length ≤ i → h[n]? = some (.lst acc) → I i acc h → SatE (lcN it j t e n ds k i h) PD := by
  intro k
  induction k with
  | zero => intro i acc h e l; omega
  | succ k ih =>
    intro i acc h e1 l la hn p
    simp only [lcN]
    rw [hit i acc h l p]
    cases q : xs[i]? with
    | none =>
      have : xs.length ≤ i := List.getElem?_eq_none_iff.mp q
      have e2 : i = xs.length := by omega
      subst e2
      exact done acc h hn p
    | some x =>
      have hl : i < xs.length := (List.getElem?_eq_some_iff.mp q).1
      obtain ⟨b, h1, q1, t1⟩ := (turn i x acc h q hn p).eq
      simp only [q1]
      cases b with
      | false => exact ih (i + 1) acc h1 (by omega) hl (by omega) t1.1 t1.2
      | true =>
        have t1 : SatE (e (ds.set j (some x)) h1) fun d h2 => h2[n]? = some (.lst acc) ∧ I (i + 1) (acc ++ [d]) (h2.set n (.lst (acc ++ [d]))) := t1
        obtain ⟨d, h2, q2, t2, t3⟩ := t1.eq
        simp only [q2, t2]
        rw [if_pos (by omega)]
        exact ih (i + 1) (acc ++ [d]) _ (by omega) hl (by rw [List.length_append, List.length_singleton]; omega) (set_same t2) t3
/-! operations on what is known -/
section
variable {i j : Int} {a b : Str} {p q : Bool}
theorem addD_ii : addD (.int i) (.int j) h = .ok (.int (i + j)) h := rfl
theorem addD_ss : addD (.str a) (.str b) h = if a.length + b.length ≤ 16777216 then .ok (.str (a ++ b)) h else .no := rfl
theorem subD_ii : subD (.int i) (.int j) h = .ok (.int (i - j)) h := rfl
theorem mulD_ii : mulD (.int i) (.int j) h = if mulC i j then .ok (.int (i * j)) h else .no := rfl
theorem mulD_si : mulD (.str a) (.int j) h = if 0 ≤ j ∧ j ≤ 1000 ∧ a.length ≤ 10000 then .ok (.str (strRep a j.toNat)) h else .no := rfl
theorem fdivD_ii : fdivD (.int i) (.int j) h = if 0 < j ∧ j < 1073741824 then .ok (.int (i / j)) h else .no := rfl
theorem modD_ii : modD (.int i) (.int j) h = if 0 < j then .ok (.int (i % j)) h else .no := rfl
theorem powD_ii : powD (.int i) (.int j) h = if 0 ≤ j ∧ j ≤ 1000000 ∧ i.natAbs < 2 ^ 64 then .ok (.int (i ^ j.toNat)) h else .no := rfl
theorem negD_i : negD (.int i) h = .ok (.int (-i)) h := rfl
theorem eqD_ii : eqD (.int i) (.int j) h = .ok (.bl (decide (i = j))) h := rfl
theorem eqD_ss : eqD (.str a) (.str b) h = .ok (.bl (decide (a = b))) h := rfl
theorem eqD_bb : eqD (.bl p) (.bl q) h = .ok (.bl (decide (p = q))) h := rfl
theorem neD_ii : neD (.int i) (.int j) h = .ok (.bl (!decide (i = j))) h := rfl
theorem neD_ss : neD (.str a) (.str b) h = .ok (.bl (!decide (a = b))) h := rfl
theorem neD_bb : neD (.bl p) (.bl q) h = .ok (.bl (!decide (p = q))) h := rfl
theorem ltD_ii : ltD (.int i) (.int j) h = .ok (.bl (decide (i < j))) h := rfl
theorem leD_ii : leD (.int i) (.int j) h = .ok (.bl (decide (i ≤ j))) h := rfl
theorem gtD_ii : gtD (.int i) (.int j) h = .ok (.bl (decide (j < i))) h := rfl
theorem geD_ii : geD (.int i) (.int j) h = .ok (.bl (decide (j ≤ i))) h := rfl
theorem intD_i : intD [.int i] h = .ok (.int i) h := rfl
theorem absD_i : absD [.int i] h = .ok (.int (if i < 0 then -i else i)) h := rfl
theorem max2_ii : max2D [.int i, .int j] h = .ok (.int (if j > i then j else i)) h := rfl
theorem min2_ii : min2D [.int i, .int j] h = .ok (.int (if j < i then j else i)) h := rfl
theorem addI_ii : addI (.int i) (.int j) h = .ok (.int (i + j)) h := rfl
theorem subI_ii : subI (.int i) (.int j) h = .ok (.int (i - j)) h := rfl
end
theorem n_cut {a b : SM} (Mid : DSt → DH → Prop) (s : SatN (a ds h) Mid C B R) (k : ∀ ds' h', Mid ds' h' → SatN (b ds' h') N C B R) : SatN (sSeq a b ds h) N C B R := by
  rw [n_seq]
  exact s.imp k (fun _ _ x => x) (fun _ _ x => x) fun _ _ x => x
/-- all but one object is kept -/
def Fr (s : Nat) (h h' : DH) : Prop := ∀ (n : Nat) o, n ≠ s → h[n]? = some o → h'[n]? = some o
theorem Fr.refl (s : Nat) (h : DH) : Fr s h h := fun _ _ _ e => e
theorem Fr.trans {s : Nat} {h1 h2 h3 : DH} (a : Fr s h1 h2) (b : Fr s h2 h3) : Fr s h1 h3 := fun n o z e => b n o z (a n o z e)
theorem Keep.fr {h h' : DH} (k : Keep h h') (s : Nat) : Fr s h h' := fun n o _ e => k n o e
theorem Fr.set {s : Nat} {h h' : DH} (f : Fr s h h') (o : DO) : Fr s h (h'.set s o) := fun n u z e => by
  rw [List.getElem?_set_ne (Ne.symm z)]
  exact f n u z e
theorem Fr.keep {s : Nat} {h0 h h' : DH} (f : Fr s h h') (k : Keep h0 h) (l : h0.length ≤ s) : Keep h0 h' := fun n o e => by
  have : n < h0.length := (List.getElem?_eq_some_iff.mp e).1
  exact f n o (by omega) (k n o e)
theorem lt_of_get {h : DH} {n : Nat} {o : DO} (e : h[n]? = some o) : n < h.length := (List.getElem?_eq_some_iff.mp e).1
/-! lists at hand -/
theorem isTy_lst {n : Nat} {xs : List D} (e : h[n]? = some (.lst xs)) : isTy "list" (.ref n) h = true := by simp only [isTy, e]; rfl
theorem w_app {n : Nat} {zs : List D} {y : D} (e : h[n]? = some (.lst zs)) : SatE (appD (.ref n) [y] h) PD ↔ zs.length < 16777216 ∧ PD .non (h.set n (.lst (zs ++ [y]))) := by
  simp only [appD, e]
  exact satE_ite
theorem w_pop {n : Nat} {zs : List D} {y : D} (e : h[n]? = some (.lst (zs ++ [y]))) : SatE (popD (.ref n) [] h) PD ↔ PD y (h.set n (.lst zs)) := by
  simp only [popD, e]
  have : (zs ++ [y])[(zs ++ [y]).length - 1]? = some y := by simp
  simp only [this, List.dropLast_concat]
  exact Iff.rfl
theorem w_len {d : D} {zs : List D} (e : itemsD d h = some zs) : SatE (lenD [d] h) PD ↔ PD (.int zs.length) h := by
  cases d with
  | str z => cases e
  | tup xs => cases e; exact Iff.rfl
  | ref n => simp only [lenD, e]; exact Iff.rfl
  | _ => cases e
theorem w_ixs {d x : D} {zs : List D} {i : Int} (e : itemsD d h = some zs) (e2 : atI zs i = some x) : SatE (ixD d (.int i) h) PD ↔ PD x h := by
  cases d with
  | str z => cases e
  | tup xs => cases e; simp only [ixD, itemsD, e2]; exact Iff.rfl
  | ref n => simp only [ixD, e, e2]; exact Iff.rfl
  | _ => cases e
theorem atI_pos {α : Type} {xs : List α} {i : Int} {d : α} (h0 : 0 ≤ i) (h : xs[i.toNat]? = some d) : atI xs i = some d := by
  have e : (i.toNat : Int) = i := by omega
  have q := L2.atI_nat h
  rw [e] at q
  exact q
theorem get_ints {ns : List Int} {i : Nat} : (ns.map D.int)[i]? = (ns[i]?).map D.int := by simp
theorem w_add_lst {m n : Nat} {xs ys : List D} (e1 : h[m]? = some (.lst xs)) (e2 : h[n]? = some (.lst ys)) : SatE (addD (.ref m) (.ref n) h) PD ↔ xs.length + ys.length ≤ 16777216 ∧ PD (.ref h.length) (h ++ [.lst (xs ++ ys)]) := by
  simp only [addD, e1, e2]
  exact satE_ite
theorem w_ixS {z : Str} {i : Int} (h0 : 0 ≤ i) (h1 : i < z.length) (hz : z.length ≤ 16777216) (p : ∀ c : Nat, c ∈ z.cps.toList → PD (.str ⟨#[c]⟩) h) : SatE (ixD (.str z) (.int i) h) PD := by
  have hl : z.cps.toList.length = z.length := by simp [Str.length]
  have e : z.cps.toList[i.toNat]? = some (z.cps.toList[i.toNat]'(by omega)) := List.getElem?_eq_getElem (by omega)
  simp only [ixD, if_pos hz, atI_pos h0 e]
  exact p _ (List.getElem_mem _)
theorem some_ix {α : Type} {xs : List α} {i : Int} (h0 : 0 ≤ i) (h1 : i < xs.length) : ∃ d, d ∈ xs ∧ xs[i.toNat]? = some d ∧ atI xs i = some d := by
  have e : xs[i.toNat]? = some (xs[i.toNat]'(by omega)) := List.getElem?_eq_getElem (by omega)
  exact ⟨_, List.getElem_mem _, e, atI_pos h0 e⟩
theorem len_rep (z : Str) (n : Nat) : (strRep z n).length = z.length * n := by
  unfold strRep Str.length
  simp [List.length_flatten, List.sum_replicate_nat, Nat.mul_comm]
theorem len_app (a b : Str) : (a ++ b).length = a.length + b.length := by
  show (Str.append a b).length = _
  unfold Str.append Str.length
  simp
theorem len_one (c : Nat) : (⟨#[c]⟩ : Str).length = 1 := rfl
theorem w_in_tup {neg : Bool} {x : D} {xs : List D} (fx : flatD x = true) (fs : xs.all flatD = true) : SatE (inD neg x (.tup xs) h) PD ↔ PD (.bl (if neg then !(xs.any fun z => eqF z x) else xs.any fun z => eqF z x)) h := by
  simp only [inD, itemsD, fx, fs, Bool.and_self, if_true]
  exact Iff.rfl
theorem w_in_lst {neg : Bool} {x : D} {n : Nat} {xs : List D} (e : itemsD (.ref n) h = some xs) (fx : flatD x = true) (fs : xs.all flatD = true) : SatE (inD neg x (.ref n) h) PD ↔ PD (.bl (if neg then !(xs.any fun z => eqF z x) else xs.any fun z => eqF z x)) h := by
  simp only [inD, e, fx, fs, Bool.and_self, if_true]
  exact Iff.rfl
theorem w_tail {x : D} {r : List D} : SatE (slD (.tup (x :: r)) (some 1) none h) PD ↔ PD (.tup r) h := by
  have e1 : HT.sIx (x :: r).length 0 (some 1) = 1 := by
    have := HT.sIx_nat (x :: r).length 0 1
    rw [show ((1 : Nat) : Int) = 1 from rfl] at this
    rw [this, List.length_cons]; omega
  have e2 : cutD (x :: r) (some 1) none = r := by
    unfold cutD
    rw [e1, HT.sIx_none, List.drop_succ_cons, List.drop_zero, List.length_cons]
    simp
  simp only [slD, e1, e2]
  exact Iff.rfl
/-- a comprehension without a test, whose element is a function of the item -/
theorem lc_map {α : Type} {it : Itd} {j : Nat} {e : EM} {n : Nat} (as : List α) (emb g : α → D) (h1 : DH) (hn : h1[n]? = some (.lst [])) (hz : as.length ≤ 16777216) (hit : ∀ i h', Fr n h1 h' → it.at_ i h' = some ((as.map emb)[i]?))
    (el : ∀ x h', x ∈ as → Fr n h1 h' → SatE (e (ds.set j (some (emb x))) h') fun d h2 => Keep h' h2 ∧ d = g x)
    (done : ∀ h', h'[n]? = some (.lst (as.map g)) → Fr n h1 h' → PD (.ref n) h') {k : Nat} (hk : k = as.length + 1) : SatE (lcN it j mYes e n ds k 0 h1) PD := by
  refine lc_items (xs := as.map emb) (fun i acc h' => Fr n h1 h' ∧ acc = (as.take i).map g) (fun i acc h' _ p => hit i h' p.1) (fun i x acc h' ex ea p => ?_) (fun acc h' ea p => done h' (by rw [ea, p.2, List.length_map, List.take_length]) p.1) (by rw [List.length_map]; exact hz) k 0 [] h1 (by rw [List.length_map]; omega) (Nat.zero_le _) (Nat.le_refl _) hn ⟨Fr.refl _ _, by simp⟩
  rw [List.getElem?_map] at ex
  cases q : as[i]? with
  | none => rw [q] at ex; cases ex
  | some a =>
    rw [q] at ex
    cases ex
    have ha : a ∈ as := List.mem_of_getElem? q
    show SatE (e (ds.set j (some (emb a))) h') _
    refine (el a h' ha p.1).imp fun d h2 ⟨kp, ed⟩ => ⟨kp _ _ ea, (p.1.trans (kp.fr n)).set _, ?_⟩
    rw [p.2, ed, List.take_add_one, q]
    simp
/-- a condition told -/
theorem w_ifE {c : Bool} {A B : Prop} (h1 : c = true → A) (h2 : c = false → B) : if c = true then A else B := by
  cases c with
  | true => exact h1 rfl
  | false => exact h2 rfl
theorem mulC_r {i j : Int} (h : -(2 ^ 64) < j ∧ j < 2 ^ 64) : mulC i j = True := eq_true (.inr h)
theorem mulC_l {i j : Int} (h : -(2 ^ 64) < i ∧ i < 2 ^ 64) : mulC i j = True := eq_true (.inl h)
theorem w_star {a : EM} {r : AM} : SatE (aStar a r ds h) PL ↔ SatE (a ds h) fun x h1 => ∃ xs, itemsD x h1 = some xs ∧ SatE (r ds h1) fun ys h2 => PL (xs ++ ys) h2 := by
  unfold aStar
  rw [satE_bind]
  cases a ds h with
  | ok x h1 =>
    show SatE (match itemsD x h1 with | some xs => (r ds h1).bind fun ys h2 => .ok (xs ++ ys) h2 | none => .no) PL ↔ ∃ xs, itemsD x h1 = some xs ∧ _
    cases q : itemsD x h1 with
    | none => exact ⟨fun p => p.elim, fun ⟨_, e, _⟩ => by cases e⟩
    | some xs =>
      show SatE ((r ds h1).bind fun ys h2 => .ok (xs ++ ys) h2) PL ↔ _
      rw [satE_bind]
      exact ⟨fun p => ⟨xs, rfl, p⟩, fun ⟨_, e, p⟩ => by cases e; exact p⟩
  | exc e h => exact Iff.rfl
  | no => exact Iff.rfl
theorem w_kd {tbl : List (Str × D)} {e : EM} : SatE (mKD tbl e ds h) PD ↔ SatE (e ds h) fun x h1 => match x with | .str z => (match lookD tbl z with | some d => PD d h1 | none => False) | _ => False := by
  unfold mKD
  rw [satE_bind]
  cases e ds h with
  | ok x h1 =>
    cases x with
    | str z =>
      show SatE (match lookD tbl z with | some d => .ok d h1 | none => .no) PD ↔ match lookD tbl z with | some d => PD d h1 | none => False
      cases q : lookD tbl z <;> exact Iff.rfl
    | _ => exact Iff.rfl
  | exc e h => exact Iff.rfl
  | no => exact Iff.rfl
theorem w_kin {neg : Bool} {tbl : List (Str × D)} {e : EM} : SatE (mKIn neg tbl e ds h) PD ↔ SatE (e ds h) fun x h1 => match x with | .str z => PD (.bl (if neg then !(lookD tbl z).isSome else (lookD tbl z).isSome)) h1 | _ => False := by
  unfold mKIn
  rw [satE_bind]
  cases e ds h with
  | ok x h1 => cases x <;> exact Iff.rfl
  | exc e h => exact Iff.rfl
  | no => exact Iff.rfl
section
variable {i j : Int} {a b : Str} {p q : Bool}
theorem eqDD_ii : eqDD (.int i) (.int j) h = .ok (.bl (decide (i = j))) h := rfl
theorem eqDD_ss : eqDD (.str a) (.str b) h = .ok (.bl (decide (a = b))) h := rfl
theorem eqDD_bb : eqDD (.bl p) (.bl q) h = .ok (.bl (decide (p = q))) h := rfl
theorem neDD_ii : neDD (.int i) (.int j) h = .ok (.bl (!decide (i = j))) h := rfl
theorem neDD_ss : neDD (.str a) (.str b) h = .ok (.bl (!decide (a = b))) h := rfl
theorem neDD_bb : neDD (.bl p) (.bl q) h = .ok (.bl (!decide (p = q))) h := rfl
end
theorem w_ixT0 {x : D} {r : List D} : SatE (ixD (.tup (x :: r)) (.int 0) h) PD ↔ PD x h := by rw [w_ixs (zs := x :: r) rfl (x := x) (atI_pos (by decide) rfl)]
theorem w_ixT1 {x y : D} {r : List D} : SatE (ixD (.tup (x :: y :: r)) (.int 1) h) PD ↔ PD y h := by rw [w_ixs (zs := x :: y :: r) rfl (x := y) (atI_pos (by decide) rfl)]
theorem w_ixT2 {x y z : D} {r : List D} : SatE (ixD (.tup (x :: y :: z :: r)) (.int 2) h) PD ↔ PD z h := by rw [w_ixs (zs := x :: y :: z :: r) rfl (x := z) (atI_pos (by decide) rfl)]
theorem w_inT {z : Str} {xs : List D} {neg : Bool} : SatE (inD neg (.str z) (.tup xs) h) PD ↔ xs.all flatD = true ∧ PD (.bl (if neg then !(xs.any fun y => eqF y (.str z)) else xs.any fun y => eqF y (.str z))) h := by
  simp only [inD, itemsD, flatD, Bool.true_and]
  exact satE_ite
theorem eqF_ss {a b : Str} : eqF (.str a) (.str b) = decide (a = b) := rfl
theorem w_lenT {xs : List D} : SatE (lenD [.tup xs] h) PD ↔ PD (.int xs.length) h := w_len rfl
theorem pyAll_strs {k : Nat} {zs : List Str} : pyAll (pyD h (k + 1)) (zs.map D.str) = some (zs.map PyData.str) := by
  induction zs with
  | nil => rfl
  | cons z r ih => simp only [List.map_cons, pyAll, pyD, Option.bind, ih, Option.map_some]
theorem w_indexS {n : Nat} {zs : List Str} {z : Str} {j : Nat} (e : itemsD (.ref n) h = some (zs.map D.str)) (c : (SeqAt.shaped (.str z) && SeqAt.shaped (.list (zs.map .str))) = true) (hj : atF (fun y => PyData.eqv y (.str z)) 0 (zs.map .str) = some j) : SatE (indexD (.ref n) [.str z] h) PD ↔ PD (.int j) h := by
  have e1 : pyD h 70 (.ref n) = some (.list (zs.map .str)) := by
    simp only [pyD, e, Option.bind, pyAll_strs, Option.map_some]
  have e2 : pyD h 70 (.str z) = some (.str z) := rfl
  simp only [indexD, e1, e2, c, if_true, hj]
  exact Iff.rfl
theorem intD_b {b : Bool} : intD [.bl b] h = .ok (.int (if b = true then 1 else 0)) h := by cases b <;> rfl
theorem w_ixNew {xs : List D} {i : Int} : SatE (ixD (.ref h.length) (.int i) (h ++ [.lst xs])) PD ↔ match atI xs i with | some d => PD d (h ++ [.lst xs]) | none => False := by
  have e : itemsD (.ref h.length) (h ++ [DO.lst xs]) = some xs := items_lst (get_last _ _)
  simp only [ixD, e]
  cases q : atI xs i <;> exact Iff.rfl
theorem atI_0 {α : Type} {x : α} {r : List α} : atI (x :: r) 0 = some x := atI_pos (by decide) rfl
theorem atI_1 {α : Type} {x y : α} {r : List α} : atI (x :: y :: r) 1 = some y := atI_pos (by decide) rfl
theorem atI_2 {α : Type} {x y z : α} {r : List α} : atI (x :: y :: z :: r) 2 = some z := atI_pos (by decide) rfl
theorem tyS {z : Str} : tyD (.str z) h = some .str := rfl
theorem tyI {z : Int} : tyD (.int z) h = some .int := rfl
theorem tyB {z : Bool} : tyD (.bl z) h = some .bool := rfl
theorem tyT {z : List D} : tyD (.tup z) h = some .tuple := rfl
theorem w_ty {S : Ty} {Q : Ty → Prop} : (∃ T, some S = some T ∧ Q T) ↔ Q S := ⟨fun ⟨T, e, p⟩ => by cases e; exact p, fun p => ⟨S, rfl, p⟩⟩
end
end Mi
/-! values without a heap: what the data of the machine stand for, and who owns what -/
namespace Fu
open PySem L2 Mi
inductive T where
  | non | bl (b : Bool) | int (i : Int) | str (s : Str) | tup (xs : List T) | lst (xs : List T) | fro (xs : List T) | dic (kvs : List (Key × T)) | obj (c : Nat) (fs : List (Str × T))
  deriving Inhabited
mutual
def Val (A : Nat → Prop) (h : DH) : T → D → Prop
  | .non, d => d = .non
  | .bl b, d => d = .bl b
  | .int i, d => d = .int i
  | .str s, d => d = .str s
  | .tup ts, d => ∃ xs, d = .tup xs ∧ Vals A h ts xs
  | .lst ts, d => ∃ n xs, d = .ref n ∧ A n ∧ h[n]? = some (.lst xs) ∧ Vals A h ts xs
  | .fro ts, d => ∃ n xs, d = .ref n ∧ A n ∧ h[n]? = some (.fro xs) ∧ Vals A h ts xs
  | .dic ks, d => ∃ n ws, d = .ref n ∧ A n ∧ h[n]? = some (.dK ws) ∧ ValsK A h ks ws
  | .obj c fs, d => ∃ n ws, d = .ref n ∧ A n ∧ h[n]? = some (.ins c ws) ∧ ValsO A h fs ws
def Vals (A : Nat → Prop) (h : DH) : List T → List D → Prop
  | [], xs => xs = []
  | t :: ts, xs => ∃ d ds, xs = d :: ds ∧ Val A h t d ∧ Vals A h ts ds
def ValsK (A : Nat → Prop) (h : DH) : List (Key × T) → List (Key × D) → Prop
  | [], ws => ws = []
  | p :: ps, ws => ∃ d ds, ws = (p.1, d) :: ds ∧ Val A h p.2 d ∧ ValsK A h ps ds
def ValsO (A : Nat → Prop) (h : DH) : List (Str × T) → List (Str × D) → Prop
  | [], ws => ws = []
  | p :: ps, ws => ∃ d ds, ws = (p.1, d) :: ds ∧ Val A h p.2 d ∧ ValsO A h ps ds
end
section
variable {A B : Nat → Prop} {h h' : DH}
/-- what may be reached is kept -/
def KeepIn (A : Nat → Prop) (h h' : DH) : Prop := ∀ (m : Nat) o, A m → h[m]? = some o → h'[m]? = some o
theorem KeepIn.refl (A : Nat → Prop) (h : DH) : KeepIn A h h := fun _ _ _ e => e
theorem _root_.Mi.Keep.kin (k : Keep h h') (A : Nat → Prop) : KeepIn A h h' := fun m o _ e => k m o e
mutual
theorem Val.mono (hA : ∀ m, A m → m < h.length → B m) (k : KeepIn A h h') : ∀ (t : T) (d : D), Val A h t d → Val B h' t d
  | .non, d, r => by simp only [Val] at r ⊢; exact r
  | .bl b, d, r => by simp only [Val] at r ⊢; exact r
  | .int i, d, r => by simp only [Val] at r ⊢; exact r
  | .str s, d, r => by simp only [Val] at r ⊢; exact r
  | .tup ts, d, r => by
    simp only [Val] at r ⊢
    obtain ⟨xs, e, r⟩ := r
    exact ⟨xs, e, Vals.mono hA k ts xs r⟩
  | .lst ts, d, r => by
    simp only [Val] at r ⊢
    obtain ⟨n, xs, e, a, q, r⟩ := r
    exact ⟨n, xs, e, hA n a (lt_of_get q), k n _ a q, Vals.mono hA k ts xs r⟩
  | .fro ts, d, r => by
    simp only [Val] at r ⊢
    obtain ⟨n, xs, e, a, q, r⟩ := r
    exact ⟨n, xs, e, hA n a (lt_of_get q), k n _ a q, Vals.mono hA k ts xs r⟩
  | .dic ks, d, r => by
    simp only [Val] at r ⊢
    obtain ⟨n, xs, e, a, q, r⟩ := r
    exact ⟨n, xs, e, hA n a (lt_of_get q), k n _ a q, ValsK.mono hA k ks xs r⟩
  | .obj c fs, d, r => by
    simp only [Val] at r ⊢
    obtain ⟨n, xs, e, a, q, r⟩ := r
    exact ⟨n, xs, e, hA n a (lt_of_get q), k n _ a q, ValsO.mono hA k fs xs r⟩
theorem Vals.mono (hA : ∀ m, A m → m < h.length → B m) (k : KeepIn A h h') : ∀ (ts : List T) (xs : List D), Vals A h ts xs → Vals B h' ts xs
  | [], xs, r => by simp only [Vals] at r ⊢; exact r
  | t :: ts, xs, r => by
    simp only [Vals] at r ⊢
    obtain ⟨d, ds, e, r1, r2⟩ := r
    exact ⟨d, ds, e, Val.mono hA k t d r1, Vals.mono hA k ts ds r2⟩
theorem ValsK.mono (hA : ∀ m, A m → m < h.length → B m) (k : KeepIn A h h') : ∀ (ts : List (Key × T)) (xs : List (Key × D)), ValsK A h ts xs → ValsK B h' ts xs
  | [], xs, r => by simp only [ValsK] at r ⊢; exact r
  | p :: ts, xs, r => by
    simp only [ValsK] at r ⊢
    obtain ⟨d, ds, e, r1, r2⟩ := r
    exact ⟨d, ds, e, Val.mono hA k p.2 d r1, ValsK.mono hA k ts ds r2⟩
theorem ValsO.mono (hA : ∀ m, A m → m < h.length → B m) (k : KeepIn A h h') : ∀ (ts : List (Str × T)) (xs : List (Str × D)), ValsO A h ts xs → ValsO B h' ts xs
  | [], xs, r => by simp only [ValsO] at r ⊢; exact r
  | p :: ts, xs, r => by
    simp only [ValsO] at r ⊢
    obtain ⟨d, ds, e, r1, r2⟩ := r
    exact ⟨d, ds, e, Val.mono hA k p.2 d r1, ValsO.mono hA k ts ds r2⟩
end
theorem Val.keep {t : T} {d : D} (r : Val A h t d) (k : Keep h h') : Val A h' t d := Val.mono (fun _ a _ => a) (k.kin A) t d r
theorem Vals.keep {t : List T} {d : List D} (r : Vals A h t d) (k : Keep h h') : Vals A h' t d := Vals.mono (fun _ a _ => a) (k.kin A) t d r
theorem Val.sub {t : T} {d : D} (r : Val A h t d) (s : ∀ m, A m → m < h.length → B m) : Val B h t d := Val.mono s (KeepIn.refl A h) t d r
theorem Vals.sub {t : List T} {d : List D} (r : Vals A h t d) (s : ∀ m, A m → m < h.length → B m) : Vals B h t d := Vals.mono s (KeepIn.refl A h) t d r
theorem Vals.nil : Vals A h [] [] := by simp only [Vals]
theorem Vals.cons {t : T} {ts : List T} {d : D} {ds : List D} (r : Val A h t d) (s : Vals A h ts ds) : Vals A h (t :: ts) (d :: ds) := by simp only [Vals]; exact ⟨d, ds, rfl, r, s⟩
theorem Vals.length : ∀ {ts : List T} {ds : List D}, Vals A h ts ds → ds.length = ts.length
  | [], ds, r => by simp only [Vals] at r; rw [r]; rfl
  | t :: ts, ds, r => by
    simp only [Vals] at r
    obtain ⟨d, ds, rfl, _, r⟩ := r
    rw [List.length_cons, List.length_cons, Vals.length r]
theorem Vals.get : ∀ {ts : List T} {ds : List D} {i : Nat} {t : T}, Vals A h ts ds → ts[i]? = some t → ∃ d, ds[i]? = some d ∧ Val A h t d
  | [], ds, i, t, r, e => by simp at e
  | t :: ts, ds, 0, u, r, e => by
    simp only [Vals] at r
    obtain ⟨d, ds, rfl, r, _⟩ := r
    simp at e; subst e
    exact ⟨d, rfl, r⟩
  | t :: ts, ds, i + 1, u, r, e => by
    simp only [Vals] at r
    obtain ⟨d, ds, rfl, _, r⟩ := r
    obtain ⟨x, h1, h2⟩ := Vals.get (i := i) r (by simpa using e)
    exact ⟨x, by simpa using h1, h2⟩
theorem Vals.append : ∀ {ts us : List T} {ds es : List D}, Vals A h ts ds → Vals A h us es → Vals A h (ts ++ us) (ds ++ es)
  | [], us, ds, es, r, s => by simp only [Vals] at r; rw [r]; exact s
  | t :: ts, us, ds, es, r, s => by
    simp only [Vals] at r
    obtain ⟨d, ds, rfl, r1, r⟩ := r
    exact Vals.cons r1 (Vals.append r s)
theorem Vals.take : ∀ {ts : List T} {ds : List D} (n : Nat), Vals A h ts ds → Vals A h (ts.take n) (ds.take n)
  | ts, ds, 0, r => by simp only [List.take_zero]; exact Vals.nil
  | [], ds, n + 1, r => by simp only [Vals] at r; rw [r]; simp only [List.take_nil]; exact Vals.nil
  | t :: ts, ds, n + 1, r => by
    simp only [Vals] at r
    obtain ⟨d, ds, rfl, r1, r⟩ := r
    exact Vals.cons r1 (Vals.take n r)
theorem Vals.drop : ∀ {ts : List T} {ds : List D} (n : Nat), Vals A h ts ds → Vals A h (ts.drop n) (ds.drop n)
  | ts, ds, 0, r => r
  | [], ds, n + 1, r => by simp only [Vals] at r; rw [r]; simp only [List.drop_nil]; exact Vals.nil
  | t :: ts, ds, n + 1, r => by
    simp only [Vals] at r
    obtain ⟨d, ds, rfl, r1, r⟩ := r
    exact Vals.drop n r
theorem Vals.set {t : T} {d : D} (r0 : Val A h t d) : ∀ {ts : List T} {ds : List D} (n : Nat), Vals A h ts ds → Vals A h (ts.set n t) (ds.set n d)
  | [], ds, n, r => by simp only [Vals] at r; rw [r]; simp only [List.set_nil]; exact Vals.nil
  | t :: ts, ds, 0, r => by
    simp only [Vals] at r
    obtain ⟨d, ds, rfl, r1, r⟩ := r
    exact Vals.cons r0 r
  | t :: ts, ds, n + 1, r => by
    simp only [Vals] at r
    obtain ⟨d, ds, rfl, r1, r⟩ := r
    exact Vals.cons r1 (Vals.set r0 n r)
theorem Vals.reverse : ∀ {ts : List T} {ds : List D}, Vals A h ts ds → Vals A h ts.reverse ds.reverse
  | [], ds, r => by simp only [Vals] at r; rw [r]; exact Vals.nil
  | t :: ts, ds, r => by
    simp only [Vals] at r
    obtain ⟨d, ds, rfl, r1, r⟩ := r
    rw [List.reverse_cons, List.reverse_cons]
    exact Vals.append (Vals.reverse r) (Vals.cons r1 Vals.nil)
theorem Vals.rep : ∀ {ts : List T} {ds : List D} (n : Nat), Vals A h ts ds → Vals A h (List.replicate n ts).flatten (List.replicate n ds).flatten
  | ts, ds, 0, r => Vals.nil
  | ts, ds, n + 1, r => by
    rw [List.replicate_succ, List.replicate_succ, List.flatten_cons, List.flatten_cons]
    exact Vals.append r (Vals.rep n r)
theorem Vals.ints {ns : List Int} : Vals A h (ns.map T.int) (ns.map D.int) := by
  induction ns with
  | nil => exact Vals.nil
  | cons n r ih => exact Vals.cons (by simp only [Val]) ih
end
/-! ### who owns what: shapes -/
inductive Sh where
  | s | l (e : Sh) | d (e : Sh) | m (e : Sh) | t (es : List Sh) | o (c : Nat) (ns : List Str) (es : List Sh)
def OdL (P : T → D → List Nat → Prop) : List T → List D → List Nat → Prop
  | [], xs, S => xs = [] ∧ S = []
  | t :: ts, xs, S => ∃ d ds S1 S2, xs = d :: ds ∧ S = S1 ++ S2 ∧ P t d S1 ∧ OdL P ts ds S2
mutual
def Od (A : Nat → Prop) (h : DH) : Sh → T → D → List Nat → Prop
  | .s, t, d, S => S = [] ∧ Val A h t d
  | .l e, t, d, S => ∃ ts n xs S', t = .lst ts ∧ d = .ref n ∧ S = n :: S' ∧ h[n]? = some (.lst xs) ∧ OdL (Od A h e) ts xs S'
  | .d e, t, d, S => ∃ ks n ws S', t = .dic ks ∧ d = .ref n ∧ S = n :: S' ∧ h[n]? = some (.dK ws) ∧ ks.map (·.1) = ws.map (·.1) ∧ OdL (Od A h e) (ks.map (·.2)) (ws.map (·.2)) S'
  | .m e, t, d, S => (S = [] ∧ t = .non ∧ d = .non) ∨ Od A h e t d S
  | .t es, t, d, S => ∃ ts xs, t = .tup ts ∧ d = .tup xs ∧ OdT A h es ts xs S
  | .o c ns es, t, d, S => ∃ gs n ws S', t = .obj c gs ∧ d = .ref n ∧ S = n :: S' ∧ h[n]? = some (.ins c ws) ∧ gs.map (·.1) = ns ∧ ws.map (·.1) = ns ∧ OdT A h es (gs.map (·.2)) (ws.map (·.2)) S'
def OdT (A : Nat → Prop) (h : DH) : List Sh → List T → List D → List Nat → Prop
  | [], ts, xs, S => ts = [] ∧ xs = [] ∧ S = []
  | e :: es, ts, xs, S => ∃ t ts' d ds S1 S2, ts = t :: ts' ∧ xs = d :: ds ∧ S = S1 ++ S2 ∧ Od A h e t d S1 ∧ OdT A h es ts' ds S2
end
def KeepS (S : List Nat) (h h' : DH) : Prop := ∀ m ∈ S, ∀ o, h[m]? = some o → h'[m]? = some o
section
variable {A B : Nat → Prop} {h h' : DH}
theorem KeepS.refl (S : List Nat) (h : DH) : KeepS S h h := fun _ _ _ e => e
theorem _root_.Mi.Keep.kS (k : Keep h h') (S : List Nat) : KeepS S h h' := fun m _ o e => k m o e
theorem KeepS.sub {S S' : List Nat} (k : KeepS S h h') (s : ∀ m ∈ S', m ∈ S) : KeepS S' h h' := fun m hm => k m (s m hm)
theorem OdL.imp {P Q : T → D → List Nat → Prop} : ∀ {ts : List T} {xs : List D} {S : List Nat}, (∀ t d U, (∀ m ∈ U, m ∈ S) → P t d U → Q t d U) → OdL P ts xs S → OdL Q ts xs S
  | [], xs, S, _, r => r
  | t :: ts, xs, S, k, ⟨d, ds, S1, S2, e1, e2, r1, r2⟩ => ⟨d, ds, S1, S2, e1, e2, k t d S1 (fun m hm => by rw [e2]; exact List.mem_append_left _ hm) r1, OdL.imp (fun t d U hU => k t d U fun m hm => by rw [e2]; exact List.mem_append_right _ (hU m hm)) r2⟩
mutual
theorem Od.mono (hA : ∀ m, A m → m < h.length → B m) (k : KeepIn A h h') : ∀ (sh : Sh) (t : T) (d : D) (S : List Nat), KeepS S h h' → Od A h sh t d S → Od B h' sh t d S
  | .s, t, d, S, ks, r => by
    simp only [Od] at r ⊢
    exact ⟨r.1, Val.mono hA k t d r.2⟩
  | .l e, t, d, S, ks, r => by
    simp only [Od] at r ⊢
    obtain ⟨ts, n, xs, S', e1, e2, e3, q, r⟩ := r
    exact ⟨ts, n, xs, S', e1, e2, e3, ks n (by rw [e3]; exact List.mem_cons_self) _ q, OdL.imp (fun t d U hU p => Od.mono hA k e t d U (ks.sub fun m hm => by rw [e3]; exact List.mem_cons_of_mem _ (hU m hm)) p) r⟩
  | .d e, t, d, S, ks, r => by
    simp only [Od] at r ⊢
    obtain ⟨ts, n, xs, S', e1, e2, e3, q, q2, r⟩ := r
    exact ⟨ts, n, xs, S', e1, e2, e3, ks n (by rw [e3]; exact List.mem_cons_self) _ q, q2, OdL.imp (fun t d U hU p => Od.mono hA k e t d U (ks.sub fun m hm => by rw [e3]; exact List.mem_cons_of_mem _ (hU m hm)) p) r⟩
  | .m e, t, d, S, ks, r => by
    simp only [Od] at r ⊢
    exact r.imp id fun r => Od.mono hA k e t d S ks r
  | .t es, t, d, S, ks, r => by
    simp only [Od] at r ⊢
    obtain ⟨ts, xs, e1, e2, r⟩ := r
    exact ⟨ts, xs, e1, e2, OdT.mono hA k es ts xs S ks r⟩
  | .o c ns es, t, d, S, ks, r => by
    simp only [Od] at r ⊢
    obtain ⟨gs, n, ws, S', e1, e2, e3, q, q2, q3, r⟩ := r
    exact ⟨gs, n, ws, S', e1, e2, e3, ks n (by rw [e3]; exact List.mem_cons_self) _ q, q2, q3, OdT.mono hA k es _ _ S' (ks.sub fun m hm => by rw [e3]; exact List.mem_cons_of_mem _ hm) r⟩
theorem OdT.mono (hA : ∀ m, A m → m < h.length → B m) (k : KeepIn A h h') : ∀ (es : List Sh) (ts : List T) (ds : List D) (S : List Nat), KeepS S h h' → OdT A h es ts ds S → OdT B h' es ts ds S
  | [], ts, ds, S, ks, r => by simp only [OdT] at r ⊢; exact r
  | e :: es, ts, ds, S, ks, r => by
    simp only [OdT] at r ⊢
    obtain ⟨t, ts', d, ds', S1, S2, e1, e2, e3, r1, r2⟩ := r
    exact ⟨t, ts', d, ds', S1, S2, e1, e2, e3, Od.mono hA k e t d S1 (ks.sub fun m hm => by rw [e3]; exact List.mem_append_left _ hm) r1, OdT.mono hA k es ts' ds' S2 (ks.sub fun m hm => by rw [e3]; exact List.mem_append_right _ hm) r2⟩
end
theorem OdL.vals {P : T → D → List Nat → Prop} : ∀ {ts : List T} {xs : List D} {S : List Nat}, (∀ t d U, (∀ m ∈ U, m ∈ S) → P t d U → Val B h t d) → OdL P ts xs S → Vals B h ts xs
  | [], xs, S, _, r => by simp only [Vals]; exact r.1
  | t :: ts, xs, S, k, ⟨d, ds, S1, S2, e1, e2, r1, r2⟩ => by
    simp only [Vals]
    exact ⟨d, ds, e1, k t d S1 (fun m hm => by rw [e2]; exact List.mem_append_left _ hm) r1, OdL.vals (fun t d U hU => k t d U fun m hm => by rw [e2]; exact List.mem_append_right _ (hU m hm)) r2⟩
theorem valsK_of : ∀ {ks : List (Key × T)} {ws : List (Key × D)}, ks.map (·.1) = ws.map (·.1) → Vals A h (ks.map (·.2)) (ws.map (·.2)) → ValsK A h ks ws
  | [], [], _, _ => by simp only [ValsK]
  | [], w :: ws, e, _ => by cases e
  | k :: ks, [], e, _ => by cases e
  | k :: ks, w :: ws, e, v => by
    simp only [List.map_cons, List.cons.injEq] at e
    simp only [List.map_cons, Vals] at v
    obtain ⟨d, ds, e2, v1, v2⟩ := v
    simp only [List.cons.injEq] at e2
    simp only [ValsK]
    exact ⟨w.2, ws, by rw [e.1], by rw [e2.1]; exact v1, valsK_of e.2 (by rw [e2.2]; exact v2)⟩
theorem valsK_to : ∀ {ks : List (Key × T)} {ws : List (Key × D)}, ValsK A h ks ws → ks.map (·.1) = ws.map (·.1) ∧ Vals A h (ks.map (·.2)) (ws.map (·.2))
  | [], ws, v => by simp only [ValsK] at v; rw [v]; exact ⟨rfl, Vals.nil⟩
  | k :: ks, ws, v => by
    simp only [ValsK] at v
    obtain ⟨d, ds, rfl, v1, v2⟩ := v
    obtain ⟨i1, i2⟩ := valsK_to v2
    exact ⟨by simp only [List.map_cons, i1], Vals.cons v1 i2⟩
theorem valsO_of : ∀ {ks : List (Str × T)} {ws : List (Str × D)}, ks.map (·.1) = ws.map (·.1) → Vals A h (ks.map (·.2)) (ws.map (·.2)) → ValsO A h ks ws
  | [], [], _, _ => by simp only [ValsO]
  | [], w :: ws, e, _ => by cases e
  | k :: ks, [], e, _ => by cases e
  | k :: ks, w :: ws, e, v => by
    simp only [List.map_cons, List.cons.injEq] at e
    simp only [List.map_cons, Vals] at v
    obtain ⟨d, ds, e2, v1, v2⟩ := v
    simp only [List.cons.injEq] at e2
    simp only [ValsO]
    exact ⟨w.2, ws, by rw [e.1], by rw [e2.1]; exact v1, valsO_of e.2 (by rw [e2.2]; exact v2)⟩
theorem valsO_to : ∀ {ks : List (Str × T)} {ws : List (Str × D)}, ValsO A h ks ws → ks.map (·.1) = ws.map (·.1) ∧ Vals A h (ks.map (·.2)) (ws.map (·.2))
  | [], ws, v => by simp only [ValsO] at v; rw [v]; exact ⟨rfl, Vals.nil⟩
  | k :: ks, ws, v => by
    simp only [ValsO] at v
    obtain ⟨d, ds, rfl, v1, v2⟩ := v
    obtain ⟨i1, i2⟩ := valsO_to v2
    exact ⟨by simp only [List.map_cons, i1], Vals.cons v1 i2⟩
mutual
/-- an owner may let go -/
theorem Od.val (hA : ∀ m, A m → m < h.length → B m) : ∀ (sh : Sh) (t : T) (d : D) (S : List Nat), (∀ m ∈ S, B m) → Od A h sh t d S → Val B h t d
  | .s, t, d, S, hS, r => by simp only [Od] at r; exact r.2.sub hA
  | .l e, t, d, S, hS, r => by
    simp only [Od] at r
    obtain ⟨ts, n, xs, S', rfl, rfl, rfl, q, r⟩ := r
    simp only [Val]
    exact ⟨n, xs, rfl, hS n List.mem_cons_self, q, OdL.vals (fun t d U hU p => Od.val hA e t d U (fun m hm => hS m (List.mem_cons_of_mem _ (hU m hm))) p) r⟩
  | .d e, t, d, S, hS, r => by
    simp only [Od] at r
    obtain ⟨ts, n, xs, S', rfl, rfl, rfl, q, q2, r⟩ := r
    simp only [Val]
    exact ⟨n, xs, rfl, hS n List.mem_cons_self, q, valsK_of q2 (OdL.vals (fun t d U hU p => Od.val hA e t d U (fun m hm => hS m (List.mem_cons_of_mem _ (hU m hm))) p) r)⟩
  | .m e, t, d, S, hS, r => by
    simp only [Od] at r
    rcases r with ⟨_, rfl, rfl⟩ | r
    · simp only [Val]
    · exact Od.val hA e t d S hS r
  | .t es, t, d, S, hS, r => by
    simp only [Od] at r
    obtain ⟨ts, xs, rfl, rfl, r⟩ := r
    simp only [Val]
    exact ⟨xs, rfl, OdT.vals hA es ts xs S hS r⟩
  | .o c ns es, t, d, S, hS, r => by
    simp only [Od] at r
    obtain ⟨gs, n, ws, S', rfl, rfl, rfl, q, q2, q3, r⟩ := r
    simp only [Val]
    exact ⟨n, ws, rfl, hS n List.mem_cons_self, q, valsO_of (q2.trans q3.symm) (OdT.vals hA es _ _ S' (fun m hm => hS m (List.mem_cons_of_mem _ hm)) r)⟩
theorem OdT.vals (hA : ∀ m, A m → m < h.length → B m) : ∀ (es : List Sh) (ts : List T) (ds : List D) (S : List Nat), (∀ m ∈ S, B m) → OdT A h es ts ds S → Vals B h ts ds
  | [], ts, ds, S, hS, r => by simp only [OdT] at r; rw [r.1, r.2.1]; exact Vals.nil
  | e :: es, ts, ds, S, hS, r => by
    simp only [OdT] at r
    obtain ⟨t, ts', d, ds', S1, S2, rfl, rfl, rfl, r1, r2⟩ := r
    exact Vals.cons (Od.val hA e t d S1 (fun m hm => hS m (List.mem_append_left _ hm)) r1) (OdT.vals hA es ts' ds' S2 (fun m hm => hS m (List.mem_append_right _ hm)) r2)
end
mutual
theorem Od.lt : ∀ (sh : Sh) (t : T) (d : D) (S : List Nat), Od A h sh t d S → ∀ m ∈ S, m < h.length
  | .s, t, d, S, r, m, hm => by simp only [Od] at r; rw [r.1] at hm; cases hm
  | .l e, t, d, S, r, m, hm => by
    simp only [Od] at r
    obtain ⟨ts, n, xs, S', rfl, rfl, rfl, q, r⟩ := r
    rcases List.mem_cons.mp hm with rfl | hm
    · exact lt_of_get q
    · exact OdL.lt (fun t d U p => Od.lt e t d U p) r m hm
  | .d e, t, d, S, r, m, hm => by
    simp only [Od] at r
    obtain ⟨ts, n, xs, S', rfl, rfl, rfl, q, q2, r⟩ := r
    rcases List.mem_cons.mp hm with rfl | hm
    · exact lt_of_get q
    · exact OdL.lt (fun t d U p => Od.lt e t d U p) r m hm
  | .m e, t, d, S, r, m, hm => by
    simp only [Od] at r
    rcases r with ⟨rfl, _, _⟩ | r
    · cases hm
    · exact Od.lt e t d S r m hm
  | .t es, t, d, S, r, m, hm => by
    simp only [Od] at r
    obtain ⟨ts, xs, rfl, rfl, r⟩ := r
    exact OdT.lt es ts xs S r m hm
  | .o c ns es, t, d, S, r, m, hm => by
    simp only [Od] at r
    obtain ⟨gs, n, ws, S', rfl, rfl, rfl, q, q2, q3, r⟩ := r
    rcases List.mem_cons.mp hm with rfl | hm
    · exact lt_of_get q
    · exact OdT.lt es _ _ S' r m hm
theorem OdT.lt : ∀ (es : List Sh) (ts : List T) (ds : List D) (S : List Nat), OdT A h es ts ds S → ∀ m ∈ S, m < h.length
  | [], ts, ds, S, r, m, hm => by simp only [OdT] at r; rw [r.2.2] at hm; cases hm
  | e :: es, ts, ds, S, r, m, hm => by
    simp only [OdT] at r
    obtain ⟨t, ts', d, ds', S1, S2, rfl, rfl, rfl, r1, r2⟩ := r
    rcases List.mem_append.mp hm with hm | hm
    · exact Od.lt e t d S1 r1 m hm
    · exact OdT.lt es ts' ds' S2 r2 m hm
theorem OdL.lt {P : T → D → List Nat → Prop} (k : ∀ t d U, P t d U → ∀ m ∈ U, m < h.length) : ∀ {ts : List T} {xs : List D} {S : List Nat}, OdL P ts xs S → ∀ m ∈ S, m < h.length
  | [], xs, S, r, m, hm => by rw [r.2] at hm; cases hm
  | t :: ts, xs, S, ⟨d, ds, S1, S2, e1, e2, r1, r2⟩, m, hm => by
    rw [e2] at hm
    rcases List.mem_append.mp hm with hm | hm
    · exact k t d S1 r1 m hm
    · exact OdL.lt k r2 m hm
end
theorem Od.s_iff {t : T} {d : D} : Od A h .s t d [] ↔ Val A h t d := by simp only [Od, true_and]
theorem OdL.length {P : T → D → List Nat → Prop} : ∀ {ts : List T} {xs : List D} {S : List Nat}, OdL P ts xs S → xs.length = ts.length
  | [], xs, S, r => by rw [r.1]; rfl
  | t :: ts, xs, S, ⟨d, ds, S1, S2, e1, e2, r1, r2⟩ => by rw [e1, List.length_cons, List.length_cons, OdL.length r2]
theorem OdL.of_vals : ∀ {ts : List T} {xs : List D}, Vals A h ts xs → OdL (Od A h .s) ts xs []
  | [], xs, v => by simp only [Vals] at v; exact ⟨v, rfl⟩
  | t :: ts, xs, v => by
    simp only [Vals] at v
    obtain ⟨d, ds, e, v1, v2⟩ := v
    exact ⟨d, ds, [], [], e, rfl, Od.s_iff.mpr v1, OdL.of_vals v2⟩
theorem OdL.to_vals : ∀ {ts : List T} {xs : List D} {S : List Nat}, OdL (Od A h .s) ts xs S → Vals A h ts xs ∧ S = []
  | [], xs, S, r => by rw [r.1]; exact ⟨Vals.nil, r.2⟩
  | t :: ts, xs, S, ⟨d, ds, S1, S2, e1, e2, r1, r2⟩ => by
    simp only [Od] at r1
    obtain ⟨i1, i2⟩ := OdL.to_vals r2
    rw [e1, e2, r1.1, i2]
    exact ⟨Vals.cons r1.2 i1, rfl⟩
theorem OdL.append {P : T → D → List Nat → Prop} : ∀ {ts us : List T} {xs ys : List D} {S U : List Nat}, OdL P ts xs S → OdL P us ys U → OdL P (ts ++ us) (xs ++ ys) (S ++ U)
  | [], us, xs, ys, S, U, r, s => by rw [r.1, r.2]; exact s
  | t :: ts, us, xs, ys, S, U, ⟨d, ds, S1, S2, e1, e2, r1, r2⟩, s => ⟨d, ds ++ ys, S1, S2 ++ U, by rw [e1]; rfl, by rw [e2, List.append_assoc], r1, OdL.append r2 s⟩
theorem OdL.one {P : T → D → List Nat → Prop} {t : T} {d : D} {S : List Nat} (r : P t d S) : OdL P [t] [d] S := ⟨d, [], S, [], rfl, (List.append_nil _).symm, r, rfl, rfl⟩
/-- one of them -/
theorem OdL.focus {P : T → D → List Nat → Prop} : ∀ {ts : List T} {xs : List D} {S : List Nat} {j : Nat} {t : T}, OdL P ts xs S → ts[j]? = some t → ∃ d S1 Sj S2, xs[j]? = some d ∧ S = S1 ++ (Sj ++ S2) ∧ P t d Sj ∧
    ∀ (Q : T → D → List Nat → Prop) (t' : T) (d' : D) (Sj' : List Nat), (∀ u e U, (∀ m ∈ U, m ∈ S1 ∨ m ∈ S2) → P u e U → Q u e U) → Q t' d' Sj' → OdL Q (ts.set j t') (xs.set j d') (S1 ++ (Sj' ++ S2))
  | [], xs, S, j, t, r, e => by simp at e
  | t :: ts, xs, S, 0, u, ⟨d, ds, S1, S2, e1, e2, r1, r2⟩, e => by
    simp at e; subst e
    refine ⟨d, [], S1, S2, by rw [e1]; rfl, by rw [e2]; rfl, r1, fun Q t' d' Sj' k q => ?_⟩
    rw [e1]
    exact ⟨d', ds, Sj', S2, rfl, rfl, q, OdL.imp (fun t d U hU p => k t d U (fun m hm => .inr (hU m hm)) p) r2⟩
  | t :: ts, xs, S, j + 1, u, ⟨d, ds, S1, S2, e1, e2, r1, r2⟩, e => by
    obtain ⟨d', T1, Tj, T2, f1, f2, f3, f4⟩ := OdL.focus (j := j) r2 (by simpa using e)
    refine ⟨d', S1 ++ T1, Tj, T2, by rw [e1]; simpa using f1, by rw [e2, f2, List.append_assoc], f3, fun Q t' d'' Sj' k q => ?_⟩
    rw [e1]
    refine ⟨d, ds.set j d'', S1, T1 ++ (Sj' ++ T2), rfl, by rw [List.append_assoc], k t d S1 (fun m hm => .inl (List.mem_append_left _ hm)) r1, f4 Q t' d'' Sj' (fun u e U hU p => k u e U (fun m hm => (hU m hm).imp (fun z => List.mem_append_right _ z) id) p) q⟩
theorem OdT.focus : ∀ {es : List Sh} {ts : List T} {xs : List D} {S : List Nat} {j : Nat} {e : Sh}, OdT A h es ts xs S → es[j]? = some e → ∃ t d S1 Sj S2, ts[j]? = some t ∧ xs[j]? = some d ∧ S = S1 ++ (Sj ++ S2) ∧ Od A h e t d Sj ∧
    ∀ (B : Nat → Prop) (h' : DH) (e' : Sh) (t' : T) (d' : D) (Sj' : List Nat), (∀ m, A m → m < h.length → B m) → KeepIn A h h' → KeepS (S1 ++ S2) h h' → Od B h' e' t' d' Sj' → OdT B h' (es.set j e') (ts.set j t') (xs.set j d') (S1 ++ (Sj' ++ S2))
  | [], ts, xs, S, j, e, r, q => by simp at q
  | e0 :: es, ts, xs, S, 0, e, r, q => by
    simp only [OdT] at r
    obtain ⟨t, ts', d, ds, S1, S2, rfl, rfl, rfl, r1, r2⟩ := r
    simp at q; subst q
    refine ⟨t, d, [], S1, S2, rfl, rfl, rfl, r1, fun B h' e' t' d' Sj' hA k ks q => ?_⟩
    simp only [List.set_cons_zero, OdT]
    exact ⟨t', ts', d', ds, Sj', S2, rfl, rfl, rfl, q, OdT.mono hA k es ts' ds S2 (ks.sub fun m hm => List.mem_append_right _ hm) r2⟩
  | e0 :: es, ts, xs, S, j + 1, e, r, q => by
    simp only [OdT] at r
    obtain ⟨t, ts', d, ds, S1, S2, rfl, rfl, rfl, r1, r2⟩ := r
    obtain ⟨t1, d1, T1, Tj, T2, f1, f2, f3, f4, f5⟩ := OdT.focus (j := j) r2 (by simpa using q)
    refine ⟨t1, d1, S1 ++ T1, Tj, T2, by simpa using f1, by simpa using f2, by rw [f3, List.append_assoc], f4, fun B h' e' t' d' Sj' hA k ks q => ?_⟩
    simp only [List.set_cons_succ, OdT]
    refine ⟨t, ts'.set j t', d, ds.set j d', S1, T1 ++ (Sj' ++ T2), rfl, rfl, by rw [List.append_assoc], Od.mono hA k e0 t d S1 (ks.sub fun m hm => List.mem_append_left _ (List.mem_append_left _ hm)) r1, f5 B h' e' t' d' Sj' hA k (ks.sub fun m hm => ?_) q⟩
    rcases List.mem_append.mp hm with z | z
    · exact List.mem_append_left _ (List.mem_append_right _ z)
    · exact List.mem_append_right _ z
end
end Fu
/-! states: what the slots hold, share and own -/
namespace Fu
open PySem L2 Mi
abbrev FSt := List (Option T)
abbrev Ws := List (Nat × Sh)
abbrev Ow := Nat → List Nat
def Al (A : Nat → Prop) (w : Ws) (own : Ow) (m : Nat) : Prop := A m ∧ ∀ p ∈ w, m ∉ own p.1
structure Rel (A X : Nat → Prop) (w : Ws) (own : Ow) (ds : DSt) (h : DH) (e : FSt) : Prop where
  big : ∀ m, h.length ≤ m → A m
  bigX : ∀ m, h.length ≤ m → X m
  ow : ∀ p ∈ w, (own p.1).Nodup ∧ (∀ m ∈ own p.1, X m ∧ A m) ∧ ∃ t d, e.getD p.1 none = some t ∧ ds.getD p.1 none = some d ∧ Od (Al A w own) h p.2 t d (own p.1)
  dj : ∀ p ∈ w, ∀ q ∈ w, p.1 ≠ q.1 → ∀ m ∈ own p.1, m ∉ own q.1
  un : ∀ p ∈ w, ∀ q ∈ w, p.1 = q.1 → p = q
  sh : ∀ i t, (∀ p ∈ w, p.1 ≠ i) → e.getD i none = some t → ∃ d, ds.getD i none = some d ∧ Val (Al A w own) h t d
  len : ds.length = e.length
theorem getD_set_ne {α : Type} {l : List (Option α)} {i j : Nat} {x : Option α} (n : i ≠ j) : (l.set i x).getD j none = l.getD j none := by
  rw [List.getD_eq_getElem?_getD, List.getElem?_set_ne n, ← List.getD_eq_getElem?_getD]
theorem getD_set_eq {α : Type} {l : List (Option α)} {i : Nat} {x : Option α} (n : i < l.length) : (l.set i x).getD i none = x := by
  rw [List.getD_eq_getElem?_getD, List.getElem?_set_self n]; rfl
theorem getD_set_no {α : Type} {l : List (Option α)} {i : Nat} {x : Option α} (n : ¬ i < l.length) : (l.set i x).getD i none = none := by
  rw [List.getD_eq_getElem?_getD, List.getElem?_eq_none (by simpa using n)]; rfl
theorem lt_of_getD {α : Type} {l : List (Option α)} {i : Nat} {x : α} (e : l.getD i none = some x) : i < l.length := by
  apply Classical.byContradiction
  intro n
  rw [List.getD_eq_getElem?_getD, List.getElem?_eq_none (by simpa using n)] at e
  cases e
section
variable {A X : Nat → Prop} {w w' : Ws} {own : Ow} {ds : DSt} {h h' : DH} {e : FSt}
theorem Rel.kin (r : Rel A X w own ds h e) (k : KeepIn A h h') (l : h.length ≤ h'.length) : Rel A X w own ds h' e := by
  have ka : KeepIn (Al A w own) h h' := fun m o a => k m o a.1
  exact ⟨fun m q => r.big m (Nat.le_trans l q), fun m q => r.bigX m (Nat.le_trans l q), fun p hp => let ⟨a, a1, t, d, a2, a3, a4⟩ := r.ow p hp; ⟨a, a1, t, d, a2, a3, Od.mono (fun _ x _ => x) ka _ _ _ _ (fun m hm o => k m o (a1 m hm).2) a4⟩, r.dj, r.un, fun i t hi he => let ⟨d, a1, a2⟩ := r.sh i t hi he; ⟨d, a1, Val.mono (fun _ x _ => x) ka _ _ a2⟩, r.len⟩
theorem Rel.keep (r : Rel A X w own ds h e) (k : Keep h h') : Rel A X w own ds h' e := r.kin (k.kin A) k.len
theorem Rel.ltO (r : Rel A X w own ds h e) {p : Nat × Sh} (hp : p ∈ w) : ∀ m ∈ own p.1, m < h.length := fun m hm => by
  obtain ⟨_, _, t, d, _, _, o⟩ := r.ow p hp
  exact Od.lt _ _ _ _ o m hm
theorem Rel.bigAl (r : Rel A X w own ds h e) : ∀ m, h.length ≤ m → Al A w own m := fun m l => ⟨r.big m l, fun p hp q => by
  have := r.ltO hp m q
  omega⟩
theorem Rel.weaken (r : Rel A X w own ds h e) (s : ∀ p ∈ w', p ∈ w) : Rel A X w' own ds h e := by
  have hA : ∀ m, Al A w own m → m < h.length → Al A w' own m := fun m a _ => ⟨a.1, fun p hp => a.2 p (s p hp)⟩
  refine ⟨r.big, r.bigX, fun p hp => ?_, fun p hp q hq => r.dj p (s p hp) q (s q hq), fun p hp q hq => r.un p (s p hp) q (s q hq), fun i t hi he => ?_, r.len⟩
  · obtain ⟨a, a1, t, d, a2, a3, a4⟩ := r.ow p (s p hp)
    exact ⟨a, a1, t, d, a2, a3, Od.mono hA (KeepIn.refl _ _) _ _ _ _ (KeepS.refl _ _) a4⟩
  · by_cases q : ∃ p ∈ w, p.1 = i
    · obtain ⟨p, hp, rfl⟩ := q
      obtain ⟨a, a1, u, d, a2, a3, a4⟩ := r.ow p hp
      rw [a2] at he
      cases he
      exact ⟨d, a3, Od.val hA _ _ _ _ (fun m hm => ⟨(a1 m hm).2, fun q hq z => r.dj p hp q (s q hq) (fun y => hi q hq y.symm) m hm z⟩) a4⟩
    · obtain ⟨d, a1, a2⟩ := r.sh i t (fun p hp z => q ⟨p, hp, z⟩) he
      exact ⟨d, a1, a2.sub hA⟩
theorem Rel.put (r : Rel A X w own ds h e) {i : Nat} {t : T} {d : D} (hi : ∀ p ∈ w, p.1 ≠ i) (v : Val (Al A w own) h t d) : Rel A X w own (ds.set i (some d)) h (e.set i (some t)) := by
  refine ⟨r.big, r.bigX, fun p hp => ?_, r.dj, r.un, fun j u hj he => ?_, by rw [List.length_set, List.length_set, r.len]⟩
  · obtain ⟨a, a1, t', d', a2, a3, a4⟩ := r.ow p hp
    exact ⟨a, a1, t', d', by rw [getD_set_ne (hi p hp).symm]; exact a2, by rw [getD_set_ne (hi p hp).symm]; exact a3, a4⟩
  · by_cases n : i = j
    · subst n
      by_cases l : i < e.length
      · rw [getD_set_eq l] at he
        cases he
        exact ⟨d, getD_set_eq (by rw [r.len]; exact l), v⟩
      · rw [getD_set_no l] at he; cases he
    · rw [getD_set_ne n] at he
      rw [getD_set_ne n]
      exact r.sh j u hj he
theorem Rel.wipe (r : Rel A X w own ds h e) {i : Nat} (hi : ∀ p ∈ w, p.1 ≠ i) : Rel A X w own (ds.set i none) h (e.set i none) := by
  refine ⟨r.big, r.bigX, fun p hp => ?_, r.dj, r.un, fun j u hj he => ?_, by rw [List.length_set, List.length_set, r.len]⟩
  · obtain ⟨a, a1, t', d', a2, a3, a4⟩ := r.ow p hp
    exact ⟨a, a1, t', d', by rw [getD_set_ne (hi p hp).symm]; exact a2, by rw [getD_set_ne (hi p hp).symm]; exact a3, a4⟩
  · by_cases n : i = j
    · subst n
      by_cases l : i < e.length
      · rw [getD_set_eq l] at he; cases he
      · rw [getD_set_no l] at he; cases he
    · rw [getD_set_ne n] at he
      rw [getD_set_ne n]
      exact r.sh j u hj he
/-- a slot takes what is new -/
theorem Rel.owns (r : Rel A X w own ds h e) (k : Keep h h') {i : Nat} {sh : Sh} {t : T} {d : D} {S : List Nat} (hi : ∀ p ∈ w, p.1 ≠ i) (hl : i < e.length) (hS : ∀ m ∈ S, h.length ≤ m) (nd : S.Nodup) (o : Od (fun m => Al A w own m ∧ m ∉ S) h' sh t d S) :
    Rel A X ((i, sh) :: w) (fun j => if j = i then S else own j) (ds.set i (some d)) h' (e.set i (some t)) := by
  have r' := r.keep k
  have hA : ∀ m, (Al A w own m ∧ m ∉ S) → m < h'.length → Al A ((i, sh) :: w) (fun j => if j = i then S else own j) m := fun m a _ => ⟨a.1.1, fun p hp => by
    show m ∉ (if p.1 = i then S else own p.1)
    by_cases q : p.1 = i
    · rw [if_pos q]; exact a.2
    · rw [if_neg q]
      rcases List.mem_cons.mp hp with z | z
      · exact absurd (by rw [z]) q
      · exact a.1.2 p z⟩
  have hB : ∀ m, Al A w own m → m < h.length → Al A ((i, sh) :: w) (fun j => if j = i then S else own j) m := fun m a l => hA m ⟨a, fun z => by have := hS m z; omega⟩ (Nat.lt_of_lt_of_le l k.len)
  refine ⟨r'.big, r'.bigX, fun p hp => ?_, fun p hp q hq n m hm => ?_, fun p hp q hq z => ?_, fun j u hj he => ?_, by rw [List.length_set, List.length_set, r.len]⟩
  · show (if p.1 = i then S else own p.1).Nodup ∧ (∀ m ∈ (if p.1 = i then S else own p.1), X m ∧ A m) ∧ ∃ t' d', (e.set i (some t)).getD p.1 none = some t' ∧ (ds.set i (some d)).getD p.1 none = some d' ∧ Od _ h' p.2 t' d' (if p.1 = i then S else own p.1)
    rcases List.mem_cons.mp hp with z | z
    · subst z
      simp only [if_pos]
      exact ⟨nd, fun m hm => ⟨r.bigX m (hS m hm), r.big m (hS m hm)⟩, t, d, getD_set_eq hl, getD_set_eq (by rw [r.len]; exact hl), Od.mono hA (KeepIn.refl _ _) _ _ _ _ (KeepS.refl _ _) o⟩
    · have n := hi p z
      simp only [if_neg n]
      obtain ⟨a, a1, t', d', a2, a3, a4⟩ := r.ow p z
      exact ⟨a, a1, t', d', by rw [getD_set_ne n.symm]; exact a2, by rw [getD_set_ne n.symm]; exact a3, Od.mono hB (k.kin _) _ _ _ _ (k.kS _) a4⟩
  · replace hm : m ∈ (if p.1 = i then S else own p.1) := hm
    show m ∉ (if q.1 = i then S else own q.1)
    rcases List.mem_cons.mp hp with z | z
    · subst z
      simp only [if_pos] at hm
      rcases List.mem_cons.mp hq with y | y
      · exact absurd (by rw [y]) n
      · rw [if_neg (hi q y)]
        exact fun x => by have := r.ltO y m x; have := hS m hm; omega
    · rw [if_neg (hi p z)] at hm
      rcases List.mem_cons.mp hq with y | y
      · subst y
        simp only [if_pos]
        exact fun x => by have := r.ltO z m hm; have := hS m x; omega
      · rw [if_neg (hi q y)]
        exact r.dj p z q y n m hm
  · rcases List.mem_cons.mp hp with y | y
    · rcases List.mem_cons.mp hq with x | x
      · rw [y, x]
      · exact absurd (by rw [← z, y]) (hi q x)
    · rcases List.mem_cons.mp hq with x | x
      · exact absurd (by rw [z, x]) (hi p y)
      · exact r.un p y q x z
  · have n : i ≠ j := hj (i, sh) List.mem_cons_self
    rw [getD_set_ne n] at he
    obtain ⟨x, a1, a2⟩ := r.sh j u (fun p hp => hj p (List.mem_cons_of_mem _ hp)) he
    exact ⟨x, by rw [getD_set_ne n]; exact a1, Val.mono hB (k.kin _) _ _ a2⟩
/-- an owner's thing is changed -/
theorem Rel.store (r : Rel A X w own ds h e) {i : Nat} {sh' : Sh} {t' : T} {d : D} {S' : List Nat} (hw : ∀ p ∈ w', (p.1 = i ∧ p.2 = sh') ∨ (p.1 ≠ i ∧ p ∈ w)) (hw2 : ∀ p ∈ w, p.1 ≠ i → p ∈ w') (hi : (i, sh') ∈ w') (hi0 : ∃ p ∈ w, p.1 = i) (hd : ds.getD i none = some d)
    (kA : KeepIn (Al A w own) h h') (kS : ∀ p ∈ w, p.1 ≠ i → KeepS (own p.1) h h') (l : h.length ≤ h'.length) (nd : S'.Nodup) (hS : ∀ m ∈ S', m ∈ own i ∨ h.length ≤ m) (o : Od (fun m => Al A w own m ∧ m ∉ S') h' sh' t' d S') :
    Rel A X w' (fun j => if j = i then S' else own j) ds h' (e.set i (some t')) := by
  obtain ⟨p0, hp0, e0⟩ := hi0
  have hl : i < e.length := by
    obtain ⟨_, _, t, d, a2, _⟩ := r.ow p0 hp0
    rw [e0] at a2
    exact lt_of_getD a2
  have hA : ∀ m, (Al A w own m ∧ m ∉ S') → Al A w' (fun j => if j = i then S' else own j) m := fun m a => ⟨a.1.1, fun p hp => by
    show m ∉ (if p.1 = i then S' else own p.1)
    rcases hw p hp with ⟨q, _⟩ | ⟨q, z⟩
    · rw [if_pos q]; exact a.2
    · rw [if_neg q]; exact a.1.2 p z⟩
  have hB : ∀ m, Al A w own m → m < h.length → Al A w' (fun j => if j = i then S' else own j) m := fun m a l' => hA m ⟨a, fun z => by
    rcases hS m z with y | y
    · exact a.2 p0 hp0 (e0 ▸ y)
    · omega⟩
  refine ⟨fun m q => r.big m (Nat.le_trans l q), fun m q => r.bigX m (Nat.le_trans l q), fun p hp => ?_, fun p hp q hq n m hm => ?_, fun p hp q hq z => ?_, fun j u hj he => ?_, by rw [List.length_set, r.len]⟩
  · show (if p.1 = i then S' else own p.1).Nodup ∧ (∀ m ∈ (if p.1 = i then S' else own p.1), X m ∧ A m) ∧ ∃ t d, (e.set i (some t')).getD p.1 none = some t ∧ ds.getD p.1 none = some d ∧ Od _ h' p.2 t d (if p.1 = i then S' else own p.1)
    rcases hw p hp with ⟨q, q2⟩ | ⟨q, z⟩
    · simp only [if_pos q]
      refine ⟨nd, fun m hm => ?_, t', d, by rw [q]; exact getD_set_eq hl, by rw [q]; exact hd, by rw [q2]; exact Od.mono (fun m a _ => hA m a) (KeepIn.refl _ _) _ _ _ _ (KeepS.refl _ _) o⟩
      rcases hS m hm with y | y
      · exact (r.ow p0 hp0).2.1 m (e0 ▸ y)
      · exact ⟨r.bigX m y, r.big m y⟩
    · simp only [if_neg q]
      obtain ⟨a, a1, t, d', a2, a3, a4⟩ := r.ow p z
      exact ⟨a, a1, t, d', by rw [getD_set_ne (Ne.symm q)]; exact a2, a3, Od.mono hB kA _ _ _ _ (kS p z q) a4⟩
  · replace hm : m ∈ (if p.1 = i then S' else own p.1) := hm
    show m ∉ (if q.1 = i then S' else own q.1)
    rcases hw p hp with ⟨y, _⟩ | ⟨y, y2⟩
    · rw [if_pos y] at hm
      rcases hw q hq with ⟨x, _⟩ | ⟨x, x2⟩
      · exact absurd (y.trans x.symm) n
      · rw [if_neg x]
        intro z
        rcases hS m hm with v | v
        · exact r.dj q x2 p0 hp0 (by rw [e0]; exact x) m z (e0 ▸ v)
        · have := r.ltO x2 m z; omega
    · rw [if_neg y] at hm
      rcases hw q hq with ⟨x, _⟩ | ⟨x, x2⟩
      · rw [if_pos x]
        intro z
        rcases hS m z with v | v
        · exact r.dj p y2 p0 hp0 (by rw [e0]; exact y) m hm (e0 ▸ v)
        · have := r.ltO y2 m hm; omega
      · rw [if_neg x]
        exact r.dj p y2 q x2 n m hm
  · rcases hw p hp with ⟨y, y2⟩ | ⟨y, y2⟩
    · rcases hw q hq with ⟨x, x2⟩ | ⟨x, x2⟩
      · exact Prod.ext z (y2.trans x2.symm)
      · exact absurd (z ▸ y) x
    · rcases hw q hq with ⟨x, x2⟩ | ⟨x, x2⟩
      · exact absurd (z ▸ x) y
      · exact r.un p y2 q x2 z
  · have n : i ≠ j := hj (i, sh') hi
    rw [getD_set_ne n] at he
    obtain ⟨x, a1, a2⟩ := r.sh j u (fun p hp z => by
      by_cases q : p.1 = i
      · exact n (q ▸ z)
      · exact hj p (hw2 p hp q) z) he
    exact ⟨x, a1, Val.mono hB kA _ _ a2⟩
theorem Rel.avoid (r : Rel A X w own ds h e) (F : List Nat) (hF : ∀ m ∈ F, h.length ≤ m) (k : Keep h h') (hl : ∀ m ∈ F, m < h'.length) : Rel (fun m => A m ∧ m ∉ F) X w own ds h' e := by
  have hA : ∀ m, Al A w own m → m < h.length → Al (fun m => A m ∧ m ∉ F) w own m := fun m a l => ⟨⟨a.1, fun z => by have := hF m z; omega⟩, a.2⟩
  refine ⟨fun m l => ⟨r.big m (Nat.le_trans k.len l), fun z => by have := hl m z; omega⟩, fun m l => r.bigX m (Nat.le_trans k.len l), fun p hp => ?_, r.dj, r.un, fun i t hi he => ?_, r.len⟩
  · obtain ⟨a, a1, t, d, a2, a3, a4⟩ := r.ow p hp
    exact ⟨a, fun m hm => ⟨(a1 m hm).1, (a1 m hm).2, fun z => by have := hF m z; have := Od.lt _ _ _ _ a4 m hm; omega⟩, t, d, a2, a3, Od.mono hA (k.kin _) _ _ _ _ (k.kS _) a4⟩
  · obtain ⟨d, a1, a2⟩ := r.sh i t hi he
    exact ⟨d, a1, Val.mono hA (k.kin _) _ _ a2⟩
end
/-! ### a part of what is owned -/
structure Foc (A : Nat → Prop) (h : DH) (sh : Sh) (d : D) (S : List Nat) (sh' : Sh) (t' : T) (d' : D) (S' R : List Nat) (up : T → T) : Prop where
  od : Od A h sh' t' d' S'
  pm : ∀ m, m ∈ S ↔ m ∈ R ∨ m ∈ S'
  nd : S.Nodup → S'.Nodup ∧ ∀ m ∈ R, m ∉ S'
  back : ∀ (B : Nat → Prop) (h' : DH) (t'' : T) (S'' : List Nat), (∀ m, A m → m < h.length → B m) → KeepIn A h h' → KeepS R h h' → Od B h' sh' t'' d' S'' → ∃ Sn, Od B h' sh (up t'') d Sn ∧ (∀ m, m ∈ Sn ↔ m ∈ R ∨ m ∈ S'') ∧ (S.Nodup → S''.Nodup → (∀ m ∈ R, m ∉ S'') → Sn.Nodup)
section
variable {A : Nat → Prop} {h h' : DH} {sh sh' e : Sh} {t t' : T} {d d' : D} {S S' R : List Nat} {up : T → T}
theorem Foc.refl (o : Od A h sh t d S) : Foc A h sh d S sh t d S [] id := ⟨o, fun m => ⟨.inr, fun z => z.elim (fun y => nomatch y) id⟩, fun n => ⟨n, fun m z => nomatch z⟩, fun B h' t'' S'' _ _ _ o => ⟨S'', o, fun m => ⟨.inr, fun z => z.elim (fun y => nomatch y) id⟩, fun _ n _ => n⟩⟩
theorem Foc.keep (f : Foc A h sh d S sh' t' d' S' R up) (k : Keep h h') : Foc A h' sh d S sh' t' d' S' R up := by
  refine ⟨Od.mono (fun _ a _ => a) (k.kin A) _ _ _ _ (k.kS _) f.od, f.pm, f.nd, fun B h2 t'' S'' hA kA kR o => ?_⟩
  exact f.back B h2 t'' S'' (fun m a l => hA m a (Nat.lt_of_lt_of_le l k.len)) (fun m o a q => kA m o a (k m o q)) (fun m hm o q => kR m hm o (k m o q)) o
/-- what is there -/
theorem Foc.there (f : Foc A h sh d S (.m e) t' d' S' R up) (n : t' ≠ .non) : Foc A h sh d S e t' d' S' R up := by
  refine ⟨?_, f.pm, f.nd, fun B h2 t'' S'' hA kA kR o => f.back B h2 t'' S'' hA kA kR (by simp only [Od]; exact .inr o)⟩
  have o := f.od
  simp only [Od] at o
  rcases o with ⟨_, z, _⟩ | o
  · exact absurd z n
  · exact o
/-- an item of a list -/
theorem Foc.ix {ts : List T} (f : Foc A h sh d S (.l e) (.lst ts) d' S' R up) {j : Nat} {u : T} (q : ts[j]? = some u) : ∃ n xs du Su R2, d' = .ref n ∧ h[n]? = some (.lst xs) ∧ xs.length = ts.length ∧ xs[j]? = some du ∧ Foc A h sh d S e u du Su (R ++ R2) (fun v => up (.lst (ts.set j v))) := by
  have od := f.od
  simp only [Od] at od
  obtain ⟨ts0, n, xs, S1, e1, rfl, e2, hn, ol⟩ := od
  cases e1
  obtain ⟨du, T1, Tj, T2, g1, g2, g3, g4⟩ := ol.focus q
  refine ⟨n, xs, du, Tj, n :: (T1 ++ T2), rfl, hn, ol.length, g1, g3, fun m => ?_, fun nd => ?_, fun B h' t'' S'' hA kA kR o => ?_⟩
  · rw [f.pm, e2, g2]
    simp only [List.mem_cons, List.mem_append]
    constructor
    · rintro (a | a | a | a | a)
      · exact .inl (.inl a)
      · exact .inl (.inr (.inl a))
      · exact .inl (.inr (.inr (.inl a)))
      · exact .inr a
      · exact .inl (.inr (.inr (.inr a)))
    · rintro ((a | a | a | a) | a)
      · exact .inl a
      · exact .inr (.inl a)
      · exact .inr (.inr (.inl a))
      · exact .inr (.inr (.inr (.inr a)))
      · exact .inr (.inr (.inr (.inl a)))
  · obtain ⟨n1, n2⟩ := f.nd nd
    rw [e2, g2] at n1 n2
    simp only [List.nodup_cons, List.nodup_append, List.mem_append, List.mem_cons] at n1 n2 ⊢
    obtain ⟨m1, m2, ⟨m3, m4, m5⟩, m6⟩ := n1
    refine ⟨m3, fun m hm z => ?_⟩
    rcases hm with a | a | a | a
    · exact n2 m a (.inr (.inr (.inl z)))
    · subst a; exact m1 (.inr (.inl z))
    · exact m6 m a m (.inl z) rfl
    · exact m5 m z m a rfl
  · have o2 : Od B h' (.l e) (.lst (ts.set j t'')) (.ref n) (n :: (T1 ++ (S'' ++ T2))) := by
      simp only [Od]
      have hx : xs.set j du = xs := by
        obtain ⟨hl, he⟩ := List.getElem?_eq_some_iff.mp g1
        rw [← he, List.set_getElem_self]
      refine ⟨_, n, xs.set j du, _, rfl, rfl, rfl, by rw [hx]; exact kR n (by simp) _ hn, g4 _ t'' du S'' (fun u v U hU p => Od.mono hA kA _ _ _ _ (fun m hm o => kR m (by
        have := hU m hm
        simp only [List.mem_append, List.mem_cons]
        rcases this with a | a
        · exact .inr (.inr (.inl a))
        · exact .inr (.inr (.inr a))) o) p) o⟩
    obtain ⟨Sn, s1, s2, s3⟩ := f.back B h' _ _ hA kA (fun m hm => kR m (List.mem_append_left _ hm)) o2
    refine ⟨Sn, s1, fun m => ?_, fun nd nd2 hd => ?_⟩
    · rw [s2]
      simp only [List.mem_cons, List.mem_append]
      constructor
      · rintro (a | a | a | a | a)
        · exact .inl (.inl a)
        · exact .inl (.inr (.inl a))
        · exact .inl (.inr (.inr (.inl a)))
        · exact .inr a
        · exact .inl (.inr (.inr (.inr a)))
      · rintro ((a | a | a | a) | a)
        · exact .inl a
        · exact .inr (.inl a)
        · exact .inr (.inr (.inl a))
        · exact .inr (.inr (.inr (.inr a)))
        · exact .inr (.inr (.inr (.inl a)))
    · obtain ⟨n1, n2⟩ := f.nd nd
      rw [e2, g2] at n1 n2
      simp only [List.nodup_cons, List.nodup_append, List.mem_append, List.mem_cons] at n1 n2 hd s3 ⊢
      obtain ⟨m1, m2, ⟨m3, m4, m5⟩, m6⟩ := n1
      refine s3 nd ⟨?_, m2, ⟨nd2, m4, fun a ha b hb => ?_⟩, fun a ha b hb => ?_⟩ fun m hm z => ?_
      · rintro (a | a | a)
        · exact m1 (.inl a)
        · exact hd n (.inr (.inl rfl)) a
        · exact m1 (.inr (.inr a))
      · rintro rfl; exact hd a (.inr (.inr (.inr hb))) ha
      · rcases hb with hb | hb
        · rintro rfl; exact hd a (.inr (.inr (.inl ha))) hb
        · exact m6 a ha b (.inr hb)
      · rcases z with a | a | a | a
        · exact n2 m hm (.inl a)
        · exact n2 m hm (.inr (.inl a))
        · exact hd m (.inl hm) a
        · exact n2 m hm (.inr (.inr (.inr a)))
/-- a part of a tuple -/
theorem Foc.cm {es : List Sh} {ts : List T} (f : Foc A h sh d S (.t es) (.tup ts) d' S' R up) {j : Nat} (q : es[j]? = some e) : ∃ xs u du Su R2, d' = .tup xs ∧ xs.length = ts.length ∧ xs[j]? = some du ∧ ts[j]? = some u ∧ Foc A h sh d S e u du Su (R ++ R2) (fun v => up (.tup (ts.set j v))) := by
  have od := f.od
  simp only [Od] at od
  obtain ⟨ts0, xs, e1, rfl, ol⟩ := od
  cases e1
  obtain ⟨u, du, T1, Tj, T2, g0, g1, g2, g3, g4⟩ := OdT.focus ol q
  have hlen : ∀ {es : List Sh} {ts : List T} {xs : List D} {S : List Nat}, OdT A h es ts xs S → xs.length = ts.length := by
    intro es
    induction es with
    | nil => intro ts xs S r; simp only [OdT] at r; rw [r.1, r.2.1]; rfl
    | cons e es ih =>
      intro ts xs S r
      simp only [OdT] at r
      obtain ⟨t, ts', d, ds, S1, S2, rfl, rfl, _, _, r2⟩ := r
      rw [List.length_cons, List.length_cons, ih r2]
  refine ⟨xs, u, du, Tj, T1 ++ T2, rfl, hlen ol, g1, g0, g3, fun m => ?_, fun nd => ?_, fun B h' t'' S'' hA kA kR o => ?_⟩
  · rw [f.pm, g2]
    simp only [List.mem_append]
    constructor
    · rintro (a | a | a | a)
      · exact .inl (.inl a)
      · exact .inl (.inr (.inl a))
      · exact .inr a
      · exact .inl (.inr (.inr a))
    · rintro ((a | a | a) | a)
      · exact .inl a
      · exact .inr (.inl a)
      · exact .inr (.inr (.inr a))
      · exact .inr (.inr (.inl a))
  · obtain ⟨n1, n2⟩ := f.nd nd
    rw [g2] at n1 n2
    simp only [List.nodup_append, List.mem_append] at n1 n2 ⊢
    obtain ⟨m2, ⟨m3, m4, m5⟩, m6⟩ := n1
    refine ⟨m3, fun m hm z => ?_⟩
    rcases hm with a | a | a
    · exact n2 m a (.inr (.inl z))
    · exact m6 m a m (.inl z) rfl
    · exact m5 m z m a rfl
  · have he : es.set j e = es := by
      obtain ⟨hl, he⟩ := List.getElem?_eq_some_iff.mp q
      rw [← he, List.set_getElem_self]
    have hx : xs.set j du = xs := by
      obtain ⟨hl, he⟩ := List.getElem?_eq_some_iff.mp g1
      rw [← he, List.set_getElem_self]
    have o2 : Od B h' (.t es) (.tup (ts.set j t'')) (.tup xs) (T1 ++ (S'' ++ T2)) := by
      simp only [Od]
      refine ⟨_, xs, rfl, rfl, ?_⟩
      have := g4 B h' e t'' du S'' hA kA (fun m hm => kR m (List.mem_append_right _ hm)) o
      rw [he, hx] at this
      exact this
    obtain ⟨Sn, s1, s2, s3⟩ := f.back B h' _ _ hA kA (fun m hm => kR m (List.mem_append_left _ hm)) o2
    refine ⟨Sn, s1, fun m => ?_, fun nd nd2 hd => ?_⟩
    · rw [s2]
      simp only [List.mem_append]
      constructor
      · rintro (a | a | a | a)
        · exact .inl (.inl a)
        · exact .inl (.inr (.inl a))
        · exact .inr a
        · exact .inl (.inr (.inr a))
      · rintro ((a | a | a) | a)
        · exact .inl a
        · exact .inr (.inl a)
        · exact .inr (.inr (.inr a))
        · exact .inr (.inr (.inl a))
    · obtain ⟨n1, n2⟩ := f.nd nd
      rw [g2] at n1 n2
      simp only [List.nodup_append, List.mem_append] at n1 n2 hd s3 ⊢
      obtain ⟨m2, ⟨m3, m4, m5⟩, m6⟩ := n1
      refine s3 nd ⟨m2, ⟨nd2, m4, fun a ha b hb => ?_⟩, fun a ha b hb => ?_⟩ fun m hm z => ?_
      · rintro rfl; exact hd a (.inr (.inr hb)) ha
      · rcases hb with hb | hb
        · rintro rfl; exact hd a (.inr (.inl ha)) hb
        · exact m6 a ha b (.inr hb)
      · rcases z with a | a | a
        · exact n2 m hm (.inl a)
        · exact hd m (.inl hm) a
        · exact n2 m hm (.inr (.inr a))
end
end Fu
/-! expressions -/
namespace Fu
open PySem L2 Mi
abbrev FE := FSt → Option T
abbrev FA := FSt → Option (List T)
abbrev FT := FSt → Option Bool
abbrev FO := FSt → Option (Option Int)
/-- what is only looked at -/
def BV (A : Nat → Prop) (h : DH) (t : T) (d : D) : Prop :=
  match t with
  | .lst ts => ∃ n xs, d = .ref n ∧ h[n]? = some (.lst xs) ∧ Vals A h ts xs
  | .dic ks => ∃ n ws, d = .ref n ∧ h[n]? = some (.dK ws) ∧ ValsK A h ks ws
  | .obj c fs => ∃ n ws, d = .ref n ∧ h[n]? = some (.ins c ws) ∧ ValsO A h fs ws
  | t => Val A h t d
def BVs (A : Nat → Prop) (h : DH) : List T → List D → Prop
  | [], xs => xs = []
  | t :: ts, xs => ∃ d ds, xs = d :: ds ∧ BV A h t d ∧ BVs A h ts ds
section
variable {A B : Nat → Prop} {h h' : DH} {t u : T} {d x y : D}
theorem Val.bv (r : Val A h t d) : BV A h t d := by
  cases t with
  | lst ts => simp only [Val] at r; obtain ⟨n, xs, e, _, q, r⟩ := r; exact ⟨n, xs, e, q, r⟩
  | dic ks => simp only [Val] at r; obtain ⟨n, xs, e, _, q, r⟩ := r; exact ⟨n, xs, e, q, r⟩
  | obj c ks => simp only [Val] at r; obtain ⟨n, xs, e, _, q, r⟩ := r; exact ⟨n, xs, e, q, r⟩
  | _ => exact r
theorem BV.keep (r : BV A h t d) (k : Keep h h') : BV A h' t d := by
  cases t with
  | lst ts => obtain ⟨n, xs, e, q, r⟩ := r; exact ⟨n, xs, e, k _ _ q, r.keep k⟩
  | dic ks => obtain ⟨n, xs, e, q, r⟩ := r; exact ⟨n, xs, e, k _ _ q, ValsK.mono (fun _ a _ => a) (k.kin A) _ _ r⟩
  | obj c ks => obtain ⟨n, xs, e, q, r⟩ := r; exact ⟨n, xs, e, k _ _ q, ValsO.mono (fun _ a _ => a) (k.kin A) _ _ r⟩
  | _ => exact Val.keep r k
theorem BVs.keep : ∀ {ts : List T} {xs : List D}, BVs A h ts xs → Keep h h' → BVs A h' ts xs
  | [], xs, r, k => r
  | t :: ts, xs, ⟨d, ds, e, r, s⟩, k => ⟨d, ds, e, r.keep k, BVs.keep s k⟩
theorem BVs.length : ∀ {ts : List T} {xs : List D}, BVs A h ts xs → xs.length = ts.length
  | [], xs, r => by rw [show xs = [] from r]; rfl
  | t :: ts, xs, ⟨d, ds, e, r, s⟩ => by rw [e, List.length_cons, List.length_cons, BVs.length s]
theorem val_non : Val A h .non d ↔ d = .non := by simp only [Val]
theorem val_bl {b : Bool} : Val A h (.bl b) d ↔ d = .bl b := by simp only [Val]
theorem val_int {i : Int} : Val A h (.int i) d ↔ d = .int i := by simp only [Val]
theorem val_str {s : Str} : Val A h (.str s) d ↔ d = .str s := by simp only [Val]
theorem val_tup {ts : List T} : Val A h (.tup ts) d ↔ ∃ xs, d = .tup xs ∧ Vals A h ts xs := by simp only [Val]
theorem val_lst {ts : List T} : Val A h (.lst ts) d ↔ ∃ n xs, d = .ref n ∧ A n ∧ h[n]? = some (.lst xs) ∧ Vals A h ts xs := by simp only [Val]
theorem val_fro {ts : List T} : Val A h (.fro ts) d ↔ ∃ n xs, d = .ref n ∧ A n ∧ h[n]? = some (.fro xs) ∧ Vals A h ts xs := by simp only [Val]
theorem val_dic {ks : List (Key × T)} : Val A h (.dic ks) d ↔ ∃ n xs, d = .ref n ∧ A n ∧ h[n]? = some (.dK xs) ∧ ValsK A h ks xs := by simp only [Val]
theorem val_obj {c : Nat} {ks : List (Str × T)} : Val A h (.obj c ks) d ↔ ∃ n xs, d = .ref n ∧ A n ∧ h[n]? = some (.ins c xs) ∧ ValsO A h ks xs := by simp only [Val]
end
section
variable {A : Nat → Prop} {h : DH} {d : D}
theorem bv_non (r : BV A h .non d) : d = .non := val_non.mp (show Val A h _ d from r)
theorem bv_bl {b : Bool} (r : BV A h (.bl b) d) : d = .bl b := val_bl.mp (show Val A h _ d from r)
theorem bv_int {i : Int} (r : BV A h (.int i) d) : d = .int i := val_int.mp (show Val A h _ d from r)
theorem bv_str {s : Str} (r : BV A h (.str s) d) : d = .str s := val_str.mp (show Val A h _ d from r)
theorem bv_tup {ts : List T} (r : BV A h (.tup ts) d) : ∃ xs, d = .tup xs ∧ Vals A h ts xs := val_tup.mp (show Val A h _ d from r)
theorem bv_fro {ts : List T} (r : BV A h (.fro ts) d) : ∃ n xs, d = .ref n ∧ A n ∧ h[n]? = some (.fro xs) ∧ Vals A h ts xs := val_fro.mp (show Val A h _ d from r)
end
/-! ### what the operations give -/
def itemsT : T → Option (List T)
  | .tup xs => some xs
  | .lst xs => some xs
  | .fro xs => some xs
  | _ => none
theorem items_bv {A : Nat → Prop} {h : DH} {t : T} {d : D} {ts : List T} (r : BV A h t d) (e : itemsT t = some ts) : ∃ xs, itemsD d h = some xs ∧ Vals A h ts xs ∧ (∀ z, d ≠ .str z) := by
  cases t with
  | tup us => cases e; obtain ⟨xs, rfl, r'⟩ := bv_tup r; exact ⟨xs, rfl, r', fun z q => by cases q⟩
  | lst us => cases e; obtain ⟨n, xs, rfl, q, r⟩ := r; exact ⟨xs, items_lst q, r, fun z q => by cases q⟩
  | fro us => cases e; obtain ⟨n, xs, rfl, _, q, r'⟩ := bv_fro r; exact ⟨xs, by simp only [itemsD, q], r', fun z q => by cases q⟩
  | _ => cases e
def SOp (f : D → D → DH → Res D) (g : T → T → Option T) : Prop := ∀ (A : Nat → Prop) (h : DH) (x y : D) (t u v : T), (∀ m, h.length ≤ m → A m) → BV A h t x → BV A h u y → g t u = some v → SatE (f x y h) fun d h' => Keep h h' ∧ Val A h' v d
/-- a new list -/
def NewV (A : Nat → Prop) (h h' : DH) (v : T) (d : D) : Prop := ∃ n ts xs, d = .ref n ∧ v = .lst ts ∧ h.length ≤ n ∧ h'[n]? = some (.lst xs) ∧ Vals (fun m => A m ∧ m ≠ n) h' ts xs
theorem NewV.val {A : Nat → Prop} {h h' : DH} {v : T} {d : D} (big : ∀ m, h.length ≤ m → A m) (n : NewV A h h' v d) : Val A h' v d := by
  obtain ⟨n, ts, xs, rfl, rfl, l, q, o⟩ := n
  exact val_lst.mpr ⟨n, xs, rfl, big n l, q, o.sub fun m a _ => a.1⟩
theorem new_of {A : Nat → Prop} {h : DH} {ts : List T} {xs : List D} (r : Vals A h ts xs) : NewV A h (h ++ [.lst xs]) (.lst ts) (.ref h.length) := by
  refine ⟨h.length, ts, xs, rfl, rfl, Nat.le_refl _, get_last _ _, Vals.mono (fun m a l => ⟨a, by omega⟩) ((Keep.app h _).kin A) _ _ r⟩
def SOpX (f : D → D → DH → Res D) (g : T → T → Option T) : Prop := ∀ (A : Nat → Prop) (h : DH) (x y : D) (t u v : T), (∀ m, h.length ≤ m → A m) → BV A h t x → BV A h u y → g t u = some v → SatE (f x y h) fun d h' => Keep h h' ∧ NewV A h h' v d
theorem SOpX.op {f : D → D → DH → Res D} {g : T → T → Option T} (s : SOpX f g) : SOp f g := fun A h x y t u v big r1 r2 e => (s A h x y t u v big r1 r2 e).imp fun d h' ⟨k, n⟩ => ⟨k, n.val big⟩
def SCl (f : List D → DH → Res D) (g : List T → Option T) : Prop := ∀ (A : Nat → Prop) (h : DH) (xs : List D) (ts : List T) (v : T), (∀ m, h.length ≤ m → A m) → BVs A h ts xs → g ts = some v → SatE (f xs h) fun d h' => Keep h h' ∧ Val A h' v d
def SClX (f : List D → DH → Res D) (g : List T → Option T) : Prop := ∀ (A : Nat → Prop) (h : DH) (xs : List D) (ts : List T) (v : T), (∀ m, h.length ≤ m → A m) → BVs A h ts xs → g ts = some v → SatE (f xs h) fun d h' => Keep h h' ∧ NewV A h h' v d
theorem SClX.cl {f : List D → DH → Res D} {g : List T → Option T} (s : SClX f g) : SCl f g := fun A h xs ts v big r e => (s A h xs ts v big r e).imp fun d h' ⟨k, n⟩ => ⟨k, n.val big⟩
def addT : T → T → Option T
  | .int i, .int j => some (.int (i + j))
  | .str a, .str b => if a.length + b.length ≤ 16777216 then some (.str (a ++ b)) else none
  | .tup xs, .tup ys => if xs.length ≠ 0 ∧ xs.length + ys.length ≤ 16777216 then some (.tup (xs ++ ys)) else none
  | .lst xs, .lst ys => if xs.length + ys.length ≤ 16777216 then some (.lst (xs ++ ys)) else none
  | _, _ => none
def catT : T → T → Option T
  | .lst xs, .lst ys => if xs.length + ys.length ≤ 16777216 then some (.lst (xs ++ ys)) else none
  | _, _ => none
theorem x_cat : SOpX addD catT := fun A h x y t u v big r1 r2 e => by
  unfold catT at e
  split at e
  · rename_i ts us
    obtain ⟨n, xs, rfl, q1, r1⟩ := r1
    obtain ⟨m, ys, rfl, q2, r2⟩ := r2
    split at e
    · rename_i l
      cases e
      rw [w_add_lst q1 q2]
      exact ⟨by rw [r1.length, r2.length]; exact l, Keep.app _ _, new_of (r1.append r2)⟩
    · cases e
  · cases e
theorem o_add : SOp addD addT := fun A h x y t u v big r1 r2 e => by
  unfold addT at e
  split at e
  · cases e; rw [bv_int r1, bv_int r2]; exact ⟨Keep.refl _, val_int.mpr rfl⟩
  · rw [bv_str r1, bv_str r2, addD_ss]
    split at e
    · rename_i l; cases e; rw [if_pos l]; exact ⟨Keep.refl _, val_str.mpr rfl⟩
    · cases e
  · obtain ⟨xs, rfl, q1⟩ := bv_tup r1
    obtain ⟨ys, rfl, q2⟩ := bv_tup r2
    split at e
    · rename_i l
      cases e
      simp only [addD]
      rw [q1.length, q2.length, if_pos l]
      exact ⟨Keep.refl _, val_tup.mpr ⟨_, rfl, q1.append q2⟩⟩
    · cases e
  · exact x_cat.op A h x y _ _ v big r1 r2 e
  · cases e
section
variable {f : D → D → DH → Res D}
theorem o_ii {g : Int → Int → Option T} {G : T → T → Option T} (hG : ∀ t u v, G t u = some v → ∃ i j, t = .int i ∧ u = .int j ∧ g i j = some v) (hf : ∀ i j v h, g i j = some v → SatE (f (.int i) (.int j) h) fun d h' => h' = h ∧ ∀ A, Val A h v d) : SOp f G := fun A h x y t u v big r1 r2 e => by
  obtain ⟨i, j, rfl, rfl, q⟩ := hG t u v e
  rw [bv_int r1, bv_int r2]
  refine (hf i j v h q).imp fun d h' ⟨e1, e2⟩ => ?_
  subst e1
  exact ⟨Keep.refl _, e2 A⟩
end
def iiT (g : Int → Int → Option T) : T → T → Option T
  | .int i, .int j => g i j
  | _, _ => none
theorem iiT_ok {g : Int → Int → Option T} : ∀ t u v, iiT g t u = some v → ∃ i j, t = .int i ∧ u = .int j ∧ g i j = some v := fun t u v e => by
  unfold iiT at e
  split at e
  · exact ⟨_, _, rfl, rfl, e⟩
  · cases e
def subT := iiT fun i j => some (.int (i - j))
def fdivT := iiT fun i j => if 0 < j ∧ j < 1073741824 then some (.int (i / j)) else none
def modT := iiT fun i j => if 0 < j then some (.int (i % j)) else none
def powT := iiT fun i j => if 0 ≤ j ∧ j ≤ 1000000 ∧ i.natAbs < 2 ^ 64 then some (.int (i ^ j.toNat)) else none
def ltT := iiT fun i j => some (.bl (decide (i < j)))
def leT := iiT fun i j => some (.bl (decide (i ≤ j)))
def gtT := iiT fun i j => some (.bl (decide (j < i)))
def geT := iiT fun i j => some (.bl (decide (j ≤ i)))
def imulT := iiT fun i j => if mulC i j then some (.int (i * j)) else none
theorem o_sub : SOp subD subT := o_ii iiT_ok fun i j v h e => by cases e; exact ⟨rfl, fun _ => val_int.mpr rfl⟩
theorem o_lt : SOp ltD ltT := o_ii iiT_ok fun i j v h e => by cases e; exact ⟨rfl, fun _ => val_bl.mpr rfl⟩
theorem o_le : SOp leD leT := o_ii iiT_ok fun i j v h e => by cases e; exact ⟨rfl, fun _ => val_bl.mpr rfl⟩
theorem o_gt : SOp gtD gtT := o_ii iiT_ok fun i j v h e => by cases e; exact ⟨rfl, fun _ => val_bl.mpr rfl⟩
theorem o_ge : SOp geD geT := o_ii iiT_ok fun i j v h e => by cases e; exact ⟨rfl, fun _ => val_bl.mpr rfl⟩
theorem ite_some {α : Type} {c : Prop} [Decidable c] {a b : α} (e : (if c then some a else none) = some b) : c ∧ a = b := by
  by_cases q : c
  · rw [if_pos q] at e; exact ⟨q, Option.some.inj e⟩
  · rw [if_neg q] at e; cases e
theorem o_fdiv : SOp fdivD fdivT := o_ii iiT_ok fun i j v h e => by obtain ⟨c, rfl⟩ := ite_some e; rw [fdivD_ii, if_pos c]; exact ⟨rfl, fun _ => val_int.mpr rfl⟩
theorem o_mod : SOp modD modT := o_ii iiT_ok fun i j v h e => by obtain ⟨c, rfl⟩ := ite_some e; rw [modD_ii, if_pos c]; exact ⟨rfl, fun _ => val_int.mpr rfl⟩
theorem o_pow : SOp powD powT := o_ii iiT_ok fun i j v h e => by obtain ⟨c, rfl⟩ := ite_some e; rw [powD_ii, if_pos c]; exact ⟨rfl, fun _ => val_int.mpr rfl⟩
def mulT : T → T → Option T
  | .int i, .int j => if mulC i j then some (.int (i * j)) else none
  | .str a, .int j => if 0 ≤ j ∧ j ≤ 1000 ∧ a.length ≤ 10000 then some (.str (strRep a j.toNat)) else none
  | .lst xs, .int k => if 0 ≤ k ∧ k ≤ 100000 ∧ xs.length * k.toNat ≤ 16777216 then some (.lst (List.replicate k.toNat xs).flatten) else none
  | _, _ => none
def repT : T → T → Option T
  | .lst xs, .int k => if 0 ≤ k ∧ k ≤ 100000 ∧ xs.length * k.toNat ≤ 16777216 then some (.lst (List.replicate k.toNat xs).flatten) else none
  | _, _ => none
theorem x_rep : SOpX mulD repT := fun A h x y t u v big r1 r2 e => by
  unfold repT at e
  split at e
  · rename_i ts k
    obtain ⟨n, xs, rfl, q1, r1⟩ := r1
    rw [bv_int r2]
    obtain ⟨c, rfl⟩ := ite_some e
    simp only [mulD, q1]
    rw [r1.length, if_pos c]
    exact ⟨Keep.app _ _, new_of (r1.rep _)⟩
  · cases e
theorem o_mul : SOp mulD mulT := fun A h x y t u v big r1 r2 e => by
  unfold mulT at e
  split at e
  · rw [bv_int r1, bv_int r2]; obtain ⟨c, rfl⟩ := ite_some e; rw [mulD_ii, if_pos c]; exact ⟨Keep.refl _, val_int.mpr rfl⟩
  · rw [bv_str r1, bv_int r2]; obtain ⟨c, rfl⟩ := ite_some e; rw [mulD_si, if_pos c]; exact ⟨Keep.refl _, val_str.mpr rfl⟩
  · exact x_rep.op A h x y _ _ v big r1 r2 e
  · cases e
/-! equality -/
def eqST : T → T → Option Bool
  | .int i, .int j => some (decide (i = j))
  | .str a, .str b => some (decide (a = b))
  | .bl a, .bl b => some (decide (a = b))
  | .non, .non => some true
  | .non, .int _ => some false
  | .int _, .non => some false
  | .non, .str _ => some false
  | .str _, .non => some false
  | .non, .bl _ => some false
  | .bl _, .non => some false
  | .int _, .str _ => some false
  | .str _, .int _ => some false
  | .bl _, .str _ => some false
  | .str _, .bl _ => some false
  | _, _ => none
/-- a value by its sort -/
theorem bv_sort {A : Nat → Prop} {h : DH} {t : T} {x : D} (r1 : BV A h t x) : (∃ b, t = .bl b ∧ x = .bl b) ∨ (∃ b, t = .int b ∧ x = .int b) ∨ (∃ b, t = .str b ∧ x = .str b) ∨ (t = .non ∧ x = .non) ∨ ((∃ ts, t = .tup ts) ∧ ∃ xs, x = .tup xs) ∨ (((∃ ts, t = .lst ts) ∨ (∃ ts, t = .fro ts) ∨ (∃ ts, t = .dic ts) ∨ ∃ c fs, t = .obj c fs) ∧ ∃ n, x = .ref n) := by
  cases t with
  | non => exact .inr (.inr (.inr (.inl ⟨rfl, bv_non r1⟩)))
  | bl b => exact .inl ⟨b, rfl, bv_bl r1⟩
  | int b => exact .inr (.inl ⟨b, rfl, bv_int r1⟩)
  | str b => exact .inr (.inr (.inl ⟨b, rfl, bv_str r1⟩))
  | tup ts => obtain ⟨xs, e, _⟩ := bv_tup r1; exact .inr (.inr (.inr (.inr (.inl ⟨⟨ts, rfl⟩, xs, e⟩))))
  | lst ts => obtain ⟨n, xs, e, _⟩ := r1; exact .inr (.inr (.inr (.inr (.inr ⟨.inl ⟨ts, rfl⟩, n, e⟩))))
  | fro ts => obtain ⟨n, xs, e, _⟩ := bv_fro r1; exact .inr (.inr (.inr (.inr (.inr ⟨.inr (.inl ⟨ts, rfl⟩), n, e⟩))))
  | dic ts => obtain ⟨n, xs, e, _⟩ := r1; exact .inr (.inr (.inr (.inr (.inr ⟨.inr (.inr (.inl ⟨ts, rfl⟩)), n, e⟩))))
  | obj c ts => obtain ⟨n, xs, e, _⟩ := r1; exact .inr (.inr (.inr (.inr (.inr ⟨.inr (.inr (.inr ⟨c, ts, rfl⟩)), n, e⟩))))
theorem eqS_same {A : Nat → Prop} {h : DH} {t u : T} {x y : D} (r1 : BV A h t x) (r2 : BV A h u y) : eqS x y = eqST t u := by
  rcases bv_sort r1 with ⟨b, rfl, rfl⟩ | ⟨b, rfl, rfl⟩ | ⟨b, rfl, rfl⟩ | ⟨rfl, rfl⟩ | ⟨⟨ts, rfl⟩, xs, rfl⟩ | ⟨⟨ts, rfl⟩ | ⟨ts, rfl⟩ | ⟨ts, rfl⟩ | ⟨c0, ts, rfl⟩, n, rfl⟩ <;> rcases bv_sort r2 with ⟨c, rfl, rfl⟩ | ⟨c, rfl, rfl⟩ | ⟨c, rfl, rfl⟩ | ⟨rfl, rfl⟩ | ⟨⟨us, rfl⟩, ys, rfl⟩ | ⟨⟨us, rfl⟩ | ⟨us, rfl⟩ | ⟨us, rfl⟩ | ⟨c1, us, rfl⟩, m, rfl⟩ <;> rfl
theorem eqS_bv {A : Nat → Prop} {h : DH} {t u : T} {x y : D} {b : Bool} (r1 : BV A h t x) (r2 : BV A h u y) (e : eqST t u = some b) : eqS x y = some b := by rw [eqS_same r1 r2, e]
theorem eqS_bn {A : Nat → Prop} {h : DH} {t u : T} {x y : D} (r1 : BV A h t x) (r2 : BV A h u y) (e : eqST t u = none) : eqS x y = none := by rw [eqS_same r1 r2, e]
mutual
def pyF : Nat → T → Option PyData
  | 0, _ => none
  | _ + 1, .non => some .none
  | _ + 1, .bl b => some (.bool b)
  | _ + 1, .int i => some (.int i)
  | _ + 1, .str z => some (.str z)
  | k + 1, .tup xs => (pyFs k xs).map .tuple
  | k + 1, .lst xs => (pyFs k xs).map .list
  | k + 1, .fro xs => (pyFs k xs).map .list
  | _ + 1, .dic _ => none
  | _ + 1, .obj _ _ => none
def pyFs : Nat → List T → Option (List PyData)
  | _, [] => some []
  | k, x :: r => (pyF k x).bind fun d => (pyFs k r).map (d :: ·)
end
mutual
theorem py_val {A : Nat → Prop} {h : DH} : ∀ (k : Nat) (t : T) (d : D) (p : PyData), Val A h t d → pyF k t = some p → pyD h k d = some p
  | 0, t, d, p, r, e => by simp only [pyF] at e; cases e
  | k + 1, .non, d, p, r, e => by rw [val_non.mp r]; simp only [pyF] at e; exact e
  | k + 1, .bl b, d, p, r, e => by rw [val_bl.mp r]; simp only [pyF] at e; exact e
  | k + 1, .int i, d, p, r, e => by rw [val_int.mp r]; simp only [pyF] at e; exact e
  | k + 1, .str z, d, p, r, e => by rw [val_str.mp r]; simp only [pyF] at e; exact e
  | k + 1, .tup ts, d, p, r, e => by
    obtain ⟨xs, rfl, r1⟩ := val_tup.mp r
    simp only [pyF] at e
    cases q : pyFs k ts with
    | none => rw [q] at e; cases e
    | some ps => rw [q] at e; simp only [pyD]; rw [py_vals k ts xs ps r1 q]; exact e
  | k + 1, .lst ts, d, p, r, e => by
    obtain ⟨n, xs, rfl, _, hn, r1⟩ := val_lst.mp r
    simp only [pyF] at e
    cases q : pyFs k ts with
    | none => rw [q] at e; cases e
    | some ps =>
      rw [q] at e; simp only [pyD, items_lst hn, Option.bind]
      rw [py_vals k ts xs ps r1 q]; exact e
  | k + 1, .fro ts, d, p, r, e => by
    obtain ⟨n, xs, rfl, _, hn, r1⟩ := val_fro.mp r
    simp only [pyF] at e
    have hi : itemsD (.ref n) h = some xs := by simp only [itemsD, hn]
    cases q : pyFs k ts with
    | none => rw [q] at e; cases e
    | some ps =>
      rw [q] at e; simp only [pyD, hi, Option.bind]
      rw [py_vals k ts xs ps r1 q]; exact e
  | k + 1, .dic ts, d, p, r, e => by simp only [pyF] at e; cases e
  | k + 1, .obj c ts, d, p, r, e => by simp only [pyF] at e; cases e
theorem py_vals {A : Nat → Prop} {h : DH} : ∀ (k : Nat) (ts : List T) (xs : List D) (ps : List PyData), Vals A h ts xs → pyFs k ts = some ps → pyAll (pyD h k) xs = some ps
  | k, [], xs, ps, r, e => by simp only [Vals] at r; rw [r]; simp only [pyFs] at e; exact e
  | k, t :: ts, xs, ps, r, e => by
    simp only [Vals] at r
    obtain ⟨d, ds, rfl, r1, r2⟩ := r
    simp only [pyFs] at e
    cases q1 : pyF k t with
    | none => rw [q1] at e; cases e
    | some p =>
      rw [q1] at e
      cases q2 : pyFs k ts with
      | none => rw [q2] at e; cases e
      | some qs =>
        rw [q2] at e
        simp only [pyAll]
        rw [py_val k t d p r1 q1, py_vals k ts ds qs r2 q2]
        exact e
end
theorem py_bv {A : Nat → Prop} {h : DH} {k : Nat} {t : T} {d : D} {p : PyData} (r : BV A h t d) (e : pyF k t = some p) : pyD h k d = some p := by
  cases t with
  | lst ts =>
    obtain ⟨n, xs, rfl, hn, r⟩ := r
    cases k with
    | zero => simp only [pyF] at e; cases e
    | succ k =>
      simp only [pyF] at e
      cases q : pyFs k ts with
      | none => rw [q] at e; cases e
      | some ps =>
        rw [q] at e; simp only [pyD, items_lst hn, Option.bind]
        rw [py_vals k ts xs ps r q]; exact e
  | dic ks => cases k <;> (simp only [pyF] at e; cases e)
  | obj c ks => cases k <;> (simp only [pyF] at e; cases e)
  | _ => exact py_val k _ d p r e
def deepT (t u : T) : Option Bool := match pyF 70 t, pyF 70 u with
  | some d, some e => if SeqAt.shaped d && SeqAt.shaped e then some (PyData.eqv d e) else none
  | _, _ => none
def eqT (t u : T) : Option Bool := match eqST t u with | some b => some b | none => deepT t u
theorem eqA_bv {A : Nat → Prop} {h : DH} {t u : T} {x y : D} {b : Bool} (r1 : BV A h t x) (r2 : BV A h u y) (e : eqT t u = some b) : eqA x y h = some b := by
  unfold eqT at e
  unfold eqA
  cases q : eqST t u with
  | some c =>
    rw [q] at e
    rw [eqS_bv r1 r2 q]
    exact e
  | none =>
    rw [q] at e
    rw [eqS_bn r1 r2 q]
    show deepE x y h = some b
    have e : deepT t u = some b := e
    unfold deepT at e
    cases q1 : pyF 70 t with
    | none => rw [q1] at e; cases e
    | some d =>
      cases q2 : pyF 70 u with
      | none => rw [q1, q2] at e; cases e
      | some c =>
        rw [q1, q2] at e
        unfold deepE
        rw [py_bv r1 q1, py_bv r2 q2]
        exact e
def oBl (f : T → T → Option Bool) (t u : T) : Option T := (f t u).map .bl
def oNb (f : T → T → Option Bool) (t u : T) : Option T := (f t u).map fun b => .bl (!b)
theorem map_some {α β : Type} {o : Option α} {f : α → β} {b : β} (e : o.map f = some b) : ∃ a, o = some a ∧ f a = b := by
  cases o with
  | none => cases e
  | some a => exact ⟨a, rfl, Option.some.inj e⟩
theorem o_eq : SOp eqD (oBl eqST) := fun A h x y t u v big r1 r2 e => by
  obtain ⟨b, eb, rfl⟩ := map_some e
  unfold eqD; rw [eqS_bv r1 r2 eb]
  exact ⟨Keep.refl _, val_bl.mpr rfl⟩
theorem o_ne : SOp neD (oNb eqST) := fun A h x y t u v big r1 r2 e => by
  obtain ⟨b, eb, rfl⟩ := map_some e
  unfold neD; rw [eqS_bv r1 r2 eb]
  exact ⟨Keep.refl _, val_bl.mpr rfl⟩
theorem o_eqD : SOp eqDD (oBl eqT) := fun A h x y t u v big r1 r2 e => by
  obtain ⟨b, eb, rfl⟩ := map_some e
  unfold eqDD; rw [eqA_bv r1 r2 eb]
  exact ⟨Keep.refl _, val_bl.mpr rfl⟩
theorem o_neD : SOp neDD (oNb eqT) := fun A h x y t u v big r1 r2 e => by
  obtain ⟨b, eb, rfl⟩ := map_some e
  unfold neDD; rw [eqA_bv r1 r2 eb]
  exact ⟨Keep.refl _, val_bl.mpr rfl⟩
def isNT (t u : T) : Option Bool := match u with | .non => (match t with | .non => some true | _ => some false) | _ => none
theorem isND_s {A : Nat → Prop} {h : DH} {t u : T} {x y : D} {b : Bool} (r1 : BV A h t x) (r2 : BV A h u y) (e : isNT t u = some b) : isND x y h = .ok (.bl b) h ∧ ntND x y h = .ok (.bl (!b)) h := by
  rcases bv_sort r2 with ⟨c, rfl, rfl⟩ | ⟨c, rfl, rfl⟩ | ⟨c, rfl, rfl⟩ | ⟨rfl, rfl⟩ | ⟨⟨us, rfl⟩, ys, rfl⟩ | ⟨⟨us, rfl⟩ | ⟨us, rfl⟩ | ⟨us, rfl⟩ | ⟨c1, us, rfl⟩, m, rfl⟩ <;> try (cases e; done)
  rcases bv_sort r1 with ⟨b, rfl, rfl⟩ | ⟨b, rfl, rfl⟩ | ⟨b, rfl, rfl⟩ | ⟨rfl, rfl⟩ | ⟨⟨ts, rfl⟩, xs, rfl⟩ | ⟨⟨ts, rfl⟩ | ⟨ts, rfl⟩ | ⟨ts, rfl⟩ | ⟨c0, ts, rfl⟩, n, rfl⟩ <;> (cases e; exact ⟨rfl, rfl⟩)
theorem o_isN : SOp isND (oBl isNT) := fun A h x y t u v big r1 r2 e => by
  obtain ⟨b, eb, rfl⟩ := map_some e
  rw [(isND_s r1 r2 eb).1]
  exact ⟨Keep.refl _, val_bl.mpr rfl⟩
theorem o_ntN : SOp ntND (oNb isNT) := fun A h x y t u v big r1 r2 e => by
  obtain ⟨b, eb, rfl⟩ := map_some e
  rw [(isND_s r1 r2 eb).2]
  exact ⟨Keep.refl _, val_bl.mpr rfl⟩
end Fu
namespace Fu
open PySem L2 Mi
/-! more operations -/
def flatT : T → Bool
  | .non => true
  | .bl _ => true
  | .int _ => true
  | .str _ => true
  | _ => false
def eqFT : T → T → Bool
  | .non, .non => true
  | .bl a, .bl b => a == b
  | .bl a, .int b => (if a then 1 else 0) == b
  | .int a, .bl b => a == (if b then 1 else 0)
  | .int a, .int b => a == b
  | .str a, .str b => a == b
  | _, _ => false
def toD : T → D
  | .bl b => .bl b
  | .int i => .int i
  | .str s => .str s
  | _ => .non
section
variable {A : Nat → Prop} {h : DH}
theorem flat_val {t : T} {d : D} (r : Val A h t d) (f : flatT t = true) : d = toD t ∧ flatD d = true := by
  cases t with
  | non => rw [val_non.mp r]; exact ⟨rfl, rfl⟩
  | bl b => rw [val_bl.mp r]; exact ⟨rfl, rfl⟩
  | int b => rw [val_int.mp r]; exact ⟨rfl, rfl⟩
  | str b => rw [val_str.mp r]; exact ⟨rfl, rfl⟩
  | _ => cases f
theorem flat_bv {t : T} {d : D} (r : BV A h t d) (f : flatT t = true) : d = toD t ∧ flatD d = true := by
  cases t with
  | lst _ => cases f
  | dic _ => cases f
  | obj _ _ => cases f
  | _ => exact flat_val (A := A) (h := h) r f
theorem flat_vals : ∀ {ts : List T} {ds : List D}, Vals A h ts ds → ts.all flatT = true → ds = ts.map toD ∧ ds.all flatD = true
  | [], ds, r, f => by simp only [Vals] at r; rw [r]; exact ⟨rfl, rfl⟩
  | t :: ts, ds, r, f => by
    simp only [Vals] at r
    obtain ⟨d, es, rfl, r1, r2⟩ := r
    simp only [List.all_cons, Bool.and_eq_true] at f
    obtain ⟨e1, f1⟩ := flat_val r1 f.1
    obtain ⟨e2, f2⟩ := flat_vals r2 f.2
    exact ⟨by rw [e1, e2]; rfl, by simp only [List.all_cons, f1, f2, Bool.and_self]⟩
theorem eqF_toD {t u : T} (f : flatT t = true) (g : flatT u = true) : eqF (toD t) (toD u) = eqFT t u := by
  cases t <;> first | (cases f; done) | (cases u <;> first | (cases g; done) | rfl)
theorem any_toD {u : T} (g : flatT u = true) : ∀ {ts : List T}, ts.all flatT = true → ((ts.map toD).any fun z => eqF z (toD u)) = ts.any fun z => eqFT z u
  | [], f => rfl
  | t :: ts, f => by
    simp only [List.all_cons, Bool.and_eq_true] at f
    simp only [List.map_cons, List.any_cons, eqF_toD f.1 g, any_toD g f.2]
end
def flatInT (x y : T) : Option Bool := match y with
  | .str _ => none
  | _ => (match itemsT y with
    | some xs => if flatT x && xs.all flatT then some (xs.any fun z => eqFT z x) else none
    | none => none)
def deepInT (x y : T) : Option Bool := match pyF 70 x, pyF 70 y with
  | some d, some (.list ds) => if SeqAt.shaped d && SeqAt.shaped (.list ds) then some (ds.any fun z => PyData.eqv z d) else none
  | _, _ => none
def inT (x y : T) : Option Bool := match flatInT x y with | some b => some b | none => deepInT x y
def memT (neg : Bool) (x y : T) : Option T := (inT x y).map fun b => .bl (if neg then !b else b)
section
variable {A : Nat → Prop} {h : DH}
theorem flatIn_bv {t u : T} {x y : D} (r1 : BV A h t x) (r2 : BV A h u y) {b : Bool} (e : flatInT t u = some b) : flatIn x y h = some b := by
  unfold flatInT at e
  have key : ∀ us, itemsT u = some us → (match itemsT u with | some xs => if flatT t && xs.all flatT then some (xs.any fun z => eqFT z t) else none | none => none) = some b → flatIn x y h = some b := fun us q e => by
    obtain ⟨ys, i1, i2, i3⟩ := items_bv r2 q
    rw [q] at e
    obtain ⟨c, rfl⟩ := ite_some e
    simp only [Bool.and_eq_true] at c
    obtain ⟨e1, f1⟩ := flat_bv r1 c.1
    obtain ⟨e2, f2⟩ := flat_vals i2 c.2
    unfold flatIn
    cases y with
    | str z => exact absurd rfl (i3 z)
    | _ => simp only [i1, f1, f2, Bool.and_self, if_true]; rw [e2, e1, any_toD c.1 c.2]
  cases u with
  | str z => cases e
  | tup us => exact key us rfl e
  | lst us => exact key us rfl e
  | fro us => exact key us rfl e
  | _ => cases e
theorem in_none {x y : D} {ds : List PyData} {d : PyData} (q1 : pyD h 70 x = some d) (q2 : pyD h 70 y = some (.list ds)) (c : (SeqAt.shaped d && SeqAt.shaped (.list ds)) = true) : deepIn x y h = some (ds.any fun z => PyData.eqv z d) := by
  unfold deepIn; rw [q1, q2]; simp only [c, if_true]
end
/-- where both readings of `in` speak, they say the same; we ask only that the flat one does not speak otherwise -/
def memDT (neg : Bool) (x y : T) : Option T := match flatInT x y with
  | some b => some (.bl (if neg then !b else b))
  | none => (match y with
    | .lst ys => if flatT x && ys.all flatT then none else (deepInT x y).map fun b => .bl (if neg then !b else b)
    | .fro ys => if flatT x && ys.all flatT then none else (deepInT x y).map fun b => .bl (if neg then !b else b)
    | _ => none)
theorem flat_toD {A : Nat → Prop} {h : DH} {t : T} {d : D} (r : Val A h t d) : flatD d = flatT t := by
  rcases bv_sort r.bv with ⟨b, rfl, rfl⟩ | ⟨b, rfl, rfl⟩ | ⟨b, rfl, rfl⟩ | ⟨rfl, rfl⟩ | ⟨⟨ts, rfl⟩, xs, rfl⟩ | ⟨⟨ts, rfl⟩ | ⟨ts, rfl⟩ | ⟨ts, rfl⟩ | ⟨c0, ts, rfl⟩, n, rfl⟩ <;> rfl
theorem flat_toB {A : Nat → Prop} {h : DH} {t : T} {d : D} (r : BV A h t d) : flatD d = flatT t := by
  rcases bv_sort r with ⟨b, rfl, rfl⟩ | ⟨b, rfl, rfl⟩ | ⟨b, rfl, rfl⟩ | ⟨rfl, rfl⟩ | ⟨⟨ts, rfl⟩, xs, rfl⟩ | ⟨⟨ts, rfl⟩ | ⟨ts, rfl⟩ | ⟨ts, rfl⟩ | ⟨c0, ts, rfl⟩, n, rfl⟩ <;> rfl
theorem flat_toDs {A : Nat → Prop} {h : DH} : ∀ {ts : List T} {ds : List D}, Vals A h ts ds → ds.all flatD = ts.all flatT
  | [], ds, r => by simp only [Vals] at r; rw [r]; rfl
  | t :: ts, ds, r => by
    simp only [Vals] at r
    obtain ⟨d, es, rfl, r1, r2⟩ := r
    simp only [List.all_cons, flat_toD r1, flat_toDs r2]
theorem o_inD (neg : Bool) : SOp (inDD neg) (memDT neg) := fun A h x y t u v big r1 r2 e => by
  unfold memDT at e
  cases q : flatInT t u with
  | some b =>
    rw [q] at e
    cases e
    unfold inDD inA
    rw [flatIn_bv r1 r2 q]
    exact ⟨Keep.refl _, val_bl.mpr rfl⟩
  | none =>
    rw [q] at e
    have key : ∀ us, (u = .lst us ∨ u = .fro us) → (if flatT t && us.all flatT then none else (deepInT t u).map fun b => T.bl (if neg then !b else b)) = some v → SatE (inDD neg x y h) fun d h' => Keep h h' ∧ Val A h' v d := fun us hu e => by
      cases c : flatT t && us.all flatT with
      | true => rw [c] at e; cases e
      | false =>
        rw [c] at e
        obtain ⟨b, eb, rfl⟩ := map_some e
        have hi : itemsT u = some us := by rcases hu with rfl | rfl <;> rfl
        obtain ⟨ys, i1, i2, i3⟩ := items_bv r2 hi
        have f0 : flatIn x y h = none := by
          unfold flatIn
          cases y with
          | str z => exact absurd rfl (i3 z)
          | _ => simp only [i1, flat_toB r1, flat_toDs i2, c, Bool.false_eq_true, if_false]
        unfold deepInT at eb
        cases q1 : pyF 70 t with
        | none => rw [q1] at eb; cases eb
        | some d =>
          cases q2 : pyF 70 u with
          | none => rw [q1, q2] at eb; cases eb
          | some l =>
            rw [q1, q2] at eb
            cases l with
            | list ds =>
              obtain ⟨c2, rfl⟩ := ite_some eb
              unfold inDD inA
              rw [f0, in_none (py_bv r1 q1) (py_bv r2 q2) c2]
              exact ⟨Keep.refl _, val_bl.mpr rfl⟩
            | _ => cases eb
    cases u with
    | lst us => exact key us (.inl rfl) e
    | fro us => exact key us (.inr rfl) e
    | _ => cases e
def memFT (neg : Bool) (x y : T) : Option T := (flatInT x y).map fun b => .bl (if neg then !b else b)
theorem o_in (neg : Bool) : SOp (inD neg) (memFT neg) := fun A h x y t u v big r1 r2 e => by
  obtain ⟨b, eb, rfl⟩ := map_some e
  have f0 := flatIn_bv r1 r2 eb
  unfold flatIn at f0
  unfold inD
  cases y with
  | str z => cases f0
  | _ =>
    simp only at f0 ⊢
    split at f0
    · rename_i us q
      try rw [q]
      obtain ⟨c, rfl⟩ := ite_some f0
      simp only [c, if_true]
      exact ⟨Keep.refl _, val_bl.mpr rfl⟩
    · cases f0
/-! items -/
theorem ixK_get {α : Type} {xs : List α} {i : Int} {x : α} (e : atI xs i = some x) : ∃ k : Nat, xs[k]? = some x ∧ ∀ {β : Type} (ys : List β), ys.length = xs.length → atI ys i = ys[k]? := by
  unfold atI at e ⊢
  cases q : ixN xs.length i with
  | none => rw [q] at e; cases e
  | some k =>
    rw [q] at e
    exact ⟨k, e, fun ys hl => by rw [hl, q]; rfl⟩
def ixT (x y : T) : Option T :=
  match y with
  | .int i => (match x with
    | .str z => if z.length ≤ 16777216 then (atI z.cps.toList i).map fun c => .str ⟨#[c]⟩ else none
    | _ => (itemsT x).bind fun xs => atI xs i)
  | _ => none
theorem o_ix : SOp ixD ixT := fun A h x y t u v big r1 r2 e => by
  unfold ixT at e
  cases u with
  | int i =>
    rw [bv_int r2]
    have key : ∀ ts, itemsT t = some ts → atI ts i = some v → SatE (ixD x (.int i) h) fun d h' => Keep h h' ∧ Val A h' v d := fun ts q e => by
      obtain ⟨xs, i1, i2, i3⟩ := items_bv r1 q
      obtain ⟨k, k1, k2⟩ := ixK_get e
      obtain ⟨d, d1, d2⟩ := i2.get k1
      have := k2 xs i2.length
      rw [w_ixs i1 (this.trans d1)]
      exact ⟨Keep.refl _, d2⟩
    cases t with
    | str z =>
      rw [bv_str r1]
      obtain ⟨c, e⟩ : z.length ≤ 16777216 ∧ ((atI z.cps.toList i).map fun c => T.str ⟨#[c]⟩) = some v := by
        by_cases q : z.length ≤ 16777216
        · exact ⟨q, by simp only [if_pos q] at e; exact e⟩
        · simp only [if_neg q] at e; cases e
      obtain ⟨a, ea, rfl⟩ := map_some e
      simp only [ixD, if_pos c, ea]
      exact ⟨Keep.refl _, val_str.mpr rfl⟩
    | tup ts => exact key ts rfl e
    | lst ts => exact key ts rfl e
    | fro ts => exact key ts rfl e
    | _ => cases e
  | _ => cases e
theorem cut_vals {A : Nat → Prop} {h : DH} {ts : List T} {xs : List D} (r : Vals A h ts xs) (lo hi : Option Int) : Vals A h (cutD ts lo hi) (cutD xs lo hi) := by
  unfold cutD
  rw [r.length]
  exact (r.drop _).take _
def slT (x : T) (lo hi : Option Int) : Option T :=
  match x with
  | .tup xs => if HT.sIx xs.length 0 lo = 0 ∧ HT.sIx xs.length xs.length hi = xs.length then none else some (.tup (cutD xs lo hi))
  | .lst xs => some (.lst (cutD xs lo hi))
  | .fro xs => some (.lst (cutD xs lo hi))
  | .str z => if z.length ≤ 16777216 then some (.str (cutS z lo hi)) else none
  | _ => none
def slLT (x : T) (lo hi : Option Int) : Option T :=
  match x with
  | .lst xs => some (.lst (cutD xs lo hi))
  | .fro xs => some (.lst (cutD xs lo hi))
  | _ => none
theorem x_sl {A : Nat → Prop} {h : DH} {t v : T} {x : D} {lo hi : Option Int} (r : BV A h t x) (e : slLT t lo hi = some v) : SatE (slD x lo hi h) fun d h' => Keep h h' ∧ NewV A h h' v d := by
  unfold slLT at e
  have key : ∀ ts, itemsT t = some ts → (∃ n, x = .ref n) → v = .lst (cutD ts lo hi) → SatE (slD x lo hi h) fun d h' => Keep h h' ∧ NewV A h h' v d := fun ts q ⟨n, hn⟩ e => by
    obtain ⟨xs, i1, i2, i3⟩ := items_bv r q
    subst hn
    subst e
    simp only [slD, i1]
    exact ⟨Keep.app _ _, new_of (cut_vals i2 lo hi)⟩
  cases t with
  | lst ts => cases e; obtain ⟨n, xs, rfl, _⟩ := id r; exact key ts rfl ⟨n, rfl⟩ rfl
  | fro ts => cases e; obtain ⟨n, xs, rfl, _⟩ := bv_fro r; exact key ts rfl ⟨n, rfl⟩ rfl
  | _ => cases e
theorem o_sl {A : Nat → Prop} {h : DH} {t v : T} {x : D} {lo hi : Option Int} (big : ∀ m, h.length ≤ m → A m) (r : BV A h t x) (e : slT t lo hi = some v) : SatE (slD x lo hi h) fun d h' => Keep h h' ∧ Val A h' v d := by
  have key : slLT t lo hi = some v → SatE (slD x lo hi h) fun d h' => Keep h h' ∧ Val A h' v d := fun e => (x_sl r e).imp fun d h' ⟨k, n⟩ => ⟨k, n.val big⟩
  cases t with
  | tup ts =>
    obtain ⟨xs, rfl, r1⟩ := bv_tup r
    unfold slT at e
    simp only at e
    split at e
    · cases e
    · rename_i c
      cases e
      simp only [slD]
      rw [r1.length, if_neg c]
      exact ⟨Keep.refl _, val_tup.mpr ⟨_, rfl, cut_vals r1 lo hi⟩⟩
  | str z =>
    rw [bv_str r]
    obtain ⟨c, rfl⟩ := ite_some (show (if z.length ≤ 16777216 then some (T.str (cutS z lo hi)) else none) = some v from e)
    simp only [slD, if_pos c]
    exact ⟨Keep.refl _, val_str.mpr rfl⟩
  | lst ts => exact key e
  | fro ts => exact key e
  | _ => cases e
/-! what is built in -/
theorem bvs0 {A : Nat → Prop} {h : DH} {xs : List D} (r : BVs A h [] xs) : xs = [] := r
theorem bvs1 {A : Nat → Prop} {h : DH} {t : T} {xs : List D} (r : BVs A h [t] xs) : ∃ d, xs = [d] ∧ BV A h t d := by
  obtain ⟨d, ds, rfl, r, s⟩ := r
  rw [bvs0 s]
  exact ⟨d, rfl, r⟩
theorem bvs2 {A : Nat → Prop} {h : DH} {t u : T} {xs : List D} (r : BVs A h [t, u] xs) : ∃ d e, xs = [d, e] ∧ BV A h t d ∧ BV A h u e := by
  obtain ⟨d, ds, rfl, r1, s⟩ := r
  obtain ⟨e, rfl, s1⟩ := bvs1 s
  exact ⟨d, e, rfl, r1, s1⟩
def lenT (ts : List T) : Option T := match ts with
  | [.str z] => if z.length ≤ 16777216 then some (.int z.length) else none
  | [x] => (itemsT x).map fun xs => .int xs.length
  | _ => none
theorem c_len : SCl lenD lenT := fun A h xs ts v big r e => by
  have key : ∀ t us, ts = [t] → itemsT t = some us → some (T.int us.length) = some v → SatE (lenD xs h) fun d h' => Keep h h' ∧ Val A h' v d := fun t us ht q e2 => by
    subst ht
    obtain ⟨d, rfl, r1⟩ := bvs1 r
    obtain ⟨ys, i1, i2, i3⟩ := items_bv r1 q
    rw [w_len i1]
    cases e2
    exact ⟨Keep.refl _, val_int.mpr (by rw [i2.length])⟩
  unfold lenT at e
  split at e
  · rename_i z
    obtain ⟨d, rfl, r1⟩ := bvs1 r
    rw [bv_str r1]
    obtain ⟨c, rfl⟩ := ite_some e
    simp only [lenD, if_pos c]
    exact ⟨Keep.refl _, val_int.mpr rfl⟩
  · rename_i t _
    cases q : itemsT t with
    | none => rw [q] at e; cases e
    | some us => rw [q] at e; exact key t us rfl q e
  · cases e
def intT (ts : List T) : Option T := match ts with
  | [.int i] => some (.int i)
  | [.bl k] => some (.int (if k then 1 else 0))
  | _ => none
theorem c_int : SCl intD intT := fun A h xs ts v big r e => by
  unfold intT at e
  split at e
  · obtain ⟨d, rfl, r1⟩ := bvs1 r; rw [bv_int r1]; cases e; exact ⟨Keep.refl _, val_int.mpr rfl⟩
  · obtain ⟨d, rfl, r1⟩ := bvs1 r; rw [bv_bl r1]; cases e; exact ⟨Keep.refl _, val_int.mpr rfl⟩
  · cases e
def absT (ts : List T) : Option T := match ts with
  | [.int i] => some (.int (if i < 0 then -i else i))
  | _ => none
theorem c_abs : SCl absD absT := fun A h xs ts v big r e => by
  unfold absT at e
  split at e
  · obtain ⟨d, rfl, r1⟩ := bvs1 r; rw [bv_int r1]; cases e; exact ⟨Keep.refl _, val_int.mpr rfl⟩
  · cases e
def max2T (ts : List T) : Option T := match ts with
  | [.int i, .int j] => some (.int (if j > i then j else i))
  | _ => none
theorem c_max2 : SCl max2D max2T := fun A h xs ts v big r e => by
  unfold max2T at e
  split at e
  · obtain ⟨d, e', rfl, r1, r2⟩ := bvs2 r; rw [bv_int r1, bv_int r2]; cases e; exact ⟨Keep.refl _, val_int.mpr rfl⟩
  · cases e
def min2T (ts : List T) : Option T := match ts with
  | [.int i, .int j] => some (.int (if j < i then j else i))
  | _ => none
theorem c_min2 : SCl min2D min2T := fun A h xs ts v big r e => by
  unfold min2T at e
  split at e
  · obtain ⟨d, e', rfl, r1, r2⟩ := bvs2 r; rw [bv_int r1, bv_int r2]; cases e; exact ⟨Keep.refl _, val_int.mpr rfl⟩
  · cases e
def lstT (ts : List T) : Option T := match ts with
  | [x] => (itemsT x).map .lst
  | _ => none
theorem x_lst : SClX lstD lstT := fun A h xs ts v big r e => by
  unfold lstT at e
  split at e
  · rename_i t
    obtain ⟨d, rfl, r1⟩ := bvs1 r
    obtain ⟨us, q, rfl⟩ := map_some e
    obtain ⟨ys, i1, i2, i3⟩ := items_bv r1 q
    simp only [lstD, i1]
    exact ⟨Keep.app _ _, new_of i2⟩
  · cases e
def tupT (ts : List T) : Option T := match ts with
  | [x] => (itemsT x).map .tup
  | _ => none
theorem c_tup : SCl tupD tupT := fun A h xs ts v big r e => by
  unfold tupT at e
  split at e
  · rename_i t
    obtain ⟨d, rfl, r1⟩ := bvs1 r
    obtain ⟨us, q, rfl⟩ := map_some e
    obtain ⟨ys, i1, i2, i3⟩ := items_bv r1 q
    have fin : SatE (Res.ok (D.tup ys) h) fun d h' => Keep h h' ∧ Val A h' (.tup us) d := ⟨Keep.refl _, val_tup.mpr ⟨_, rfl, i2⟩⟩
    cases d with
    | tup zs => cases i1; exact fin
    | ref n => simp only [tupD, i1]; exact fin
    | _ => cases i1
  · cases e
def intsT : List T → Option (List Int)
  | [] => some []
  | .int i :: r => (intsT r).map (i :: ·)
  | _ :: _ => none
theorem intsT_ok {A : Nat → Prop} {h : DH} : ∀ {ts : List T} {xs : List D} {ns : List Int}, Vals A h ts xs → intsT ts = some ns → intsOf xs = some ns
  | [], xs, ns, r, e => by simp only [Vals] at r; rw [r]; exact e
  | t :: ts, xs, ns, r, e => by
    simp only [Vals] at r
    obtain ⟨d, ds, rfl, r1, r2⟩ := r
    cases t with
    | int i =>
      rw [val_int.mp r1]
      simp only [intsT] at e
      obtain ⟨ms, q, rfl⟩ := map_some e
      simp only [intsOf, intsT_ok r2 q, Option.map_some]
    | _ => cases e
def sumT (ts : List T) : Option T := match ts with
  | [.lst xs] => (intsT xs).map fun ns => .int ns.sum
  | [.fro xs] => (intsT xs).map fun ns => .int ns.sum
  | _ => none
theorem c_sum : SCl sumD sumT := fun A h xs ts v big r e => by
  have key : ∀ t us, ts = [t] → itemsT t = some us → (∃ n d, xs = [d] ∧ d = D.ref n) → ((intsT us).map fun ns => T.int ns.sum) = some v → SatE (sumD xs h) fun d h' => Keep h h' ∧ Val A h' v d := fun t us ht q hx e2 => by
    subst ht
    obtain ⟨d, hd, r1⟩ := bvs1 r
    obtain ⟨n, d', hd', rfl⟩ := hx
    rw [hd] at hd'
    cases hd'
    subst hd
    obtain ⟨ys, i1, i2, i3⟩ := items_bv r1 q
    obtain ⟨ns, q2, rfl⟩ := map_some e2
    unfold sumD lintsD
    simp only [i1, Option.bind, intsT_ok i2 q2]
    exact ⟨Keep.refl _, val_int.mpr rfl⟩
  unfold sumT at e
  split at e
  · rename_i us
    obtain ⟨d, hd, r1⟩ := bvs1 r
    obtain ⟨n, zs, hn, _⟩ := id r1
    exact key _ us rfl rfl ⟨n, d, hd, hn⟩ e
  · rename_i us
    obtain ⟨d, hd, r1⟩ := bvs1 r
    obtain ⟨n, zs, hn, _⟩ := bv_fro r1
    exact key _ us rfl rfl ⟨n, d, hd, hn⟩ e
  · cases e
def tyT : T → Option Ty
  | .non => some .non
  | .bl _ => some .bool
  | .int _ => some .int
  | .str _ => some .str
  | .tup _ => some .tuple
  | .lst _ => some .list
  | .fro _ => some .list
  | .dic _ => some .dict
  | .obj _ _ => none
theorem ty_bv {A : Nat → Prop} {h : DH} {t : T} {d : D} (r : BV A h t d) {S : Ty} (e : tyT t = some S) : tyD d h = some S := by
  cases t with
  | non => rw [bv_non r]; exact e
  | bl b => rw [bv_bl r]; exact e
  | int b => rw [bv_int r]; exact e
  | str b => rw [bv_str r]; exact e
  | tup ts => obtain ⟨xs, rfl, _⟩ := bv_tup r; exact e
  | lst ts => obtain ⟨n, xs, rfl, q, _⟩ := r; simp only [tyD, q]; exact e
  | fro ts => obtain ⟨n, xs, rfl, _, q, _⟩ := bv_fro r; simp only [tyD, q]; exact e
  | dic ts => obtain ⟨n, xs, rfl, q, _⟩ := r; simp only [tyD, q]; exact e
  | obj c fs => cases e
end Fu
/-! expressions beside their values -/
namespace Fu
open PySem L2 Mi
def fC (t : T) : FE := fun _ => some t
def fVar (i : Nat) : FE := fun e => e.getD i none
def fOp (g : T → T → Option T) (a b : FE) : FE := fun e => (a e).bind fun t => (b e).bind fun u => g t u
def fUn (g : T → Option T) (a : FE) : FE := fun e => (a e).bind g
def fNil : FA := fun _ => some []
def fCons (a : FE) (r : FA) : FA := fun e => (a e).bind fun t => (r e).bind fun ts => some (t :: ts)
def fStar (a : FE) (r : FA) : FA := fun e => (a e).bind fun t => (itemsT t).bind fun us => (r e).bind fun ts => some (us ++ ts)
def fTup (a : FA) : FE := fun e => (a e).bind fun ts => if ts.length ≤ 16777216 then some (.tup ts) else none
def fLst (a : FA) : FE := fun e => (a e).bind fun ts => if ts.length ≤ 16777216 then some (.lst ts) else none
def fCB (g : List T → Option T) (a : FA) : FE := fun e => (a e).bind g
def fCBF (g : List T → Option T) (a : FA) : FE := fun e => (a e).bind fun ts => (g ts).bind fun t => if flatT t = true then some t else none
def fTest (a : FE) : FT := fun e => (a e).bind fun t => match t with | .bl b => some b | _ => none
def fNot (t : FT) : FT := fun e => (t e).map (!·)
def fAnd (t u : FT) : FT := fun e => (t e).bind fun b => if b then u e else some false
def fOr (t u : FT) : FT := fun e => (t e).bind fun b => if b then some true else u e
def fYes : FT := fun _ => some true
def fNotV (a : FE) : FE := fun e => (a e).bind fun t => match t with | .bl b => some (.bl (!b)) | _ => none
def fAndV (a b : FE) : FE := fun e => (a e).bind fun t => match t with | .bl c => (if c then b e else some (.bl false)) | _ => none
def fOrV (a b : FE) : FE := fun e => (a e).bind fun t => match t with | .bl c => (if c then some (.bl true) else b e) | _ => none
def fIf (t : FT) (a b : FE) : FE := fun e => (t e).bind fun c => if c then a e else b e
def foNone : FO := fun _ => some none
def foSome (a : FE) : FO := fun e => (a e).bind fun t => match t with | .int i => some (some i) | _ => none
def fSl (g : T → Option Int → Option Int → Option T) (a : FE) (lo hi : FO) : FE := fun e => (a e).bind fun t => (lo e).bind fun l => (hi e).bind fun u => g t l u
def fChain (f g : T → T → Option T) (a b c : FE) : FE := fun e => (a e).bind fun x => (b e).bind fun y => (f x y).bind fun z => match z with | .bl k => (if k then (c e).bind fun w => g y w else some (.bl false)) | _ => none
def fIsi (S : Ty) (a : FE) : FE := fun e => (a e).bind fun t => (tyT t).map fun U => .bl (subTy U S)
def fFld (f : Str) (a : FE) : FE := fun e => (a e).bind fun t => match t with | .obj _ fs => fs.lookup f | _ => none
def negT : T → Option T
  | .int i => some (.int (-i))
  | _ => none
def fLook (tbl : List (Str × T)) (z : Str) : Option T := match tbl with
  | [] => none
  | p :: r => if p.1 = z then some p.2 else fLook r z
def fKD (tbl : List (Str × T)) (a : FE) : FE := fun e => (a e).bind fun t => match t with | .str z => fLook tbl z | _ => none
def fKIn (neg : Bool) (tbl : List (Str × T)) (a : FE) : FE := fun e => (a e).bind fun t => match t with | .str z => some (.bl (if neg then !(fLook tbl z).isSome else (fLook tbl z).isSome)) | _ => none
def wipeT (e : FSt) : List Nat → FSt
  | [] => e
  | v :: vs => (wipeT e vs).set v none
def lcT (j : Nat) (ft : FT) (fe : FE) (e : FSt) : List T → Option (List T)
  | [] => some []
  | x :: xs => (ft (e.set j (some x))).bind fun c => if c then (fe (e.set j (some x))).bind fun t => (lcT j ft fe e xs).map (t :: ·) else lcT j ft fe e xs
abbrev FI := FSt → Option (List T)
def fLc (fi : FI) (j : Nat) (ft : FT) (fe : FE) (vs : List Nat) : FE := fun e => (fi e).bind fun ts => if ts.length ≤ 16777216 then (lcT j ft fe (wipeT e vs) ts).map .lst else none
def fSeq (a : FE) : FI := fun e => (a e).bind itemsT
def rngT (lo : Int) (n : Nat) : List T := (List.range n).map fun i : Nat => T.int (lo + (i : Nat))
@[irreducible] def fR1 (a : FE) : FI := fun e => (a e).bind fun t => match t with | .int j => if -(2 ^ 62) ≤ j ∧ j < 2 ^ 62 then some (rngT 0 j.toNat) else none | _ => none
@[irreducible] def fR2 (a b : FE) : FI := fun e => (a e).bind fun t => (b e).bind fun u => match t, u with | .int i, .int j => if -(2 ^ 62) ≤ i ∧ i < 2 ^ 62 ∧ -(2 ^ 62) ≤ j ∧ j < 2 ^ 62 then some (rngT i (j - i).toNat) else none | _, _ => none
/-! ### what is meant -/
abbrev Any : Nat → Prop := fun _ => True
def ItV (A : Nat → Prop) (h : DH) (ts : List T) (it : Itd) : Prop := ∃ xs, Vals A h ts xs ∧ it.len h = xs.length ∧ ∀ h', KeepIn A h h' → ∀ i, it.at_ i h' = some xs[i]?
section
variable (w : Ws)
/-- a value to be shared -/
def SE (m : EM) (f : FE) : Prop := ∀ A X own ds h e, Rel A X w own ds h e → ∀ t, f e = some t → SatE (m ds h) fun d h' => Keep h h' ∧ Val (Al A w own) h' t d
/-- a list to be looked at, its items to be shared -/
def SB (m : EM) (f : FE) : Prop := ∀ A X own ds h e, Rel A X w own ds h e → ∀ t, f e = some t → SatE (m ds h) fun d h' => Keep h h' ∧ BV (Al A w own) h' t d
/-- a value to be looked at -/
def SN (m : EM) (f : FE) : Prop := ∀ A X own ds h e, Rel A X w own ds h e → ∀ t, f e = some t → SatE (m ds h) fun d h' => Keep h h' ∧ Val Any h' t d
/-- a new thing of a shape -/
def SX (sh : Sh) (m : EM) (f : FE) : Prop := ∀ A X own ds h e, Rel A X w own ds h e → ∀ t, f e = some t → SatE (m ds h) fun d h' => Keep h h' ∧ ∃ S, Od (fun m => Al A w own m ∧ m ∉ S) h' sh t d S ∧ S.Nodup ∧ ∀ x ∈ S, h.length ≤ x
def SA (m : AM) (f : FA) : Prop := ∀ A X own ds h e, Rel A X w own ds h e → ∀ t, f e = some t → SatE (m ds h) fun d h' => Keep h h' ∧ Vals (Al A w own) h' t d
def SBA (m : AM) (f : FA) : Prop := ∀ A X own ds h e, Rel A X w own ds h e → ∀ t, f e = some t → SatE (m ds h) fun d h' => Keep h h' ∧ BVs (Al A w own) h' t d
def SNA (m : AM) (f : FA) : Prop := ∀ A X own ds h e, Rel A X w own ds h e → ∀ t, f e = some t → SatE (m ds h) fun d h' => Keep h h' ∧ Vals Any h' t d
/-- new things of shapes -/
def SXA (es : List Sh) (m : AM) (f : FA) : Prop := ∀ A X own ds h e, Rel A X w own ds h e → ∀ t, f e = some t → SatE (m ds h) fun d h' => Keep h h' ∧ ∃ S, OdT (fun m => Al A w own m ∧ m ∉ S) h' es t d S ∧ S.Nodup ∧ ∀ x ∈ S, h.length ≤ x
def ST (m : TM) (f : FT) : Prop := ∀ A X own ds h e, Rel A X w own ds h e → ∀ t, f e = some t → SatE (m ds h) fun d h' => Keep h h' ∧ d = t
def SO (m : DSt → DH → Res (Option Int)) (f : FO) : Prop := ∀ A X own ds h e, Rel A X w own ds h e → ∀ t, f e = some t → SatE (m ds h) fun d h' => Keep h h' ∧ d = t
def SI (m : IM) (f : FI) : Prop := ∀ A X own ds h e, Rel A X w own ds h e → ∀ t, f e = some t → SatE (m ds h) fun d h' => Keep h h' ∧ ItV (Al A w own) h' t d
end
def RetV (sh : Sh) (A : Nat → Prop) (b : Nat) (h : DH) (t : T) (d : D) : Prop := ∃ S, Od (fun m => A m ∧ m ∉ S) h sh t d S ∧ S.Nodup ∧ ∀ x ∈ S, b ≤ x
theorem ret_s {A : Nat → Prop} {b : Nat} {h : DH} {t : T} {d : D} : RetV .s A b h t d ↔ Val A h t d := by
  unfold RetV
  simp only [Od]
  constructor
  · rintro ⟨S, ⟨rfl, v⟩, _⟩; exact v.sub fun m a _ => a.1
  · intro v; exact ⟨[], ⟨rfl, v.sub fun m a _ => ⟨a, fun z => nomatch z⟩⟩, List.nodup_nil, fun x z => nomatch z⟩
def SF (sh : Sh) (F : List D → DH → Res D) (G : List T → Option T) : Prop := ∀ A xs ts h, (∀ m, h.length ≤ m → A m) → Vals A h ts xs → ∀ t, G ts = some t → SatE (F xs h) fun d h' => Keep h h' ∧ RetV sh A h.length h' t d
theorem bind_some {α β : Type} {o : Option α} {f : α → Option β} {b : β} (e : o.bind f = some b) : ∃ a, o = some a ∧ f a = some b := by
  cases o with
  | none => cases e
  | some a => exact ⟨a, rfl, e⟩
theorem BV.any {A : Nat → Prop} {h : DH} {t : T} {d : D} (r : BV A h t d) : Val Any h t d := by
  cases t with
  | lst ts => obtain ⟨n, xs, rfl, q, v⟩ := r; exact val_lst.mpr ⟨n, xs, rfl, trivial, q, v.sub fun _ _ _ => trivial⟩
  | dic ts => obtain ⟨n, xs, rfl, q, v⟩ := r; exact val_dic.mpr ⟨n, xs, rfl, trivial, q, ValsK.mono (fun _ _ _ => trivial) (KeepIn.refl _ _) _ _ v⟩
  | obj c ts => obtain ⟨n, xs, rfl, q, v⟩ := r; exact val_obj.mpr ⟨n, xs, rfl, trivial, q, ValsO.mono (fun _ _ _ => trivial) (KeepIn.refl _ _) _ _ v⟩
  | _ => exact Val.sub (A := A) r fun _ _ _ => trivial
theorem flat_ind {A B : Nat → Prop} {h : DH} {t : T} {d : D} (f : flatT t = true) (v : Val A h t d) : Val B h t d := by
  cases t with
  | non => exact val_non.mpr (val_non.mp v)
  | bl b => exact val_bl.mpr (val_bl.mp v)
  | int b => exact val_int.mpr (val_int.mp v)
  | str b => exact val_str.mpr (val_str.mp v)
  | _ => cases f
theorem newV_od {A : Nat → Prop} {h h' : DH} {v : T} {d : D} (n : NewV A h h' v d) : ∃ S, Od (fun m => A m ∧ m ∉ S) h' (.l .s) v d S ∧ S.Nodup ∧ ∀ x ∈ S, h.length ≤ x := by
  obtain ⟨n, ts, xs, rfl, rfl, l, q, o⟩ := n
  refine ⟨[n], ?_, by simp, fun x hx => by rw [List.mem_singleton.mp hx]; exact l⟩
  simp only [Od]
  exact ⟨ts, n, xs, [], rfl, rfl, rfl, q, OdL.of_vals (o.sub fun m a _ => ⟨a.1, by simpa using a.2⟩)⟩
def isS : Sh → Bool
  | .s => true
  | _ => false
/-- a shape all parts of which are shared -/
def flatSh : Sh → Bool
  | .s => true
  | .l e => isS e
  | .d e => isS e
  | .m (.l e) => isS e
  | .m _ => false
  | .t es => es.all isS
  | .o _ _ es => es.all isS
theorem isS_eq {e : Sh} (h : isS e = true) : e = .s := by cases e <;> first | rfl | cases h
theorem odT_s {A : Nat → Prop} {h : DH} : ∀ {es : List Sh} {ts : List T} {xs : List D} {S : List Nat}, es.all isS = true → OdT A h es ts xs S → Vals A h ts xs
  | [], ts, xs, S, _, r => by simp only [OdT] at r; rw [r.1, r.2.1]; exact Vals.nil
  | e :: es, ts, xs, S, f, r => by
    simp only [List.all_cons, Bool.and_eq_true] at f
    simp only [OdT] at r
    obtain ⟨t, ts', d, ds, S1, S2, rfl, rfl, rfl, r1, r2⟩ := r
    rw [isS_eq f.1] at r1
    simp only [Od] at r1
    exact Vals.cons r1.2 (odT_s f.2 r2)
theorem od_bv {A : Nat → Prop} {h : DH} {sh : Sh} {t : T} {d : D} {S : List Nat} (f : flatSh sh = true) (o : Od A h sh t d S) : BV A h t d := by
  cases sh with
  | s => simp only [Od] at o; exact o.2.bv
  | l e =>
    rw [isS_eq f] at o
    simp only [Od] at o
    obtain ⟨ts, n, xs, S', rfl, rfl, _, q, ol⟩ := o
    exact ⟨n, xs, rfl, q, (OdL.to_vals ol).1⟩
  | d e =>
    rw [isS_eq f] at o
    simp only [Od] at o
    obtain ⟨ts, n, xs, S', rfl, rfl, _, q, q2, ol⟩ := o
    exact ⟨n, xs, rfl, q, valsK_of q2 (OdL.to_vals ol).1⟩
  | m e =>
    cases e with
    | l e =>
      rw [isS_eq f] at o
      simp only [Od] at o
      rcases o with ⟨_, rfl, rfl⟩ | o
      · show Val A h .non .non; exact val_non.mpr rfl
      · obtain ⟨ts, n, xs, S', rfl, rfl, _, q, ol⟩ := o
        exact ⟨n, xs, rfl, q, (OdL.to_vals ol).1⟩
    | _ => cases f
  | t es =>
    simp only [Od] at o
    obtain ⟨ts, xs, rfl, rfl, o⟩ := o
    exact val_tup.mpr ⟨xs, rfl, odT_s f o⟩
  | o c ns es =>
    simp only [Od] at o
    obtain ⟨gs, n, ws, S', rfl, rfl, _, q, q2, q3, o⟩ := o
    exact ⟨n, ws, rfl, q, valsO_of (q2.trans q3.symm) (odT_s f o)⟩
def FlatR (g : T → T → Option T) : Prop := ∀ t u v, g t u = some v → flatT v = true
def FlatC (g : List T → Option T) : Prop := ∀ t v, g t = some v → flatT v = true
theorem fr_ii {g : Int → Int → Option T} (k : ∀ i j v, g i j = some v → flatT v = true) : FlatR (iiT g) := fun t u v e => by
  obtain ⟨i, j, _, _, e⟩ := iiT_ok t u v e
  exact k i j v e
theorem fr_sub : FlatR subT := fr_ii fun i j v e => by cases e; rfl
theorem fr_lt : FlatR ltT := fr_ii fun i j v e => by cases e; rfl
theorem fr_le : FlatR leT := fr_ii fun i j v e => by cases e; rfl
theorem fr_gt : FlatR gtT := fr_ii fun i j v e => by cases e; rfl
theorem fr_ge : FlatR geT := fr_ii fun i j v e => by cases e; rfl
theorem fr_fdiv : FlatR fdivT := fr_ii fun i j v e => by obtain ⟨_, rfl⟩ := ite_some e; rfl
theorem fr_mod : FlatR modT := fr_ii fun i j v e => by obtain ⟨_, rfl⟩ := ite_some e; rfl
theorem fr_pow : FlatR powT := fr_ii fun i j v e => by obtain ⟨_, rfl⟩ := ite_some e; rfl
theorem fr_bl {f : T → T → Option Bool} : FlatR (oBl f) := fun t u v e => by obtain ⟨b, _, rfl⟩ := map_some e; rfl
theorem fr_nb {f : T → T → Option Bool} : FlatR (oNb f) := fun t u v e => by obtain ⟨b, _, rfl⟩ := map_some e; rfl
theorem fr_memF {n : Bool} : FlatR (memFT n) := fun t u v e => by obtain ⟨b, _, rfl⟩ := map_some e; rfl
theorem fr_memD {n : Bool} : FlatR (memDT n) := fun t u v e => by
  unfold memDT at e
  split at e
  · cases e; rfl
  · split at e
    · split at e
      · cases e
      · obtain ⟨b, _, rfl⟩ := map_some e; rfl
    · split at e
      · cases e
      · obtain ⟨b, _, rfl⟩ := map_some e; rfl
    · cases e
theorem fc_len : FlatC lenT := fun t v e => by
  unfold lenT at e
  split at e
  · obtain ⟨_, rfl⟩ := ite_some e; rfl
  · obtain ⟨b, _, rfl⟩ := map_some e; rfl
  · cases e
theorem fc_int : FlatC intT := fun t v e => by unfold intT at e; split at e <;> cases e <;> rfl
theorem fc_abs : FlatC absT := fun t v e => by unfold absT at e; split at e <;> cases e <;> rfl
theorem fc_max2 : FlatC max2T := fun t v e => by unfold max2T at e; split at e <;> cases e <;> rfl
theorem fc_min2 : FlatC min2T := fun t v e => by unfold min2T at e; split at e <;> cases e <;> rfl
theorem fc_sum : FlatC sumT := fun t v e => by unfold sumT at e; split at e <;> first | (cases e; done) | (obtain ⟨b, _, rfl⟩ := map_some e; rfl)
section
variable {w : Ws} {m ma mb mc : EM} {f fa fb fc : FE} {mr : AM} {fr : FA} {g g' : D → D → DH → Res D} {G G' : T → T → Option T} {t u : TM} {ft fu : FT} {sh : Sh}
theorem SE.sb (s : SE w m f) : SB w m f := fun A X own ds h e r t q => (s A X own ds h e r t q).imp fun d h' ⟨k, v⟩ => ⟨k, v.bv⟩
theorem SB.sn (s : SB w m f) : SN w m f := fun A X own ds h e r t q => (s A X own ds h e r t q).imp fun d h' ⟨k, v⟩ => ⟨k, v.any⟩
theorem SE.sn (s : SE w m f) : SN w m f := s.sb.sn
theorem SX.se (s : SX w sh m f) : SE w m f := fun A X own ds h e r t q => (s A X own ds h e r t q).imp fun d h' ⟨k, S, o, nd, hS⟩ => ⟨k, Od.val (fun m a _ => a.1) _ _ _ _ (fun m hm => r.bigAl m (hS m hm)) o⟩
theorem SE.sx (s : SE w m f) : SX w .s m f := fun A X own ds h e r t q => (s A X own ds h e r t q).imp fun d h' ⟨k, v⟩ => ⟨k, [], by simp only [Od, true_and]; exact v.sub fun m a _ => ⟨a, fun z => nomatch z⟩, List.nodup_nil, fun x z => nomatch z⟩
theorem se_c {d : D} {t : T} (hv : ∀ A h, Val A h t d) : SE w (mC d) (fC t) := fun A X own ds h e r t q => by cases q; exact ⟨Keep.refl _, hv _ _⟩
theorem se_var {i : Nat} (hi : ∀ p ∈ w, p.1 ≠ i) : SE w (mVar i) (fVar i) := fun A X own ds h e r t q => by
  obtain ⟨d, q1, q2⟩ := r.sh i t hi q
  unfold mVar
  rw [q1]
  exact ⟨Keep.refl _, q2⟩
theorem sb_var {i : Nat} (hi : ∀ p ∈ w, p.1 = i → flatSh p.2 = true) : SB w (mVar i) (fVar i) := fun A X own ds h e r t q => by
  by_cases c : ∃ p ∈ w, p.1 = i
  · obtain ⟨p, hp, rfl⟩ := c
    obtain ⟨_, _, u, d, a2, a3, a4⟩ := r.ow p hp
    unfold mVar
    rw [a3]
    have q : e.getD p.1 none = some t := q
    rw [a2] at q
    cases q
    exact ⟨Keep.refl _, od_bv (hi p hp rfl) a4⟩
  · exact (se_var fun p hp z => c ⟨p, hp, z⟩).sb A X own ds h e r t q
theorem sn_var {i : Nat} : SN w (mVar i) (fVar i) := fun A X own ds h e r t q => by
  by_cases c : ∃ p ∈ w, p.1 = i
  · obtain ⟨p, hp, rfl⟩ := c
    obtain ⟨_, _, u, d, a2, a3, a4⟩ := r.ow p hp
    unfold mVar
    rw [a3]
    have q : e.getD p.1 none = some t := q
    rw [a2] at q
    cases q
    exact ⟨Keep.refl _, Od.val (fun _ _ _ => trivial) _ _ _ _ (fun _ _ => trivial) a4⟩
  · exact (se_var fun p hp z => c ⟨p, hp, z⟩).sn A X own ds h e r t q
theorem any_big {h : DH} : ∀ m, h.length ≤ m → Any m := fun _ _ => trivial
theorem se_op (hs : SOp g G) (ha : SB w ma fa) (hb : SB w mb fb) : SE w (mOp g ma mb) (fOp G fa fb) := fun A X own ds h e r t q => by
  obtain ⟨x, q1, q⟩ := bind_some q
  obtain ⟨y, q2, q⟩ := bind_some q
  rw [w_op]
  refine (ha A X own ds h e r x q1).imp fun dx h1 ⟨k1, v1⟩ => ?_
  refine (hb A X own ds h1 e (r.keep k1) y q2).imp fun dy h2 ⟨k2, v2⟩ => ?_
  exact (hs _ h2 dx dy x y t ((r.keep k1).keep k2).bigAl (v1.keep k2) v2 q).imp fun d h3 ⟨k3, v3⟩ => ⟨(k1.trans k2).trans k3, v3⟩
theorem sn_op (hs : SOp g G) (ha : SN w ma fa) (hb : SN w mb fb) : SN w (mOp g ma mb) (fOp G fa fb) := fun A X own ds h e r t q => by
  obtain ⟨x, q1, q⟩ := bind_some q
  obtain ⟨y, q2, q⟩ := bind_some q
  rw [w_op]
  refine (ha A X own ds h e r x q1).imp fun dx h1 ⟨k1, v1⟩ => ?_
  refine (hb A X own ds h1 e (r.keep k1) y q2).imp fun dy h2 ⟨k2, v2⟩ => ?_
  exact (hs _ h2 dx dy x y t any_big (v1.keep k2).bv v2.bv q).imp fun d h3 ⟨k3, v3⟩ => ⟨(k1.trans k2).trans k3, v3⟩
theorem se_opF (hs : SOp g G) (hf : FlatR G) (ha : SN w ma fa) (hb : SN w mb fb) : SE w (mOp g ma mb) (fOp G fa fb) := fun A X own ds h e r t q => by
  have ft : flatT t = true := by
    obtain ⟨x, q1, q⟩ := bind_some q
    obtain ⟨y, q2, q⟩ := bind_some q
    exact hf x y t q
  exact (sn_op hs ha hb A X own ds h e r t q).imp fun d h3 ⟨k3, v3⟩ => ⟨k3, flat_ind ft v3⟩
theorem sx_op (hs : SOpX g G) (ha : SB w ma fa) (hb : SB w mb fb) : SX w (.l .s) (mOp g ma mb) (fOp G fa fb) := fun A X own ds h e r t q => by
  obtain ⟨x, q1, q⟩ := bind_some q
  obtain ⟨y, q2, q⟩ := bind_some q
  rw [w_op]
  refine (ha A X own ds h e r x q1).imp fun dx h1 ⟨k1, v1⟩ => ?_
  refine (hb A X own ds h1 e (r.keep k1) y q2).imp fun dy h2 ⟨k2, v2⟩ => ?_
  refine (hs _ h2 dx dy x y t ((r.keep k1).keep k2).bigAl (v1.keep k2) v2 q).imp fun d h3 ⟨k3, v3⟩ => ⟨(k1.trans k2).trans k3, ?_⟩
  obtain ⟨S, o, nd, hS⟩ := newV_od v3
  exact ⟨S, o, nd, fun x hx => Nat.le_trans (Nat.le_trans k1.len k2.len) (hS x hx)⟩
theorem se_neg (ha : SN w ma fa) : SE w (mUn negD ma) (fUn negT fa) := fun A X own ds h e r t q => by
  obtain ⟨x, q1, q⟩ := bind_some q
  rw [w_un]
  refine (ha A X own ds h e r x q1).imp fun dx h1 ⟨k1, v1⟩ => ?_
  cases x with
  | int i => rw [val_int.mp v1]; cases q; exact ⟨k1, val_int.mpr rfl⟩
  | _ => cases q
theorem sa_nil : SA w aNil fNil := fun A X own ds h e r t q => by cases q; exact ⟨Keep.refl _, Vals.nil⟩
theorem sa_cons (ha : SE w ma fa) (hr : SA w mr fr) : SA w (aCons ma mr) (fCons fa fr) := fun A X own ds h e r t q => by
  obtain ⟨x, q1, q⟩ := bind_some q
  obtain ⟨xs, q2, q⟩ := bind_some q
  cases q
  rw [w_cons]
  refine (ha A X own ds h e r x q1).imp fun dx h1 ⟨k1, v1⟩ => ?_
  exact (hr A X own ds h1 e (r.keep k1) xs q2).imp fun dy h2 ⟨k2, v2⟩ => ⟨k1.trans k2, Vals.cons (v1.keep k2) v2⟩
theorem sa_star (ha : SB w ma fa) (hr : SA w mr fr) : SA w (aStar ma mr) (fStar fa fr) := fun A X own ds h e r t q => by
  obtain ⟨x, q1, q⟩ := bind_some q
  obtain ⟨us, q3, q⟩ := bind_some q
  obtain ⟨xs, q2, q⟩ := bind_some q
  cases q
  rw [w_star]
  refine (ha A X own ds h e r x q1).imp fun dx h1 ⟨k1, v1⟩ => ?_
  obtain ⟨ys, i1, i2, _⟩ := items_bv v1 q3
  exact ⟨ys, i1, (hr A X own ds h1 e (r.keep k1) xs q2).imp fun dy h2 ⟨k2, v2⟩ => ⟨k1.trans k2, (i2.keep k2).append v2⟩⟩
theorem sba_nil : SBA w aNil fNil := fun A X own ds h e r t q => by cases q; exact ⟨Keep.refl _, rfl⟩
theorem sba_cons (ha : SB w ma fa) (hr : SBA w mr fr) : SBA w (aCons ma mr) (fCons fa fr) := fun A X own ds h e r t q => by
  obtain ⟨x, q1, q⟩ := bind_some q
  obtain ⟨xs, q2, q⟩ := bind_some q
  cases q
  rw [w_cons]
  refine (ha A X own ds h e r x q1).imp fun dx h1 ⟨k1, v1⟩ => ?_
  exact (hr A X own ds h1 e (r.keep k1) xs q2).imp fun dy h2 ⟨k2, v2⟩ => ⟨k1.trans k2, dx, dy, rfl, v1.keep k2, v2⟩
theorem sna_nil : SNA w aNil fNil := fun A X own ds h e r t q => by cases q; exact ⟨Keep.refl _, Vals.nil⟩
theorem sna_cons (ha : SN w ma fa) (hr : SNA w mr fr) : SNA w (aCons ma mr) (fCons fa fr) := fun A X own ds h e r t q => by
  obtain ⟨x, q1, q⟩ := bind_some q
  obtain ⟨xs, q2, q⟩ := bind_some q
  cases q
  rw [w_cons]
  refine (ha A X own ds h e r x q1).imp fun dx h1 ⟨k1, v1⟩ => ?_
  exact (hr A X own ds h1 e (r.keep k1) xs q2).imp fun dy h2 ⟨k2, v2⟩ => ⟨k1.trans k2, Vals.cons (v1.keep k2) v2⟩
theorem sxa_nil : SXA w [] aNil fNil := fun A X own ds h e r t q => by cases q; exact ⟨Keep.refl _, [], by simp only [OdT]; exact ⟨trivial, trivial, trivial⟩, List.nodup_nil, fun x z => nomatch z⟩
theorem sxa_cons {es : List Sh} (ha : SX w sh ma fa) (hr : SXA w es mr fr) : SXA w (sh :: es) (aCons ma mr) (fCons fa fr) := fun A X own ds h e r t q => by
  obtain ⟨x, q1, q⟩ := bind_some q
  obtain ⟨xs, q2, q⟩ := bind_some q
  cases q
  rw [w_cons]
  refine (ha A X own ds h e r x q1).imp fun dx h1 ⟨k1, S1, o1, n1, b1⟩ => ?_
  have l1 : ∀ m ∈ S1, m < h1.length := Od.lt _ _ _ _ o1
  have r1 := r.avoid S1 b1 k1 l1
  refine (hr _ X own ds h1 e r1 xs q2).imp fun dy h2 ⟨k2, S2, o2, n2, b2⟩ => ⟨k1.trans k2, S1 ++ S2, ?_, ?_, fun m hm => ?_⟩
  · simp only [OdT]
    refine ⟨x, xs, dx, dy, S1, S2, rfl, rfl, rfl, Od.mono (fun m a l => ⟨a.1, fun z => ?_⟩) (k2.kin _) _ _ _ _ (k2.kS _) o1, OdT.mono (fun m a _ => ⟨⟨a.1.1.1, a.1.2⟩, fun z => ?_⟩) (KeepIn.refl _ _) _ _ _ _ (KeepS.refl _ _) o2⟩
    · rcases List.mem_append.mp z with y | y
      · exact a.2 y
      · have := b2 m y; omega
    · rcases List.mem_append.mp z with y | y
      · exact a.1.1.2 y
      · exact a.2 y
  · rw [List.nodup_append]
    refine ⟨n1, n2, fun a ha b hb z => ?_⟩
    have := l1 a ha; have := b2 b hb; omega
  · rcases List.mem_append.mp hm with y | y
    · exact b1 m y
    · exact Nat.le_trans k1.len (b2 m y)
theorem se_tup (hr : SA w mr fr) : SE w (mTup mr) (fTup fr) := fun A X own ds h e r t q => by
  obtain ⟨xs, q1, q⟩ := bind_some q
  obtain ⟨l, rfl⟩ := ite_some q
  rw [w_tup]
  exact (hr A X own ds h e r xs q1).imp fun dx h1 ⟨k1, v1⟩ => ⟨by rw [v1.length]; exact l, k1, val_tup.mpr ⟨_, rfl, v1⟩⟩
theorem odT_len {A : Nat → Prop} {h : DH} : ∀ {es : List Sh} {ts : List T} {xs : List D} {S : List Nat}, OdT A h es ts xs S → xs.length = ts.length
  | [], ts, xs, S, r => by simp only [OdT] at r; rw [r.1, r.2.1]; rfl
  | e :: es, ts, xs, S, r => by
    simp only [OdT] at r
    obtain ⟨t, ts', d, ds, S1, S2, rfl, rfl, _, _, r2⟩ := r
    rw [List.length_cons, List.length_cons, odT_len r2]
theorem sx_tup {es : List Sh} (hr : SXA w es mr fr) : SX w (.t es) (mTup mr) (fTup fr) := fun A X own ds h e r t q => by
  obtain ⟨xs, q1, q⟩ := bind_some q
  obtain ⟨l, rfl⟩ := ite_some q
  rw [w_tup]
  exact (hr A X own ds h e r xs q1).imp fun dx h1 ⟨k1, S, o, nd, hS⟩ => ⟨by rw [odT_len o]; exact l, k1, S, by simp only [Od]; exact ⟨_, _, rfl, rfl, o⟩, nd, hS⟩
/-- parts of one shape -/
theorem odT_l {A : Nat → Prop} {h : DH} : ∀ {es : List Sh} {ts : List T} {xs : List D} {S : List Nat}, (∀ e ∈ es, e = sh) → OdT A h es ts xs S → OdL (Od A h sh) ts xs S
  | [], ts, xs, S, _, r => by simp only [OdT] at r; rw [r.1]; exact ⟨r.2.1, r.2.2⟩
  | e :: es, ts, xs, S, f, r => by
    simp only [OdT] at r
    obtain ⟨t, ts', d, ds, S1, S2, rfl, rfl, rfl, r1, r2⟩ := r
    rw [f e List.mem_cons_self] at r1
    exact ⟨d, ds, S1, S2, rfl, rfl, r1, odT_l (fun x hx => f x (List.mem_cons_of_mem _ hx)) r2⟩
theorem sx_lst {es : List Sh} (hr : SXA w es mr fr) (he : ∀ x ∈ es, x = sh) : SX w (.l sh) (mLst mr) (fLst fr) := fun A X own ds h e r t q => by
  obtain ⟨xs, q1, q⟩ := bind_some q
  obtain ⟨l, rfl⟩ := ite_some q
  rw [w_lst]
  refine (hr A X own ds h e r xs q1).imp fun dx h1 ⟨k1, S, o, nd, hS⟩ => ⟨by rw [odT_len o]; exact l, k1.trans (Keep.app _ _), h1.length :: S, ?_, ?_, fun m hm => ?_⟩
  · have lt := OdT.lt _ _ _ _ o
    simp only [Od]
    refine ⟨_, h1.length, dx, S, rfl, rfl, rfl, get_last _ _, odT_l he (OdT.mono (fun m a l => ⟨a.1, fun z => ?_⟩) ((Keep.app h1 _).kin _) _ _ _ _ ((Keep.app h1 _).kS _) o)⟩
    rcases List.mem_cons.mp z with y | y
    · omega
    · exact a.2 y
  · rw [List.nodup_cons]
    exact ⟨fun z => by have := OdT.lt _ _ _ _ o _ z; omega, nd⟩
  · rcases List.mem_cons.mp hm with y | y
    · rw [y]; exact k1.len
    · exact hS m y
/-- a list of shared things, some of them spread -/
theorem sx_lstS (hr : SA w mr fr) : SX w (.l .s) (mLst mr) (fLst fr) := fun A X own ds h e r t q => by
  obtain ⟨xs, q1, q⟩ := bind_some q
  obtain ⟨l, rfl⟩ := ite_some q
  rw [w_lst]
  refine (hr A X own ds h e r xs q1).imp fun dx h1 ⟨k1, v1⟩ => ⟨by rw [v1.length]; exact l, k1.trans (Keep.app _ _), ?_⟩
  obtain ⟨S, o, nd, hS⟩ := newV_od (new_of v1)
  exact ⟨S, o, nd, fun x hx => Nat.le_trans k1.len (hS x hx)⟩
theorem se_cb {F : List D → DH → Res D} {H : List T → Option T} (hs : SCl F H) (hr : SBA w mr fr) : SE w (mCB F mr) (fCB H fr) := fun A X own ds h e r t q => by
  obtain ⟨xs, q1, q⟩ := bind_some q
  rw [w_cb]
  refine (hr A X own ds h e r xs q1).imp fun dx h1 ⟨k1, v1⟩ => ?_
  exact (hs _ h1 dx xs t (r.keep k1).bigAl v1 q).imp fun d h2 ⟨k2, v2⟩ => ⟨k1.trans k2, v2⟩
theorem vals_bvs {A : Nat → Prop} {h : DH} : ∀ {ts : List T} {xs : List D}, Vals A h ts xs → BVs A h ts xs
  | [], xs, v => by simp only [Vals] at v; exact v
  | t :: ts, xs, v => by
    simp only [Vals] at v
    obtain ⟨d, ds, e, v1, v2⟩ := v
    exact ⟨d, ds, e, v1.bv, vals_bvs v2⟩
theorem se_cbF {F : List D → DH → Res D} {H : List T → Option T} (hs : SCl F H) (hf : FlatC H) (hr : SNA w mr fr) : SE w (mCB F mr) (fCB H fr) := fun A X own ds h e r t q => by
  obtain ⟨xs, q1, q⟩ := bind_some q
  rw [w_cb]
  refine (hr A X own ds h e r xs q1).imp fun dx h1 ⟨k1, v1⟩ => ?_
  exact (hs _ h1 dx xs t any_big (vals_bvs v1) q).imp fun d h2 ⟨k2, v2⟩ => ⟨k1.trans k2, flat_ind (hf _ _ q) v2⟩
theorem sx_cb {F : List D → DH → Res D} {H : List T → Option T} (hs : SClX F H) (hr : SBA w mr fr) : SX w (.l .s) (mCB F mr) (fCB H fr) := fun A X own ds h e r t q => by
  obtain ⟨xs, q1, q⟩ := bind_some q
  rw [w_cb]
  refine (hr A X own ds h e r xs q1).imp fun dx h1 ⟨k1, v1⟩ => ?_
  refine (hs _ h1 dx xs t (r.keep k1).bigAl v1 q).imp fun d h2 ⟨k2, v2⟩ => ⟨k1.trans k2, ?_⟩
  obtain ⟨S, o, nd, hS⟩ := newV_od v2
  exact ⟨S, o, nd, fun x hx => Nat.le_trans k1.len (hS x hx)⟩
theorem sx_call {F : List D → DH → Res D} {H : List T → Option T} (hF : SF sh F H) (hr : SA w mr fr) : SX w sh (mCB F mr) (fCB H fr) := fun A X own ds h e r t q => by
  obtain ⟨xs, q1, q⟩ := bind_some q
  rw [w_cb]
  refine (hr A X own ds h e r xs q1).imp fun dx h1 ⟨k1, v1⟩ => ?_
  exact (hF _ dx xs h1 (r.keep k1).bigAl v1 t q).imp fun d h2 ⟨k2, S, o, nd, hS⟩ => ⟨k1.trans k2, S, o, nd, fun x hx => Nat.le_trans k1.len (hS x hx)⟩
theorem se_call {F : List D → DH → Res D} {H : List T → Option T} (hF : SF sh F H) (hr : SA w mr fr) : SE w (mCB F mr) (fCB H fr) := (sx_call hF hr).se
theorem se_callF {F : List D → DH → Res D} {H : List T → Option T} (hF : SF sh F H) (hr : SNA w mr fr) : SE w (mCB F mr) (fCBF H fr) := fun A X own ds h e r t q => by
  obtain ⟨xs, q1, q⟩ := bind_some q
  obtain ⟨u, q2, q⟩ := bind_some q
  obtain ⟨c, rfl⟩ := ite_some q
  rw [w_cb]
  refine (hr A X own ds h e r xs q1).imp fun dx h1 ⟨k1, v1⟩ => ?_
  exact (hF Any dx xs h1 any_big v1 u q2).imp fun d h2 ⟨k2, S, o, nd, hS⟩ => ⟨k1.trans k2, flat_ind c (Od.val (B := Any) (fun _ _ _ => trivial) _ _ _ _ (fun _ _ => trivial) o)⟩
theorem st_test (ha : SN w ma fa) : ST w (mTest ma) (fTest fa) := fun A X own ds h e r t q => by
  obtain ⟨x, q1, q⟩ := bind_some q
  rw [w_test]
  refine (ha A X own ds h e r x q1).imp fun dx h1 ⟨k1, v1⟩ => ?_
  cases x with
  | bl c' => cases q; exact ⟨_, val_bl.mp v1, k1, rfl⟩
  | _ => cases q
theorem st_not (ht : ST w t ft) : ST w (mNot t) (fNot ft) := fun A X own ds h e r c q => by
  obtain ⟨x, q1, rfl⟩ := map_some q
  rw [w_not]
  exact (ht A X own ds h e r x q1).imp fun dx h1 ⟨k1, v1⟩ => ⟨k1, by rw [v1]⟩
theorem st_and (ht : ST w t ft) (hu : ST w u fu) : ST w (mAnd t u) (fAnd ft fu) := fun A X own ds h e r c q => by
  obtain ⟨x, q1, q⟩ := bind_some q
  rw [w_and]
  refine (ht A X own ds h e r x q1).imp fun dx h1 ⟨k1, v1⟩ => ?_
  subst v1
  cases dx with
  | true => exact (hu A X own ds h1 e (r.keep k1) c q).imp fun dy h2 ⟨k2, v2⟩ => ⟨k1.trans k2, v2⟩
  | false => cases q; exact ⟨k1, rfl⟩
theorem st_or (ht : ST w t ft) (hu : ST w u fu) : ST w (mOr t u) (fOr ft fu) := fun A X own ds h e r c q => by
  obtain ⟨x, q1, q⟩ := bind_some q
  rw [w_or]
  refine (ht A X own ds h e r x q1).imp fun dx h1 ⟨k1, v1⟩ => ?_
  subst v1
  cases dx with
  | false => exact (hu A X own ds h1 e (r.keep k1) c q).imp fun dy h2 ⟨k2, v2⟩ => ⟨k1.trans k2, v2⟩
  | true => cases q; exact ⟨k1, rfl⟩
theorem st_yes : ST w mYes fYes := fun A X own ds h e r c q => by cases q; exact ⟨Keep.refl _, rfl⟩
theorem se_not (ha : SN w ma fa) : SE w (mNotV ma) (fNotV fa) := fun A X own ds h e r t q => by
  obtain ⟨x, q1, q⟩ := bind_some q
  rw [w_notV]
  refine (ha A X own ds h e r x q1).imp fun dx h1 ⟨k1, v1⟩ => ?_
  cases x with
  | bl c => cases q; exact ⟨c, val_bl.mp v1, k1, val_bl.mpr rfl⟩
  | _ => cases q
theorem se_and (ha : SN w ma fa) (hb : SE w mb fb) : SE w (mAndV ma mb) (fAndV fa fb) := fun A X own ds h e r t q => by
  obtain ⟨x, q1, q⟩ := bind_some q
  rw [w_andV]
  refine (ha A X own ds h e r x q1).imp fun dx h1 ⟨k1, v1⟩ => ?_
  cases x with
  | bl c =>
    refine ⟨c, val_bl.mp v1, ?_⟩
    cases c with
    | true => exact (hb A X own ds h1 e (r.keep k1) t q).imp fun dy h2 ⟨k2, v2⟩ => ⟨k1.trans k2, v2⟩
    | false => cases q; exact ⟨k1, val_bl.mpr rfl⟩
  | _ => cases q
theorem se_or (ha : SN w ma fa) (hb : SE w mb fb) : SE w (mOrV ma mb) (fOrV fa fb) := fun A X own ds h e r t q => by
  obtain ⟨x, q1, q⟩ := bind_some q
  rw [w_orV]
  refine (ha A X own ds h e r x q1).imp fun dx h1 ⟨k1, v1⟩ => ?_
  cases x with
  | bl c =>
    refine ⟨c, val_bl.mp v1, ?_⟩
    cases c with
    | false => exact (hb A X own ds h1 e (r.keep k1) t q).imp fun dy h2 ⟨k2, v2⟩ => ⟨k1.trans k2, v2⟩
    | true => cases q; exact ⟨k1, val_bl.mpr rfl⟩
  | _ => cases q
theorem se_if (ht : ST w t ft) (ha : SE w ma fa) (hb : SE w mb fb) : SE w (mIf t ma mb) (fIf ft fa fb) := fun A X own ds h e r c q => by
  obtain ⟨x, q1, q⟩ := bind_some q
  rw [w_if]
  refine (ht A X own ds h e r x q1).imp fun dx h1 ⟨k1, v1⟩ => ?_
  subst v1
  cases dx with
  | true => exact (ha A X own ds h1 e (r.keep k1) c q).imp fun dy h2 ⟨k2, v2⟩ => ⟨k1.trans k2, v2⟩
  | false => exact (hb A X own ds h1 e (r.keep k1) c q).imp fun dy h2 ⟨k2, v2⟩ => ⟨k1.trans k2, v2⟩
theorem sn_if (ht : ST w t ft) (ha : SN w ma fa) (hb : SN w mb fb) : SN w (mIf t ma mb) (fIf ft fa fb) := fun A X own ds h e r c q => by
  obtain ⟨x, q1, q⟩ := bind_some q
  rw [w_if]
  refine (ht A X own ds h e r x q1).imp fun dx h1 ⟨k1, v1⟩ => ?_
  subst v1
  cases dx with
  | true => exact (ha A X own ds h1 e (r.keep k1) c q).imp fun dy h2 ⟨k2, v2⟩ => ⟨k1.trans k2, v2⟩
  | false => exact (hb A X own ds h1 e (r.keep k1) c q).imp fun dy h2 ⟨k2, v2⟩ => ⟨k1.trans k2, v2⟩
theorem sx_if (ht : ST w t ft) (ha : SX w sh ma fa) (hb : SX w sh mb fb) : SX w sh (mIf t ma mb) (fIf ft fa fb) := fun A X own ds h e r c q => by
  obtain ⟨x, q1, q⟩ := bind_some q
  rw [w_if]
  refine (ht A X own ds h e r x q1).imp fun dx h1 ⟨k1, v1⟩ => ?_
  subst v1
  cases dx with
  | true => exact (ha A X own ds h1 e (r.keep k1) c q).imp fun dy h2 ⟨k2, S, o, nd, hS⟩ => ⟨k1.trans k2, S, o, nd, fun x hx => Nat.le_trans k1.len (hS x hx)⟩
  | false => exact (hb A X own ds h1 e (r.keep k1) c q).imp fun dy h2 ⟨k2, S, o, nd, hS⟩ => ⟨k1.trans k2, S, o, nd, fun x hx => Nat.le_trans k1.len (hS x hx)⟩
theorem so_none : SO w oNone foNone := fun A X own ds h e r c q => by cases q; exact ⟨Keep.refl _, rfl⟩
theorem so_some (ha : SN w ma fa) : SO w (oSome ma) (foSome fa) := fun A X own ds h e r t q => by
  obtain ⟨x, q1, q⟩ := bind_some q
  rw [w_oS]
  refine (ha A X own ds h e r x q1).imp fun dx h1 ⟨k1, v1⟩ => ?_
  cases x with
  | int i => cases q; exact ⟨i, val_int.mp v1, k1, rfl⟩
  | _ => cases q
variable {ol oh : DSt → DH → Res (Option Int)} {fl fh : FO}
theorem se_sl (ha : SB w ma fa) (hl : SO w ol fl) (hh : SO w oh fh) : SE w (mSl slD ma ol oh) (fSl slT fa fl fh) := fun A X own ds h e r t q => by
  obtain ⟨x, q1, q⟩ := bind_some q
  obtain ⟨l, q2, q⟩ := bind_some q
  obtain ⟨u, q3, q⟩ := bind_some q
  rw [w_sl]
  refine (ha A X own ds h e r x q1).imp fun dx h1 ⟨k1, v1⟩ => ?_
  refine (hl A X own ds h1 e (r.keep k1) l q2).imp fun dl h2 ⟨k2, v2⟩ => ?_
  refine (hh A X own ds h2 e ((r.keep k1).keep k2) u q3).imp fun du h3 ⟨k3, v3⟩ => ?_
  subst v2; subst v3
  exact (o_sl (((r.keep k1).keep k2).keep k3).bigAl ((v1.keep k2).keep k3) q).imp fun d h4 ⟨k4, v4⟩ => ⟨((k1.trans k2).trans k3).trans k4, v4⟩
theorem sx_sl (ha : SB w ma fa) (hl : SO w ol fl) (hh : SO w oh fh) : SX w (.l .s) (mSl slD ma ol oh) (fSl slLT fa fl fh) := fun A X own ds h e r t q => by
  obtain ⟨x, q1, q⟩ := bind_some q
  obtain ⟨l, q2, q⟩ := bind_some q
  obtain ⟨u, q3, q⟩ := bind_some q
  rw [w_sl]
  refine (ha A X own ds h e r x q1).imp fun dx h1 ⟨k1, v1⟩ => ?_
  refine (hl A X own ds h1 e (r.keep k1) l q2).imp fun dl h2 ⟨k2, v2⟩ => ?_
  refine (hh A X own ds h2 e ((r.keep k1).keep k2) u q3).imp fun du h3 ⟨k3, v3⟩ => ?_
  subst v2; subst v3
  refine (x_sl ((v1.keep k2).keep k3) q).imp fun d h4 ⟨k4, v4⟩ => ⟨((k1.trans k2).trans k3).trans k4, ?_⟩
  obtain ⟨S, o, nd, hS⟩ := newV_od v4
  exact ⟨S, o, nd, fun x hx => Nat.le_trans ((k1.trans k2).trans k3).len (hS x hx)⟩
theorem se_chain (hs : SOp g G) (hs' : SOp g' G') (hf : FlatR G') (ha : SN w ma fa) (hb : SN w mb fb) (hc : SN w mc fc) : SE w (mChain g g' ma mb mc) (fChain G G' fa fb fc) := fun A X own ds h e r t q => by
  obtain ⟨x, q1, q⟩ := bind_some q
  obtain ⟨y, q2, q⟩ := bind_some q
  obtain ⟨z, q3, q⟩ := bind_some q
  rw [w_chain]
  refine (ha A X own ds h e r x q1).imp fun dx h1 ⟨k1, v1⟩ => ?_
  refine (hb A X own ds h1 e (r.keep k1) y q2).imp fun dy h2 ⟨k2, v2⟩ => ?_
  refine (hs _ h2 dx dy x y z any_big (v1.keep k2).bv v2.bv q3).imp fun dz h3 ⟨k3, v3⟩ => ?_
  cases z with
  | bl c =>
    refine ⟨c, val_bl.mp v3, ?_⟩
    cases c with
    | false => cases q; exact ⟨(k1.trans k2).trans k3, val_bl.mpr rfl⟩
    | true =>
      obtain ⟨x2, q4, q⟩ := bind_some q
      refine (hc A X own ds h3 e (((r.keep k1).keep k2).keep k3) x2 q4).imp fun du h4 ⟨k4, v4⟩ => ?_
      exact (hs' _ h4 dy du y x2 t any_big ((v2.keep k3).keep k4).bv v4.bv q).imp fun d h5 ⟨k5, v5⟩ => ⟨(((k1.trans k2).trans k3).trans k4).trans k5, flat_ind (hf _ _ _ q) v5⟩
  | _ => cases q
theorem se_isi {S : Ty} (ha : SN w ma fa) : SE w (mIsi S ma) (fIsi S fa) := fun A X own ds h e r t q => by
  obtain ⟨x, q1, q⟩ := bind_some q
  obtain ⟨U, q2, rfl⟩ := map_some q
  rw [w_isi]
  exact (ha A X own ds h e r x q1).imp fun dx h1 ⟨k1, v1⟩ => ⟨_, ty_bv v1.bv q2, k1, val_bl.mpr rfl⟩
/-- tables of the text -/
def TblV : List (Str × T) → List (Str × D) → Prop
  | [], [] => True
  | p :: ps, q :: qs => p.1 = q.1 ∧ (∀ A h, Val A h p.2 q.2) ∧ TblV ps qs
  | _, _ => False
theorem tbl_look : ∀ {ps : List (Str × T)} {qs : List (Str × D)} (z : Str), TblV ps qs → (∀ t, fLook ps z = some t → ∃ d, lookD qs z = some d ∧ ∀ A h, Val A h t d) ∧ (fLook ps z).isSome = (lookD qs z).isSome
  | [], [], z, _ => ⟨fun t e => (by simp only [fLook] at e; cases e), rfl⟩
  | p :: ps, q :: qs, z, ⟨e1, e2, e3⟩ => by
    obtain ⟨i1, i2⟩ := tbl_look z e3
    simp only [fLook, lookD, ← e1]
    by_cases c : p.1 = z
    · simp only [if_pos c]
      exact ⟨fun t e => by cases e; exact ⟨_, rfl, e2⟩, rfl⟩
    · simp only [if_neg c]
      exact ⟨i1, i2⟩
  | [], q :: qs, z, h => h.elim
  | p :: ps, [], z, h => h.elim
theorem se_kd {ps : List (Str × T)} {qs : List (Str × D)} (tv : TblV ps qs) (ha : SN w ma fa) : SE w (mKD qs ma) (fKD ps fa) := fun A X own ds h e r t q => by
  obtain ⟨x, q1, q⟩ := bind_some q
  rw [w_kd]
  refine (ha A X own ds h e r x q1).imp fun dx h1 ⟨k1, v1⟩ => ?_
  cases x with
  | str z =>
    rw [val_str.mp v1]
    obtain ⟨d, e1, e2⟩ := (tbl_look z tv).1 t q
    simp only [e1]
    exact ⟨k1, e2 _ _⟩
  | _ => cases q
theorem se_kin {neg : Bool} {ps : List (Str × T)} {qs : List (Str × D)} (tv : TblV ps qs) (ha : SN w ma fa) : SE w (mKIn neg qs ma) (fKIn neg ps fa) := fun A X own ds h e r t q => by
  obtain ⟨x, q1, q⟩ := bind_some q
  rw [w_kin]
  refine (ha A X own ds h e r x q1).imp fun dx h1 ⟨k1, v1⟩ => ?_
  cases x with
  | str z =>
    rw [val_str.mp v1]
    cases q
    exact ⟨k1, val_bl.mpr (by rw [(tbl_look z tv).2])⟩
  | _ => cases q
/-! walks -/
theorem si_seq (ha : SE w ma fa) : SI w (iSeq ma) (fSeq fa) := fun A X own ds h e r ts q => by
  obtain ⟨x, q1, q⟩ := bind_some q
  unfold iSeq
  rw [satE_bind]
  refine (ha A X own ds h e r x q1).imp fun dx h1 ⟨k1, v1⟩ => ?_
  cases x with
  | tup us =>
    cases q
    obtain ⟨xs, rfl, v⟩ := val_tup.mp v1
    exact ⟨k1, xs, v, rfl, fun _ _ _ => rfl⟩
  | lst us =>
    cases q
    obtain ⟨n, xs, rfl, a, hn, v⟩ := val_lst.mp v1
    simp only [hn]
    exact ⟨k1, xs, v, by simp only [Itd.len, hn], fun h' k i => by simp only [Itd.at_, k n _ a hn]⟩
  | fro us =>
    cases q
    obtain ⟨n, xs, rfl, a, hn, v⟩ := val_fro.mp v1
    simp only [hn]
    exact ⟨k1, xs, v, by simp only [Itd.len, hn], fun h' k i => by simp only [Itd.at_, k n _ a hn]⟩
  | _ => cases q
theorem rng_get {lo : Int} {n i : Nat} : ((List.range n).map fun i : Nat => D.int (lo + (i : Nat)))[i]? = if i < n then some (.int (lo + (i : Nat))) else none := by
  rw [List.getElem?_map]
  by_cases q : i < n
  · rw [List.getElem?_range q, if_pos q]; rfl
  · rw [if_neg q, List.getElem?_eq_none (by simpa using q)]; rfl
theorem rng_it {A : Nat → Prop} {h : DH} {lo : Int} {n : Nat} : ItV A h (rngT lo n) (.rng lo n) := by
  refine ⟨(List.range n).map fun i : Nat => D.int (lo + (i : Nat)), ?_, by simp [Itd.len], fun h' k i => ?_⟩
  · unfold rngT
    have key : ∀ l : List Nat, Vals A h (l.map fun i : Nat => T.int (lo + (i : Nat))) (l.map fun i : Nat => D.int (lo + (i : Nat))) := fun l => by
      induction l with
      | nil => exact Vals.nil
      | cons a r ih => exact Vals.cons (val_int.mpr rfl) ih
    exact key _
  · rw [rng_get]
    simp only [Itd.at_]
    by_cases q : i < n
    · rw [if_pos q, if_pos q]
    · rw [if_neg q, if_neg q]
theorem si_r1 (ha : SN w ma fa) : SI w (iR1 ma) (fR1 fa) := fun A X own ds h e r ts q => by
  unfold fR1 at q
  obtain ⟨x, q1, q⟩ := bind_some q
  rw [w_r1]
  refine (ha A X own ds h e r x q1).imp fun dx h1 ⟨k1, v1⟩ => ?_
  cases x with
  | int j =>
    obtain ⟨c, rfl⟩ := ite_some q
    exact ⟨j, val_int.mp v1, c, k1, rng_it⟩
  | _ => cases q
theorem si_r2 (ha : SN w ma fa) (hb : SN w mb fb) : SI w (iR2 ma mb) (fR2 fa fb) := fun A X own ds h e r ts q => by
  unfold fR2 at q
  obtain ⟨x, q1, q⟩ := bind_some q
  obtain ⟨y, q2, q⟩ := bind_some q
  rw [w_r2]
  refine (ha A X own ds h e r x q1).imp fun dx h1 ⟨k1, v1⟩ => ?_
  refine (hb A X own ds h1 e (r.keep k1) y q2).imp fun dy h2 ⟨k2, v2⟩ => ?_
  cases x with
  | int i =>
    cases y with
    | int j =>
      obtain ⟨c, rfl⟩ := ite_some q
      exact ⟨i, j, val_int.mp v1, val_int.mp v2, c, k1.trans k2, rng_it⟩
    | _ => cases q
  | _ => cases q
/-! comprehensions -/
theorem Rel.wipes {A X : Nat → Prop} {own : Ow} {ds : DSt} {h : DH} {e : FSt} (r : Rel A X w own ds h e) : ∀ {vs : List Nat}, (∀ v ∈ vs, ∀ p ∈ w, p.1 ≠ v) → Rel A X w own (wipeD ds vs) h (wipeT e vs)
  | [], _ => r
  | v :: vs, hv => (Rel.wipes r (vs := vs) fun x hx => hv x (List.mem_cons_of_mem _ hx)).wipe (hv v List.mem_cons_self)
theorem sx_lc {mi : IM} {fi : FI} {j : Nat} {vs : List Nat} (hi : SI w mi fi) (ht : ST w t ft) (he : SX w sh ma fa) (hj : ∀ p ∈ w, p.1 ≠ j) (hv : ∀ v ∈ vs, ∀ p ∈ w, p.1 ≠ v) : SX w (.l sh) (mLc mi j t ma vs) (fLc fi j ft fa vs) := fun A X own ds h e r v q => by
  obtain ⟨ts, q1, q⟩ := bind_some q
  have hz : ts.length ≤ 16777216 := by
    by_cases c : ts.length ≤ 16777216
    · exact c
    · simp only [if_neg c] at q; cases q
  simp only [if_pos hz] at q
  obtain ⟨us, q2, rfl⟩ := map_some q
  rw [w_lc]
  refine (hi A X own ds h e r ts q1).imp fun it h1 ⟨k1, xs, vx, hlen, hat⟩ => ?_
  have r1 := (r.keep k1).wipes hv
  have kn : Keep h1 (h1 ++ [.lst []]) := Keep.app _ _
  rw [hlen]
  have core : ∀ (k i : Nat) (acc : List D) (us0 us1 : List T) (F : List Nat) (h2 : DH), k + i = xs.length + 1 → i ≤ xs.length → acc.length ≤ i → Fr h1.length (h1 ++ [.lst []]) h2 → (h1 ++ [DO.lst []]).length ≤ h2.length → h2[h1.length]? = some (.lst acc) →
      (∀ m ∈ F, h1.length < m) → F.Nodup → OdL (Od (fun m => Al A w own m ∧ m ∉ h1.length :: F) h2 sh) us0 acc F → lcT j ft fa (wipeT e vs) (ts.drop i) = some us1 →
      SatE (lcN it j t ma h1.length (wipeD ds vs) k i h2) fun d h' => Keep h h' ∧ ∃ S, Od (fun m => Al A w own m ∧ m ∉ S) h' (.l sh) (.lst (us0 ++ us1)) d S ∧ S.Nodup ∧ ∀ x ∈ S, h.length ≤ x := by
    intro k
    induction k with
    | zero => intro i acc us0 us1 F h2 e1 l; omega
    | succ k ih =>
      intro i acc us0 us1 F h2 e1 l la fr hl hn hF nF va hus
      have k12 : Keep h1 h2 := fr.keep kn (Nat.le_refl _)
      have hFl : ∀ m ∈ F, m < h2.length := OdL.lt (A := A) (fun t d U p => Od.lt _ t d U p) va
      simp only [lcN]
      rw [hat h2 (k12.kin _) i]
      cases qx : xs[i]? with
      | none =>
        have l2 : xs.length ≤ i := List.getElem?_eq_none_iff.mp qx
        have e2 : ts.drop i = [] := List.drop_eq_nil_of_le (by rw [← vx.length]; omega)
        rw [e2] at hus
        cases hus
        rw [List.append_nil]
        refine ⟨k1.trans k12, h1.length :: F, ?_, ?_, fun m hm => ?_⟩
        · simp only [Od]
          exact ⟨_, h1.length, acc, F, rfl, rfl, rfl, hn, va⟩
        · rw [List.nodup_cons]
          exact ⟨fun z => by have := hF _ z; omega, nF⟩
        · rcases List.mem_cons.mp hm with y | y
          · rw [y]; exact k1.len
          · have := hF m y; have := k1.len; omega
      | some x =>
        have hil : i < xs.length := (List.getElem?_eq_some_iff.mp qx).1
        have htl : i < ts.length := by rw [← vx.length]; exact hil
        obtain ⟨dx, d1, d2⟩ := vx.get (List.getElem?_eq_getElem htl)
        rw [qx] at d1
        cases d1
        rw [List.drop_eq_getElem_cons htl] at hus
        simp only [lcT] at hus
        obtain ⟨c, c1, hus⟩ := bind_some hus
        have hnl := lt_of_get hn
        have rk : Rel (fun m => A m ∧ m ∉ h1.length :: F) X w own (wipeD ds vs) h2 (wipeT e vs) := r1.avoid _ (fun m hm => by
          rcases List.mem_cons.mp hm with y | y
          · omega
          · have := hF m y; omega) k12 fun m hm => by
          rcases List.mem_cons.mp hm with y | y
          · rw [y]; exact hnl
          · exact hFl m y
        have rv := rk.put (i := j) hj (Val.mono (B := Al (fun m => A m ∧ m ∉ h1.length :: F) w own) (fun m a l => ⟨⟨a.1, fun z => by
          rcases List.mem_cons.mp z with y | y
          · omega
          · have := hF m y; omega⟩, a.2⟩) (k12.kin _) _ _ d2)
        obtain ⟨c', h3, z1, k3, z2⟩ := (ht _ X own _ h2 _ rv c c1).eq
        subst z2
        simp only [z1]
        have l3 := k3.len
        have va3 : OdL (Od (fun m => Al A w own m ∧ m ∉ h1.length :: F) h3 sh) us0 acc F := OdL.imp (fun t d U hU p => Od.mono (fun _ a _ => a) (k3.kin _) _ _ _ _ (k3.kS _) p) va
        cases c' with
        | false => exact ih (i + 1) acc us0 us1 F h3 (by omega) hil (by omega) (fr.trans (k3.fr _)) (by omega) (k3 _ _ hn) hF nF va3 hus
        | true =>
          simp only [if_true] at hus
          obtain ⟨t1, t2, hus⟩ := bind_some hus
          obtain ⟨us2, t3, rfl⟩ := map_some hus
          obtain ⟨d, h4, y1, k4, S, o4, n4, b4⟩ := (he _ X own _ h3 _ (rv.keep k3) t1 t2).eq
          have hn4 := k4 _ _ (k3 _ _ hn)
          have l4 := k4.len
          simp only [y1, hn4]
          rw [if_pos (by omega)]
          have fs : Fr h1.length h4 (h4.set h1.length (.lst (acc ++ [d]))) := (Fr.refl _ h4).set _
          have va4 : OdL (Od (fun m => Al A w own m ∧ m ∉ h1.length :: (F ++ S)) (h4.set h1.length (.lst (acc ++ [d]))) sh) (us0 ++ [t1]) (acc ++ [d]) (F ++ S) := by
            refine OdL.append (OdL.imp (fun t d U hU p => Od.mono (h := h3) (fun m a l => ⟨a.1, fun z => ?_⟩) (fun m o a z => fs m o (fun y => a.2 (by rw [y]; exact List.mem_cons_self)) (k4 m o z)) _ _ _ _ (fun m hm o z => fs m o (fun y => by have := hF m (hU m hm); omega) (k4 m o z)) p) va3) (OdL.one (Od.mono (fun m a _ => ⟨⟨a.1.1.1, a.1.2⟩, fun z => ?_⟩) (fun m o a z => fs m o (fun y => a.1.1.2 (by rw [y]; exact List.mem_cons_self)) z) _ _ _ _ (fun m hm o z => fs m o (fun y => by have := b4 m hm; omega) z) o4))
            · rcases List.mem_cons.mp z with y | y
              · exact a.2 (by rw [y]; exact List.mem_cons_self)
              · rcases List.mem_append.mp y with x | x
                · exact a.2 (List.mem_cons_of_mem _ x)
                · have := b4 m x; omega
            · rcases List.mem_cons.mp z with y | y
              · exact a.1.1.2 (by rw [y]; exact List.mem_cons_self)
              · rcases List.mem_append.mp y with x | x
                · exact a.1.1.2 (List.mem_cons_of_mem _ x)
                · exact a.2 x
          have := ih (i + 1) (acc ++ [d]) (us0 ++ [t1]) us2 (F ++ S) _ (by omega) hil (by rw [List.length_append, List.length_singleton]; omega) (((fr.trans (k3.fr _)).trans (k4.fr _)).trans fs) (by rw [List.length_set]; omega) (set_same hn4) (fun m hm => by
            rcases List.mem_append.mp hm with y | y
            · exact hF m y
            · have := b4 m y; omega) (by
            rw [List.nodup_append]
            exact ⟨nF, n4, fun a ha b hb z => by have := hFl a ha; have := b4 b hb; omega⟩) va4 t3
          rw [List.append_assoc] at this
          exact this
  exact core (xs.length + 1) 0 [] [] us [] (h1 ++ [.lst []]) rfl (Nat.zero_le _) (Nat.le_refl _) (Fr.refl _ _) (Nat.le_refl _) (get_last _ _) (fun m z => nomatch z) List.nodup_nil ⟨rfl, rfl⟩ q2
end
end Fu
/-! statements beside their values -/
namespace Fu
open PySem L2 Mi
inductive FR where
  | nx (e : FSt) | rt (t : T) (e : FSt) | bk (e : FSt) | ct (e : FSt)
abbrev FS := FSt → Option FR
abbrev FG := T → FSt → Option FSt
def fNext : FS := fun e => some (.nx e)
def fSeqS (a b : FS) : FS := fun e => (a e).bind fun o => match o with | .nx e' => b e' | o => some o
def fSet (a : FE) (i : Nat) : FS := fun e => (a e).bind fun t => some (.nx (e.set i (some t)))
def fOwn (a : FE) (i : Nat) : FS := fun e => (a e).bind fun t => if i < e.length then some (.nx (e.set i (some t))) else none
def fAsg (a : FE) (g : FG) : FS := fun e => (a e).bind fun t => (g t e).map .nx
def fDrop (a : FE) : FS := fun e => (a e).map fun _ => .nx e
def fRet (a : FE) : FS := fun e => (a e).map fun t => .rt t e
def fRetN : FS := fun e => some (.rt .non e)
def fBrk : FS := fun e => some (.bk e)
def fCnt : FS := fun e => some (.ct e)
def fIfS (c : FT) (a b : FS) : FS := fun e => (c e).bind fun t => if t then a e else b e
def fAugI (i : Nat) (g : Int → Int → Int) (a : FE) : FS := fun e => match e.getD i none with
  | some (.int x) => (a e).bind fun t => match t with | .int y => some (.nx (e.set i (some (.int (g x y))))) | _ => none
  | _ => none
def gtNm (i : Nat) : FG := fun t e => some (e.set i (some t))
def gtNil : List T → FSt → Option FSt := fun ts e => match ts with | [] => some e | _ => none
def gtCons (g : FG) (r : List T → FSt → Option FSt) : List T → FSt → Option FSt := fun ts e => match ts with | [] => none | t :: ts => (g t e).bind fun e' => r ts e'
def gtTp (r : List T → FSt → Option FSt) : FG := fun t e => match t with | .tup ts => r ts e | _ => none
def forT (g : FG) (b : FS) : List T → FSt → Option FR
  | [], e => some (.nx e)
  | x :: xs, e => (g x e).bind fun e1 => (b e1).bind fun o => match o with
    | .nx e2 => forT g b xs e2
    | .ct e2 => forT g b xs e2
    | .bk e2 => some (.nx e2)
    | .rt t e2 => some (.rt t e2)
def fFor (fi : FI) (g : FG) (b : FS) : FS := fun e => (fi e).bind fun ts => forT g b ts e
def whileT (c : FT) (b : FS) : Nat → FSt → Option FR
  | 0, _ => none
  | k + 1, e => (c e).bind fun t => if t then (b e).bind fun o => match o with
    | .nx e2 => whileT c b k e2
    | .ct e2 => whileT c b k e2
    | .bk e2 => some (.nx e2)
    | .rt t e2 => some (.rt t e2) else some (.nx e)
def fWhile (M : Nat) (c : FT) (b : FS) : FS := fun e => whileT c b M e
abbrev FP := FSt → Option (T × (T → T))
def pVar (i : Nat) : FP := fun e => (e.getD i none).map fun t => (t, id)
def pIx (p : FP) (k : FE) : FP := fun e => (p e).bind fun q => (k e).bind fun u => match q.1, u with
  | .lst ts, .int z => (ixN ts.length z).bind fun j => (ts[j]?).map fun v => (v, fun v' => q.2 (.lst (ts.set j v')))
  | _, _ => none
def pCm (j : Nat) (p : FP) : FP := fun e => (p e).bind fun q => match q.1 with
  | .tup ts => (ts[j]?).map fun v => (v, fun v' => q.2 (.tup (ts.set j v')))
  | _ => none
def fApp (i : Nat) (p : FP) (a : FE) : FS := fun e => (p e).bind fun q => (a e).bind fun t => match q.1 with
  | .lst xs => if xs.length < 16777216 then some (.nx (e.set i (some (q.2 (.lst (xs ++ [t])))))) else none
  | _ => none
def fPop (i : Nat) (p : FP) (j : Nat) : FS := fun e => (p e).bind fun q => match q.1 with
  | .lst xs => (xs[xs.length - 1]?).bind fun t => some (.nx ((e.set i (some (q.2 (.lst xs.dropLast)))).set j (some t)))
  | _ => none
def fPopD (i : Nat) (p : FP) : FS := fun e => (p e).bind fun q => match q.1 with
  | .lst xs => (xs[xs.length - 1]?).bind fun t => some (.nx (e.set i (some (q.2 (.lst xs.dropLast)))))
  | _ => none
def fRev (i : Nat) (p : FP) : FS := fun e => (p e).bind fun q => match q.1 with
  | .lst xs => some (.nx (e.set i (some (q.2 (.lst xs.reverse)))))
  | _ => none
def fClr (i : Nat) (p : FP) : FS := fun e => (p e).bind fun q => match q.1 with
  | .lst xs => some (.nx (e.set i (some (q.2 (.lst [])))))
  | _ => none
def fPut (i : Nat) (p : FP) (k a : FE) : FS := fun e => (a e).bind fun t => (p e).bind fun q => (k e).bind fun u => match q.1, u with
  | .lst xs, .int z => (ixN xs.length z).bind fun j => some (.nx (e.set i (some (q.2 (.lst (xs.set j t))))))
  | _, _ => none
abbrev FC := FSt → Option (T × FSt)
def fDropC (c : FC) : FS := fun e => (c e).map fun q => .nx q.2
def fSetC (c : FC) (i : Nat) : FS := fun e => (c e).map fun q => .nx (q.2.set i (some q.1))
def fRetC (c : FC) : FS := fun e => (c e).map fun q => .rt q.1 q.2
def fCallI (G : List T → Option (T × T)) (i : Nat) (a : FA) : FC := fun e => (a e).bind fun ts => (G ts).map fun q => (q.1, e.set i (some q.2))
def fLet (a : FE) : FC := fun e => (a e).map fun t => (t, e)
def funT (fr : Bool) (ar n : Nat) (f : FS) (ts : List T) : Option T := if ts.length = ar then (f (ts.map some ++ List.replicate (n - ts.length) none)).bind fun o => match o with | .rt t _ => some t | .nx _ => (if fr then none else some .non) | _ => none else none
def funI (p ar n : Nat) (f : FS) (ts : List T) : Option (T × T) := if ts.length = ar then (f (ts.map some ++ List.replicate (n - ts.length) none)).bind fun o => match o with
  | .rt t e => (e.getD p none).map fun u => (t, u)
  | .nx e => (e.getD p none).map fun u => (.non, u)
  | _ => none else none
/-! ### what is meant -/
def KeepX (X : Nat → Prop) (h h' : DH) : Prop := ∀ (m : Nat) o, ¬ X m → h[m]? = some o → h'[m]? = some o
/-- what a slot that was not handed in owns is new -/
def Nw (wr w : Ws) (own : Ow) (b : Nat) : Prop := ∀ p ∈ w, (∀ q ∈ wr, q.1 ≠ p.1) → ∀ m ∈ own p.1, b ≤ m
structure Stp (A X : Nat → Prop) (h0 : DH) (wr w : Ws) (own : Ow) (ds : DSt) (h : DH) (wn : Ws) (own' : Ow) (ds' : DSt) (h' : DH) (e' : FSt) : Prop where
  rel : Rel A X wn own' ds' h' e'
  k0 : KeepX X h0 h'
  kin : KeepIn (Al A w own) h h'
  fresh : ∀ p ∈ wn, ∀ m ∈ own' p.1, h.length ≤ m ∨ ∃ q ∈ w, m ∈ own q.1
  le : h.length ≤ h'.length
  nw : Nw wr wn own' h0.length
  fix : ∀ p ∈ wr, ds'.getD p.1 none = ds.getD p.1 none
/-- what a return hands back: a value of a shape; the very parameter; whatever it is -/
inductive Rk where
  | sh (s : Sh) | par (p : Nat) | any
def RetK (rk : Rk) (A : Nat → Prop) (b : Nat) (h : DH) (t : T) (d : D) (ds : DSt) : Prop := match rk with
  | .sh s => RetV s A b h t d
  | .par p => ds.getD p none = some d
  | .any => True
def PS (rs : Rk) (wr wn wl : Ws) (A X : Nat → Prop) (h0 : DH) (w : Ws) (own : Ow) (ds : DSt) (h : DH) (r : RS) (o : FR) : Prop :=
  match o with
  | .nx e' => ∃ ds' h' own', r = .nx ds' h' ∧ Stp A X h0 wr w own ds h wn own' ds' h' e'
  | .ct e' => ∃ ds' h' own', r = .ct ds' h' ∧ Stp A X h0 wr w own ds h wl own' ds' h' e'
  | .bk e' => ∃ ds' h' own', r = .bk ds' h' ∧ Stp A X h0 wr w own ds h wl own' ds' h' e'
  | .rt t e' => ∃ d ds' h' own', r = .rt d h' ∧ Stp A X h0 wr w own ds h wr own' ds' h' e' ∧ RetK rs (Al A wr own') h0.length h' t d ds'
def SS (rs : Rk) (wr w : Ws) (m : SM) (f : FS) (wn wl : Ws) : Prop := ∀ A X own ds h0 h e, Rel A X w own ds h e → KeepX X h0 h → h0.length ≤ h.length → Nw wr w own h0.length → ∀ o, f e = some o → PS rs wr wn wl A X h0 w own ds h (m ds h) o
def SG (w : Ws) (fx : Ws) (g : GM) (gt : FG) : Prop := ∀ A X own ds h e d t, Rel A X w own ds h e → Val (Al A w own) h t d → ∀ e', gt t e = some e' → ∃ ds', g d ds h = some (ds', h) ∧ Rel A X w own ds' h e' ∧ ∀ p ∈ fx, ds'.getD p.1 none = ds.getD p.1 none
def SGs (w : Ws) (fx : Ws) (g : List D → DSt → DH → Option (DSt × DH)) (gt : List T → FSt → Option FSt) : Prop := ∀ A X own ds h e d t, Rel A X w own ds h e → Vals (Al A w own) h t d → ∀ e', gt t e = some e' → ∃ ds', g d ds h = some (ds', h) ∧ Rel A X w own ds' h e' ∧ ∀ p ∈ fx, ds'.getD p.1 none = ds.getD p.1 none
section
variable {rs : Rk} {sh sh' : Sh} {wr w w1 wn wl wn' wl' : Ws} {A X : Nat → Prop} {h0 h h1 h' h'' : DH} {own own1 own' own'' : Ow} {ds ds1 ds' ds'' : DSt} {e e1 e' e'' : FSt}
theorem KeepX.keep (a : KeepX X h0 h) (k : Keep h h1) : KeepX X h0 h1 := fun m o n q => k m o (a m o n q)
theorem Stp.refl (r : Rel A X w own ds h e) (k0 : KeepX X h0 h) (nw : Nw wr w own h0.length) : Stp A X h0 wr w own ds h w own ds h e := ⟨r, k0, KeepIn.refl _ _, fun p hp m hm => .inr ⟨p, hp, hm⟩, Nat.le_refl _, nw, fun _ _ => rfl⟩
theorem Stp.trans (a : Stp A X h0 wr w own ds h w1 own1 ds1 h1 e1) (b : Stp A X h0 wr w1 own1 ds1 h1 wn own' ds' h' e') : Stp A X h0 wr w own ds h wn own' ds' h' e' := by
  refine ⟨b.rel, b.k0, fun m o am q => b.kin m o ⟨am.1, fun p hp z => ?_⟩ (a.kin m o am q), fun p hp m hm => ?_, Nat.le_trans a.le b.le, b.nw, fun p hp => (b.fix p hp).trans (a.fix p hp)⟩
  · have := lt_of_get q
    rcases a.fresh p hp m z with l | ⟨q, hq, l⟩
    · omega
    · exact am.2 q hq l
  · rcases b.fresh p hp m hm with l | ⟨q, hq, l⟩
    · exact .inl (Nat.le_trans a.le l)
    · exact a.fresh q hq m l
theorem Stp.pre (k : Keep h h1) (b : Stp A X h0 wr w own ds h1 wn own' ds' h' e') : Stp A X h0 wr w own ds h wn own' ds' h' e' :=
  ⟨b.rel, b.k0, fun m o am q => b.kin m o am (k m o q), fun p hp m hm => (b.fresh p hp m hm).imp (fun l => Nat.le_trans k.len l) id, Nat.le_trans k.len b.le, b.nw, b.fix⟩
theorem Stp.weak (b : Stp A X h0 wr w own ds h wn own' ds' h' e') (s : ∀ p ∈ wn', p ∈ wn) : Stp A X h0 wr w own ds h wn' own' ds' h' e' := ⟨b.rel.weaken s, b.k0, b.kin, fun p hp => b.fresh p (s p hp), b.le, fun p hp => b.nw p (s p hp), b.fix⟩
theorem Stp.drop (b : Stp A X h0 wr w1 own ds h wn own' ds' h' e') (s : ∀ p ∈ w1, p ∈ w) : Stp A X h0 wr w own ds h wn own' ds' h' e' := ⟨b.rel, b.k0, fun m o am q => b.kin m o ⟨am.1, fun p hp => am.2 p (s p hp)⟩ q, fun p hp m hm => (b.fresh p hp m hm).imp id fun ⟨q, hq, x⟩ => ⟨q, s q hq, x⟩, b.le, b.nw, b.fix⟩
theorem PS.after (a : Stp A X h0 wr w own ds h w1 own1 ds1 h1 e1) {r : RS} {o : FR} (b : PS rs wr wn wl A X h0 w1 own1 ds1 h1 r o) : PS rs wr wn wl A X h0 w own ds h r o := by
  cases o with
  | nx e' => obtain ⟨ds', h', own', e1, s⟩ := b; exact ⟨ds', h', own', e1, a.trans s⟩
  | ct e' => obtain ⟨ds', h', own', e1, s⟩ := b; exact ⟨ds', h', own', e1, a.trans s⟩
  | bk e' => obtain ⟨ds', h', own', e1, s⟩ := b; exact ⟨ds', h', own', e1, a.trans s⟩
  | rt t e' => obtain ⟨d, ds', h', own', e1, s, v⟩ := b; exact ⟨d, ds', h', own', e1, a.trans s, v⟩
theorem PS.pre (k : Keep h h1) {r : RS} {o : FR} (b : PS rs wr wn wl A X h0 w own ds h1 r o) : PS rs wr wn wl A X h0 w own ds h r o := by
  cases o with
  | nx e' => obtain ⟨ds', h', own', e1, s⟩ := b; exact ⟨ds', h', own', e1, s.pre k⟩
  | ct e' => obtain ⟨ds', h', own', e1, s⟩ := b; exact ⟨ds', h', own', e1, s.pre k⟩
  | bk e' => obtain ⟨ds', h', own', e1, s⟩ := b; exact ⟨ds', h', own', e1, s.pre k⟩
  | rt t e' => obtain ⟨d, ds', h', own', e1, s, v⟩ := b; exact ⟨d, ds', h', own', e1, s.pre k, v⟩
theorem PS.weak {r : RS} {o : FR} (b : PS rs wr wn wl A X h0 w own ds h r o) (s : ∀ i ∈ wn', i ∈ wn) (s' : ∀ i ∈ wl', i ∈ wl) : PS rs wr wn' wl' A X h0 w own ds h r o := by
  cases o with
  | nx e' => obtain ⟨ds', h', own', e1, q⟩ := b; exact ⟨ds', h', own', e1, q.weak s⟩
  | ct e' => obtain ⟨ds', h', own', e1, q⟩ := b; exact ⟨ds', h', own', e1, q.weak s'⟩
  | bk e' => obtain ⟨ds', h', own', e1, q⟩ := b; exact ⟨ds', h', own', e1, q.weak s'⟩
  | rt t e' => exact b
theorem PS.drop {r : RS} {o : FR} (b : PS rs wr wn wl A X h0 w1 own ds h r o) (s : ∀ i ∈ w1, i ∈ w) : PS rs wr wn wl A X h0 w own ds h r o := by
  cases o with
  | nx e' => obtain ⟨ds', h', own', e1, q⟩ := b; exact ⟨ds', h', own', e1, q.drop s⟩
  | ct e' => obtain ⟨ds', h', own', e1, q⟩ := b; exact ⟨ds', h', own', e1, q.drop s⟩
  | bk e' => obtain ⟨ds', h', own', e1, q⟩ := b; exact ⟨ds', h', own', e1, q.drop s⟩
  | rt t e' => obtain ⟨d, ds', h', own', e1, q, v⟩ := b; exact ⟨d, ds', h', own', e1, q.drop s, v⟩
variable {m ma mb mk mo : EM} {f fa fb fk : FE} {a b : SM} {sa sb : FS} {t : TM} {ft : FT} {i j : Nat} {p : FP} {mr : AM} {fr : FA}
theorem ss_weak (s : SS rs wr w a sa wn wl) (h1 : ∀ i ∈ wn', i ∈ wn) (h2 : ∀ i ∈ wl', i ∈ wl) : SS rs wr w a sa wn' wl' := fun A X own ds h0 h e r k l n o q => (s A X own ds h0 h e r k l n o q).weak h1 h2
theorem ss_free (s : SS rs wr w1 a sa wn wl) (h1 : ∀ i ∈ w1, i ∈ w) : SS rs wr w a sa wn wl := fun A X own ds h0 h e r k l n o q => (s A X own ds h0 h e (r.weaken h1) k l (fun p hp => n p (h1 p hp)) o q).drop h1
theorem ss_next : SS rs wr w sNext fNext w wl := fun A X own ds h0 h e r k l n o q => by cases q; exact ⟨ds, h, own, rfl, .refl r k n⟩
theorem ss_seq (h1 : SS rs wr w a sa w1 wl) (h2 : SS rs wr w1 b sb wn wl) : SS rs wr w (sSeq a b) (fSeqS sa sb) wn wl := fun A X own ds h0 h e r k l n o q => by
  obtain ⟨o1, q1, q⟩ := bind_some q
  have p := h1 A X own ds h0 h e r k l n o1 q1
  unfold sSeq
  cases o1 with
  | nx e1 =>
    obtain ⟨ds1, h1', own1, e2, s⟩ := p
    rw [e2]
    exact (h2 A X own1 ds1 h0 h1' e1 s.rel s.k0 (Nat.le_trans l s.le) s.nw o q).after s
  | ct e1 => cases q; obtain ⟨ds1, h1', own1, e2, s⟩ := p; rw [e2]; exact ⟨_, _, _, rfl, s⟩
  | bk e1 => cases q; obtain ⟨ds1, h1', own1, e2, s⟩ := p; rw [e2]; exact ⟨_, _, _, rfl, s⟩
  | rt u e1 => cases q; obtain ⟨d, ds1, h1', own1, e2, s⟩ := p; rw [e2]; exact ⟨_, _, _, _, rfl, s⟩
theorem ss_set (he : SE w m f) (hi : ∀ p ∈ w, p.1 ≠ i) (hf : ∀ p ∈ wr, p.1 ≠ i) : SS rs wr w (sAsg m (gNm i)) (fSet f i) w wl := fun A X own ds h0 h e r k l n o q => by
  obtain ⟨u, q1, q⟩ := bind_some q
  cases q
  obtain ⟨d, h1, e1, k1, v⟩ := (he A X own ds h e r u q1).eq
  have s := (Stp.refl (wr := wr) ((r.keep k1).put hi v) (k.keep k1) n).pre k1
  refine ⟨ds.set i (some d), h1, own, ?_, s.rel, s.k0, s.kin, s.fresh, s.le, s.nw, fun p hp => getD_set_ne (Ne.symm (hf p hp))⟩
  unfold sAsg; rw [e1]; rfl
theorem ss_own (he : SX w sh m f) (hi : ∀ p ∈ w, p.1 ≠ i) (hf : ∀ p ∈ wr, p.1 ≠ i) : SS rs wr w (sAsg m (gNm i)) (fOwn f i) ((i, sh) :: w) wl := fun A X own ds h0 h e r k l n o q => by
  obtain ⟨u, q1, q⟩ := bind_some q
  obtain ⟨il, rfl⟩ := ite_some q
  obtain ⟨d, h1, e1, k1, S, o1, nd, bS⟩ := (he A X own ds h e r u q1).eq
  refine ⟨ds.set i (some d), h1, fun j => if j = i then S else own j, ?_, r.owns k1 hi il bS nd o1, k.keep k1, k1.kin _, fun p hp m hm => ?_, k1.len, fun p hp hq m hm => ?_, fun p hp => getD_set_ne (Ne.symm (hf p hp))⟩
  · unfold sAsg; rw [e1]; rfl
  · replace hm : m ∈ (if p.1 = i then S else own p.1) := hm
    by_cases c : p.1 = i
    · rw [if_pos c] at hm; exact .inl (bS m hm)
    · rw [if_neg c] at hm
      rcases List.mem_cons.mp hp with z | z
      · exact absurd (by rw [z]) c
      · exact .inr ⟨p, z, hm⟩
  · replace hm : m ∈ (if p.1 = i then S else own p.1) := hm
    by_cases c : p.1 = i
    · rw [if_pos c] at hm; exact Nat.le_trans l (bS m hm)
    · rw [if_neg c] at hm
      rcases List.mem_cons.mp hp with z | z
      · exact absurd (by rw [z]) c
      · exact n p z hq m hm
theorem ss_asg {g : GM} {gt : FG} (he : SE w m f) (hg : SG w wr g gt) : SS rs wr w (sAsg m g) (fAsg f gt) w wl := fun A X own ds h0 h e r k l n o q => by
  obtain ⟨u, q1, q⟩ := bind_some q
  obtain ⟨e', q2, rfl⟩ := map_some q
  obtain ⟨d, h1, e1, k1, v⟩ := (he A X own ds h e r u q1).eq
  obtain ⟨ds', g1, g2, g3⟩ := hg A X own ds h1 e d u (r.keep k1) v e' q2
  have s := (Stp.refl (wr := wr) g2 (k.keep k1) n).pre k1
  refine ⟨ds', h1, own, ?_, s.rel, s.k0, s.kin, s.fresh, s.le, s.nw, g3⟩
  unfold sAsg; rw [e1]; simp only [Res.st, g1]
theorem sg_name (hi : ∀ p ∈ w, p.1 ≠ i) (hf : ∀ p ∈ wr, p.1 ≠ i) : SG w wr (gNm i) (gtNm i) := fun A X own ds h e d t r v e' q => by
  cases q
  exact ⟨_, rfl, r.put hi v, fun p hp => getD_set_ne (Ne.symm (hf p hp))⟩
theorem sgs_nil : SGs w wr gsNil gtNil := fun A X own ds h e d t r v e' q => by
  cases t with
  | nil => cases q; simp only [Vals] at v; rw [v]; exact ⟨_, rfl, r, fun _ _ => rfl⟩
  | cons x xs => cases q
theorem sgs_cons {g : GM} {gt : FG} {gs : List D → DSt → DH → Option (DSt × DH)} {gts : List T → FSt → Option FSt} (h1 : SG w wr g gt) (h2 : SGs w wr gs gts) : SGs w wr (gsCons g gs) (gtCons gt gts) := fun A X own ds h e d t r v e' q => by
  cases t with
  | nil => cases q
  | cons x xs =>
    simp only [Vals] at v
    obtain ⟨y, ys, rfl, v1, v2⟩ := v
    obtain ⟨e1, q1, q⟩ := bind_some q
    obtain ⟨ds1, g1, r1, f1⟩ := h1 A X own ds h e y x r v1 e1 q1
    obtain ⟨ds2, g2, r2, f2⟩ := h2 A X own ds1 h e1 ys xs r1 v2 e' q
    refine ⟨ds2, ?_, r2, fun p hp => (f2 p hp).trans (f1 p hp)⟩
    simp only [gsCons, g1, Option.bind, g2]
theorem sg_tup {gs : List D → DSt → DH → Option (DSt × DH)} {gts : List T → FSt → Option FSt} (h1 : SGs w wr gs gts) : SG w wr (gTp gs) (gtTp gts) := fun A X own ds h e d t r v e' q => by
  cases t with
  | tup ts =>
    obtain ⟨xs, rfl, v1⟩ := val_tup.mp v
    exact h1 A X own ds h e xs ts r v1 e' q
  | _ => cases q
theorem ss_drop (he : SN w m f) : SS rs wr w (sDrop m) (fDrop f) w wl := fun A X own ds h0 h e r k l n o q => by
  obtain ⟨u, q1, rfl⟩ := map_some q
  obtain ⟨d, h1, e1, k1, v⟩ := (he A X own ds h e r u q1).eq
  refine ⟨ds, h1, own, ?_, (Stp.refl (r.keep k1) (k.keep k1) n).pre k1⟩
  unfold sDrop; rw [e1]; rfl
theorem ss_ret (he : SX wr sh m f) (hw : ∀ p ∈ wr, p ∈ w) : SS (.sh sh) wr w (sRet m) (fRet f) wn wl := fun A X own ds h0 h e r k l n o q => by
  obtain ⟨u, q1, rfl⟩ := map_some q
  obtain ⟨d, h1, e1, k1, S, o1, nd, bS⟩ := (he A X own ds h e (r.weaken hw) u q1).eq
  refine ⟨d, ds, h1, own, ?_, ((Stp.refl (r.keep k1) (k.keep k1) n).pre k1).weak hw, S, o1, nd, fun x hx => Nat.le_trans l (bS x hx)⟩
  unfold sRet; rw [e1]; rfl
theorem ss_retS (he : SE wr m f) (hw : ∀ p ∈ wr, p ∈ w) : SS (.sh .s) wr w (sRet m) (fRet f) wn wl := ss_ret he.sx hw
theorem ss_retO (hi : (i, sh) ∈ w) (hf : ∀ q ∈ wr, q.1 ≠ i) (hw : ∀ p ∈ wr, p ∈ w) : SS (.sh sh) wr w (sRet (mVar i)) (fRet (fVar i)) wn wl := fun A X own ds h0 h e r k l n o q => by
  obtain ⟨u, q1, rfl⟩ := map_some q
  obtain ⟨nd, a1, v, d, a2, a3, a4⟩ := r.ow _ hi
  have q1 : e.getD i none = some u := q1
  rw [a2] at q1
  cases q1
  refine ⟨d, ds, h, own, ?_, (Stp.refl r k n).weak hw, own i, Od.mono (fun m z _ => ⟨⟨z.1, fun p hp => z.2 p (hw p hp)⟩, z.2 _ hi⟩) (KeepIn.refl _ _) _ _ _ _ (KeepS.refl _ _) a4, nd, n _ hi hf⟩
  unfold sRet mVar; rw [a3]; rfl
theorem ss_retP {p : Nat} (hi : (p, sh) ∈ w) (hw : ∀ q ∈ wr, q ∈ w) : SS (.par p) wr w (sRet (mVar p)) (fRet (fC .non)) wn wl := fun A X own ds h0 h e r k l n o q => by
  cases q
  obtain ⟨_, _, t, d, a2, a3, _⟩ := r.ow _ hi
  exact ⟨d, ds, h, own, by unfold sRet mVar; rw [a3]; rfl, (Stp.refl r k n).weak hw, a3⟩
theorem ss_retA (he : SN w m f) (hw : ∀ q ∈ wr, q ∈ w) : SS .any wr w (sRet m) (fRet f) wn wl := fun A X own ds h0 h e r k l n o q => by
  obtain ⟨u, q1, rfl⟩ := map_some q
  obtain ⟨d, h1, e1, k1, v⟩ := (he A X own ds h e r u q1).eq
  exact ⟨d, ds, h1, own, by unfold sRet; rw [e1]; rfl, ((Stp.refl (r.keep k1) (k.keep k1) n).pre k1).weak hw, trivial⟩
theorem ss_retNA (hw : ∀ p ∈ wr, p ∈ w) : SS .any wr w sRetN fRetN wn wl := fun A X own ds h0 h e r k l n o q => by
  cases q
  exact ⟨.non, ds, h, own, rfl, (Stp.refl r k n).weak hw, trivial⟩
theorem ss_retN (hw : ∀ p ∈ wr, p ∈ w) : SS (.sh .s) wr w sRetN fRetN wn wl := fun A X own ds h0 h e r k l n o q => by
  cases q
  exact ⟨.non, ds, h, own, rfl, (Stp.refl r k n).weak hw, ret_s.mpr (val_non.mpr rfl)⟩
theorem ss_brk (s : ∀ i ∈ wl, i ∈ w) : SS rs wr w sBrk fBrk wn wl := fun A X own ds h0 h e r k l n o q => by cases q; exact ⟨ds, h, own, rfl, (Stp.refl r k n).weak s⟩
theorem ss_cnt (s : ∀ i ∈ wl, i ∈ w) : SS rs wr w sCnt fCnt wn wl := fun A X own ds h0 h e r k l n o q => by cases q; exact ⟨ds, h, own, rfl, (Stp.refl r k n).weak s⟩
theorem ss_if (ht : ST w t ft) (ha : SS rs wr w a sa wn wl) (hb : SS rs wr w b sb wn wl) : SS rs wr w (sIf t a b) (fIfS ft sa sb) wn wl := fun A X own ds h0 h e r k l n o q => by
  obtain ⟨c, q1, q⟩ := bind_some q
  obtain ⟨d, h1, e1, k1, v⟩ := (ht A X own ds h e r c q1).eq
  subst v
  unfold sIf; rw [e1]
  cases d with
  | true => exact (ha A X own ds h0 h1 e (r.keep k1) (k.keep k1) (Nat.le_trans l k1.len) n o q).pre k1
  | false => exact (hb A X own ds h0 h1 e (r.keep k1) (k.keep k1) (Nat.le_trans l k1.len) n o q).pre k1
theorem ss_aug (g : Int → Int → Int) (F : D → D → DH → Res D) (hF : ∀ x y h, F (.int x) (.int y) h = .ok (.int (g x y)) h) (he : SN w m f) (hi : ∀ p ∈ w, p.1 ≠ i) (hf : ∀ p ∈ wr, p.1 ≠ i) : SS rs wr w (sAug i F m) (fAugI i g f) w wl := fun A X own ds h0 h e r k l n o q => by
  unfold fAugI at q
  split at q
  · rename_i x hx
    obtain ⟨u, q1, q⟩ := bind_some q
    obtain ⟨d, h1, e1, k1, v⟩ := (he A X own ds h e r u q1).eq
    obtain ⟨dx, x1, x2⟩ := r.sh i _ hi hx
    rw [val_int.mp x2] at x1
    cases u with
    | int y =>
      cases q
      have s := (Stp.refl (wr := wr) ((r.keep k1).put (t := .int (g x y)) (d := .int (g x y)) hi (val_int.mpr rfl)) (k.keep k1) n).pre k1
      refine ⟨ds.set i (some (.int (g x y))), h1, own, ?_, s.rel, s.k0, s.kin, s.fresh, s.le, s.nw, fun p hp => getD_set_ne (Ne.symm (hf p hp))⟩
      unfold sAug; rw [x1]; simp only [e1, Res.st, val_int.mp v, hF]
    | _ => cases q
  · cases q
theorem ss_addI (he : SN w m f) (hi : ∀ p ∈ w, p.1 ≠ i) (hf : ∀ p ∈ wr, p.1 ≠ i) : SS rs wr w (sAug i addI m) (fAugI i (· + ·) f) w wl := ss_aug _ _ (fun _ _ _ => rfl) he hi hf
theorem ss_subI (he : SN w m f) (hi : ∀ p ∈ w, p.1 ≠ i) (hf : ∀ p ∈ wr, p.1 ≠ i) : SS rs wr w (sAug i subI m) (fAugI i (· - ·) f) w wl := ss_aug _ _ (fun _ _ _ => rfl) he hi hf
/-! loops -/
theorem ss_for {mi : IM} {fi : FI} {g : GM} {gt : FG} (hi : SI w mi fi) (hg : SG w wr g gt) (hb : SS rs wr w b sb w w) : SS rs wr w (sFor mi g b) (fFor fi gt sb) w wl := fun A X own ds h0 h e r k l n o q => by
  obtain ⟨ts, q1, q⟩ := bind_some q
  obtain ⟨it, h1, e1, k1, xs, vx, hlen, hat⟩ := (hi A X own ds h e r ts q1).eq
  unfold sFor
  rw [e1]
  refine PS.pre k1 ?_
  show PS rs wr w wl A X h0 w own ds h1 (forN it g b (it.len h1 + 1) 0 ds h1) o
  rw [hlen]
  have l1 := Nat.le_trans l k1.len
  have core : ∀ (k i : Nat) (ds2 : DSt) (h2 : DH) (e2 : FSt) (own2 : Ow), k + i = xs.length + 1 → i ≤ xs.length → Stp A X h0 wr w own ds h1 w own2 ds2 h2 e2 → forT gt sb (ts.drop i) e2 = some o → PS rs wr w wl A X h0 w own ds h1 (forN it g b k i ds2 h2) o := by
    intro k
    induction k with
    | zero => intro i ds2 h2 e2 own2 z l; omega
    | succ k ih =>
      intro i ds2 h2 e2 own2 z l s q
      simp only [forN]
      rw [hat h2 s.kin i]
      cases qx : xs[i]? with
      | none =>
        have l2 : xs.length ≤ i := List.getElem?_eq_none_iff.mp qx
        have e3 : ts.drop i = [] := List.drop_eq_nil_of_le (by rw [← vx.length]; omega)
        rw [e3] at q
        cases q
        exact ⟨ds2, h2, own2, rfl, s⟩
      | some x =>
        have hil : i < xs.length := (List.getElem?_eq_some_iff.mp qx).1
        have htl : i < ts.length := by rw [← vx.length]; exact hil
        obtain ⟨dx, d1, d2⟩ := vx.get (List.getElem?_eq_getElem htl)
        rw [qx] at d1
        cases d1
        rw [List.drop_eq_getElem_cons htl] at q
        simp only [forT] at q
        obtain ⟨e3, g1, q⟩ := bind_some q
        obtain ⟨o1, b1, q⟩ := bind_some q
        have d3 : Val (Al A w own2) h2 ts[i] x := by
          refine Val.mono (fun m am l => ⟨am.1, fun p hp z => ?_⟩) s.kin _ _ d2
          rcases s.fresh p hp m z with l' | ⟨q, hq, l'⟩
          · omega
          · exact am.2 q hq l'
        obtain ⟨ds3, g2, r3, f3⟩ := hg A X own2 ds2 h2 e2 x _ s.rel d3 e3 g1
        simp only [g2]
        have p := hb A X own2 ds3 h0 h2 e3 r3 s.k0 (Nat.le_trans l1 s.le) s.nw o1 b1
        have s3 : Stp A X h0 wr w own ds h1 w own2 ds3 h2 e3 := ⟨r3, s.k0, s.kin, s.fresh, s.le, s.nw, fun p hp => (f3 p hp).trans (s.fix p hp)⟩
        cases o1 with
        | nx e4 =>
          obtain ⟨ds4, h4, own4, z4, s4⟩ := p
          rw [z4]
          exact ih (i + 1) ds4 h4 e4 own4 (by omega) hil (s3.trans s4) q
        | ct e4 =>
          obtain ⟨ds4, h4, own4, z4, s4⟩ := p
          rw [z4]
          exact ih (i + 1) ds4 h4 e4 own4 (by omega) hil (s3.trans s4) q
        | bk e4 =>
          obtain ⟨ds4, h4, own4, z4, s4⟩ := p
          rw [z4]
          cases q
          exact ⟨ds4, h4, own4, rfl, s3.trans s4⟩
        | rt t4 e4 =>
          obtain ⟨d4, ds4, h4, own4, z4, s4, v4⟩ := p
          rw [z4]
          cases q
          exact ⟨d4, ds4, h4, own4, rfl, s3.trans s4, v4⟩
  exact core (xs.length + 1) 0 ds h1 e own rfl (Nat.zero_le _) (.refl (r.keep k1) (k.keep k1) n) q
theorem ss_while {M : Nat} (ht : ST w t ft) (hb : SS rs wr w b sb w w) : SS rs wr w (sWhile M t b) (fWhile M ft sb) w wl := fun A X own ds h0 h e r k l n o q => by
  unfold sWhile
  have core : ∀ (M : Nat) (ds2 : DSt) (h2 : DH) (e2 : FSt) (own2 : Ow), Stp A X h0 wr w own ds h w own2 ds2 h2 e2 → whileT ft sb M e2 = some o → PS rs wr w wl A X h0 w own ds h (whileN t b M ds2 h2) o := by
    intro M
    induction M with
    | zero => intro ds2 h2 e2 own2 s q; cases q
    | succ M ih =>
      intro ds2 h2 e2 own2 s q
      simp only [whileT] at q
      obtain ⟨c, q1, q⟩ := bind_some q
      obtain ⟨d, h3, e3, k3, v⟩ := (ht A X own2 ds2 h2 e2 s.rel c q1).eq
      subst v
      simp only [whileN, e3, Res.st]
      have s3 : Stp A X h0 wr w own ds h w own2 ds2 h3 e2 := s.trans ((Stp.refl (s.rel.keep k3) (s.k0.keep k3) s.nw).pre k3)
      cases d with
      | false => cases q; exact ⟨ds2, h3, own2, rfl, s3⟩
      | true =>
        simp only [if_true] at q ⊢
        obtain ⟨o1, b1, q⟩ := bind_some q
        have p := hb A X own2 ds2 h0 h3 e2 s3.rel s3.k0 (Nat.le_trans l s3.le) s3.nw o1 b1
        cases o1 with
        | nx e4 =>
          obtain ⟨ds4, h4, own4, z4, s4⟩ := p
          rw [z4]
          exact ih ds4 h4 e4 own4 (s3.trans s4) q
        | ct e4 =>
          obtain ⟨ds4, h4, own4, z4, s4⟩ := p
          rw [z4]
          exact ih ds4 h4 e4 own4 (s3.trans s4) q
        | bk e4 =>
          obtain ⟨ds4, h4, own4, z4, s4⟩ := p
          rw [z4]
          cases q
          exact ⟨ds4, h4, own4, rfl, s3.trans s4⟩
        | rt t4 e4 =>
          obtain ⟨d4, ds4, h4, own4, z4, s4, v4⟩ := p
          rw [z4]
          cases q
          exact ⟨d4, ds4, h4, own4, rfl, s3.trans s4, v4⟩
  exact core M ds h e own (.refl r k n) q
/-! ### what is owned is changed -/
def SP (w : Ws) (i : Nat) (sh' : Sh) (m : EM) (p : FP) : Prop := ∀ A X own ds h e, Rel A X w own ds h e → ∀ t' up, p e = some (t', up) → SatE (m ds h) fun d' h' => Keep h h' ∧ ∃ sh0 d0 S' R, (i, sh0) ∈ w ∧ ds.getD i none = some d0 ∧ Foc (Al A w own) h' sh0 d0 (own i) sh' t' d' S' R up
theorem sp_var (hi : (i, sh) ∈ w) : SP w i sh (mVar i) (pVar i) := fun A X own ds h e r t' up q => by
  obtain ⟨u, q1, q2⟩ := map_some q
  cases q2
  obtain ⟨nd, a1, v, d, a2, a3, a4⟩ := r.ow _ hi
  have a2 : e.getD i none = some v := a2
  rw [a2] at q1
  cases q1
  unfold mVar
  rw [a3]
  exact ⟨Keep.refl _, sh, d, own i, [], hi, rfl, Foc.refl a4⟩
theorem sp_ix (hp : SP w i (.l sh') m p) (hk : SN w mk fk) : SP w i sh' (mOp ixD m mk) (pIx p fk) := fun A X own ds h e r t' up q => by
  obtain ⟨⟨t1, up1⟩, q1, q⟩ := bind_some q
  obtain ⟨u, q2, q⟩ := bind_some q
  cases t1 with
  | lst ts =>
    cases u with
    | int z =>
      obtain ⟨j, q3, q⟩ := bind_some q
      obtain ⟨v, q4, q5⟩ := map_some q
      cases q5
      rw [w_op]
      refine (hp A X own ds h e r _ _ q1).imp fun d1 h1 ⟨k1, sh0, d0, S', R, hw, hd, f⟩ => ?_
      refine (hk A X own ds h1 e (r.keep k1) _ q2).imp fun d2 h2 ⟨k2, v2⟩ => ?_
      obtain ⟨n, xs, du, Su, R2, rfl, hn, hl, hx, f2⟩ := (f.keep k2).ix q4
      rw [val_int.mp v2]
      have : atI xs z = some du := by unfold atI; rw [hl, q3]; exact hx
      rw [w_ixs (items_lst hn) this]
      exact ⟨k1.trans k2, sh0, d0, Su, R ++ R2, hw, hd, f2⟩
    | _ => cases q
  | _ => cases u <;> cases q
theorem sp_cm {es : List Sh} {c : Int} (hp : SP w i (.t es) m p) (hj : es[j]? = some sh') (hc : c = (j : Int)) : SP w i sh' (mOp ixD m (mC (.int c))) (pCm j p) := fun A X own ds h e r t' up q => by
  obtain ⟨⟨t1, up1⟩, q1, q⟩ := bind_some q
  cases t1 with
  | tup ts =>
    obtain ⟨v, q4, q5⟩ := map_some q
    cases q5
    rw [w_op]
    refine (hp A X own ds h e r _ _ q1).imp fun d1 h1 ⟨k1, sh0, d0, S', R, hw, hd, f⟩ => ?_
    obtain ⟨xs, u, du, Su, R2, rfl, hl, hx, hu, f2⟩ := f.cm hj
    rw [q4] at hu
    cases hu
    show SatE (ixD (.tup xs) (.int c) h1) _
    rw [hc, w_ixs (zs := xs) rfl (L2.atI_nat hx)]
    exact ⟨k1, sh0, d0, Su, R ++ R2, hw, hd, f2⟩
  | _ => cases q
def fPth (p : FP) : FE := fun e => (p e).map (·.1)
theorem sb_pth (hp : SP w i sh' m p) (hf : flatSh sh' = true) : SB w m (fPth p) := fun A X own ds h e r t q => by
  obtain ⟨⟨t1, up⟩, q1, rfl⟩ := map_some q
  exact (hp A X own ds h e r _ _ q1).imp fun d h1 ⟨k1, sh0, d0, S', R, hw, hd, f⟩ => ⟨k1, od_bv hf f.od⟩
theorem se_pth (hp : SP w i .s m p) : SE w m (fPth p) := fun A X own ds h e r t q => by
  obtain ⟨⟨t1, up⟩, q1, rfl⟩ := map_some q
  refine (hp A X own ds h e r _ _ q1).imp fun d h1 ⟨k1, sh0, d0, S', R, hw, hd, f⟩ => ⟨k1, ?_⟩
  have := f.od
  simp only [Od] at this
  exact this.2
theorem stored {sh0 : Sh} {hs hf hh : DH} {A1 : Nat → Prop} {d0 : D} {nn : Nat} {S1 R Sv S2 : List Nat} {up : T → T} {t' t'' : T} {o' : DO} (r : Rel A X w own ds hs e) (k0 : KeepX X h0 hs) (l0 : h0.length ≤ hs.length) (nw : Nw wr w own h0.length) (kf : Keep hs hf) (k : Keep hf hh) (hw : (i, sh0) ∈ w) (hd : ds.getD i none = some d0)
    (f : Foc A1 hf sh0 d0 (own i) sh' t' (.ref nn) (nn :: S1) R up) (hA1 : ∀ m, A1 m → m < hf.length → Al A w own m ∧ m ∉ Sv) (hSv : ∀ m ∈ Sv, hs.length ≤ m) (hS2 : ∀ m ∈ S2, m ∈ S1 ∨ m ∈ Sv) (nd2 : (own i).Nodup → (nn :: S2).Nodup)
    (ov : Od (fun m => Al A w own m ∧ m ∉ Sv) (hh.set nn o') sh' t'' (.ref nn) (nn :: S2)) : ∃ own', Stp A X h0 wr w own ds hs w own' ds (hh.set nn o') (e.set i (some (up t''))) ∧ ∀ p ∈ w, ∀ m ∈ own' p.1, (∃ q ∈ w, m ∈ own q.1) ∨ m ∈ Sv := by
  obtain ⟨nd, a1, _⟩ := r.ow _ hw
  have hno : nn ∈ own i := (f.pm nn).mpr (.inr List.mem_cons_self)
  have hnl : nn < hs.length := r.ltO hw nn hno
  have hR : ∀ m ∈ R, m ∈ own i := fun m hm => (f.pm m).mpr (.inl hm)
  have hS1 : ∀ m ∈ S1, m ∈ own i := fun m hm => (f.pm m).mpr (.inr (List.mem_cons_of_mem _ hm))
  obtain ⟨ndf, djf⟩ := f.nd nd
  have kk := kf.trans k
  have ne : ∀ m, Al A w own m → m ≠ nn := fun m a z => a.2 _ hw (z ▸ hno)
  have kin : KeepIn (Al A w own) hs (hh.set nn o') := fun m o a q => by rw [List.getElem?_set_ne (Ne.symm (ne m a))]; exact kk m o q
  obtain ⟨Sn, s1, s2, s3⟩ := f.back (fun m => Al A w own m ∧ m ∉ Sv) (hh.set nn o') t'' (nn :: S2) hA1 (fun m o a q => by
    have := hA1 m a (lt_of_get q)
    rw [List.getElem?_set_ne (Ne.symm (ne m this.1))]; exact k m o q) (fun m hm o q => by
    rw [List.getElem?_set_ne (fun z => djf m hm (by rw [← z]; exact List.mem_cons_self))]; exact k m o q) ov
  have hSn : ∀ m ∈ Sn, m ∈ own i ∨ hs.length ≤ m := fun m hm => by
    rcases (s2 m).mp hm with z | z
    · exact .inl (hR m z)
    · rcases List.mem_cons.mp z with y | y
      · exact .inl (y ▸ hno)
      · rcases hS2 m y with x | x
        · exact .inl (hS1 m x)
        · exact .inr (hSv m x)
  have ndn : Sn.Nodup := s3 nd (nd2 nd) fun m hm z => by
    rcases List.mem_cons.mp z with y | y
    · exact djf m hm (by rw [y]; exact List.mem_cons_self)
    · rcases hS2 m y with x | x
      · exact djf m hm (List.mem_cons_of_mem _ x)
      · have := r.ltO hw m (hR m hm); have := hSv m x; omega
  have c1 : ∀ p ∈ w, (p.1 = i ∧ p.2 = sh0) ∨ (p.1 ≠ i ∧ p ∈ w) := fun p hp => by
    by_cases c : p.1 = i
    · have := r.un p hp _ hw c
      exact .inl ⟨c, by rw [this]⟩
    · exact .inr ⟨c, hp⟩
  have c2 : ∀ p ∈ w, p.1 ≠ i → KeepS (own p.1) hs (hh.set nn o') := fun p hp q m hm o z => by
    have y : nn ≠ m := fun y => r.dj p hp _ hw q m hm (by rw [← y]; exact hno)
    rw [List.getElem?_set_ne y]
    exact kk m o z
  have c3 : ∀ m, (Al A w own m ∧ m ∉ Sv) → m ∉ Sn := fun m a z => by
    rcases (s2 m).mp z with y | y
    · exact a.1.2 _ hw (hR m y)
    · rcases List.mem_cons.mp y with x | x
      · exact ne m a.1 x
      · rcases hS2 m x with v | v
        · exact a.1.2 _ hw (hS1 m v)
        · exact a.2 v
  have c4 : Od (fun m => Al A w own m ∧ m ∉ Sn) (hh.set nn o') sh0 (up t'') d0 Sn := Od.mono (fun m a _ => ⟨a.1, c3 m a⟩) (KeepIn.refl _ _) _ _ _ _ (KeepS.refl _ _) s1
  have le : hs.length ≤ (hh.set nn o').length := by rw [List.length_set]; exact kk.len
  refine ⟨fun j => if j = i then Sn else own j, ⟨r.store c1 (fun p hp _ => hp) hw ⟨_, hw, rfl⟩ hd kin c2 le ndn hSn c4, fun m o nx q => ?_, kin, fun p hp m hm => ?_, le, fun p hp hq m hm => ?_, fun _ _ => rfl⟩, fun p hp m hm => ?_⟩
  · have y : nn ≠ m := fun y => nx (by rw [← y]; exact (a1 nn hno).1)
    rw [List.getElem?_set_ne y]
    exact kk m o (k0 m o nx q)
  · replace hm : m ∈ (if p.1 = i then Sn else own p.1) := hm
    by_cases c : p.1 = i
    · rw [if_pos c] at hm
      rcases hSn m hm with z | z
      · exact .inr ⟨_, hw, z⟩
      · exact .inl z
    · rw [if_neg c] at hm; exact .inr ⟨p, hp, hm⟩
  · replace hm : m ∈ (if p.1 = i then Sn else own p.1) := hm
    by_cases c : p.1 = i
    · rw [if_pos c] at hm
      rcases hSn m hm with z | z
      · exact nw _ hw (fun q hq' y => hq q hq' (y.trans c.symm)) m z
      · exact Nat.le_trans l0 z
    · rw [if_neg c] at hm; exact nw p hp hq m hm
  · replace hm : m ∈ (if p.1 = i then Sn else own p.1) := hm
    by_cases c : p.1 = i
    · rw [if_pos c] at hm
      rcases (s2 m).mp hm with z | z
      · exact .inl ⟨_, hw, hR m z⟩
      · rcases List.mem_cons.mp z with y | y
        · exact .inl ⟨_, hw, y ▸ hno⟩
        · rcases hS2 m y with x | x
          · exact .inl ⟨_, hw, hS1 m x⟩
          · exact .inr x
    · rw [if_neg c] at hm; exact .inl ⟨p, hp, hm⟩
/-! the changes one by one -/
theorem ixN_lt {n : Nat} {z : Int} {j : Nat} (e : ixN n z = some j) : j < n := (ixN_seq e).2.1
theorem foc_l {A1 : Nat → Prop} {sh0 : Sh} {d0 d' : D} {S S' R : List Nat} {ts : List T} {up : T → T} (f : Foc A1 h sh0 d0 S (.l sh') (.lst ts) d' S' R up) : ∃ n xs S1, d' = .ref n ∧ S' = n :: S1 ∧ h[n]? = some (.lst xs) ∧ OdL (Od A1 h sh') ts xs S1 := by
  have od := f.od
  simp only [Od] at od
  obtain ⟨ts0, n, xs, S1, e1, rfl, e2, hn, ol⟩ := od
  cases e1
  exact ⟨n, xs, S1, rfl, e2, hn, ol⟩
theorem ss_app (hp : SP w i (.l sh') mo p) (he : SX w sh' m f) : SS rs wr w (sDrop (mMt "list" appD mo (aCons m aNil))) (fApp i p f) w wl := fun A X own ds h0 h e r k l n o q => by
  obtain ⟨⟨t1, up⟩, q1, q⟩ := bind_some q
  obtain ⟨u, q2, q⟩ := bind_some q
  cases t1 with
  | lst ts =>
    obtain ⟨c, rfl⟩ := ite_some q
    obtain ⟨d1, h1, e1, k1, sh0, d0, S', R, hw, hd, f1⟩ := (hp A X own ds h e r _ _ q1).eq
    obtain ⟨nn, xs, S1, rfl, rfl, hn, ol⟩ := foc_l f1
    obtain ⟨d, h2, e2, k2, Sv, o2, nv, bv⟩ := (he A X own ds h1 e (r.keep k1) u q2).eq
    have hn2 := k2 _ _ hn
    have hS1 : ∀ m ∈ S1, m ∈ own i := fun m hm => (f1.pm m).mpr (.inr (List.mem_cons_of_mem _ hm))
    have hno : nn ∈ own i := (f1.pm nn).mpr (.inr List.mem_cons_self)
    have hnl := r.ltO hw nn hno
    have l1 := k1.len
    have fs : Fr nn h2 (h2.set nn (.lst (xs ++ [d]))) := (Fr.refl _ h2).set _
    have nd1 : (nn :: S1).Nodup := (f1.nd (r.ow _ hw).1).1
    have ne : ∀ m, Al A w own m → m ≠ nn := fun m a z => a.2 _ hw (z ▸ hno)
    have ov : Od (fun m => Al A w own m ∧ m ∉ Sv) (h2.set nn (.lst (xs ++ [d]))) (.l sh') (.lst (ts ++ [u])) (.ref nn) (nn :: (S1 ++ Sv)) := by
      simp only [Od]
      refine ⟨_, nn, _, _, rfl, rfl, rfl, set_same hn2, OdL.append (OdL.imp (fun t d U hU p => Od.mono (fun m a l => ⟨a, fun z => by have := bv m z; omega⟩) (fun m o a z => fs m o (ne m a) (k2 m o z)) _ _ _ _ (fun m hm o z => fs m o (fun y => ?_) (k2 m o z)) p) ol) (OdL.one (Od.mono (fun _ a _ => a) (fun m o a z => fs m o (ne m a.1) z) _ _ _ _ (fun m hm o z => fs m o (fun y => by have := bv m hm; omega) z) o2))⟩
      exact (List.nodup_cons.mp nd1).1 (y ▸ hU m hm)
    obtain ⟨own', s, _⟩ := stored r k l n k1 k2 hw hd f1 (fun m a l => ⟨a, fun z => by have := bv m z; omega⟩) (fun m hm => Nat.le_trans l1 (bv m hm)) (fun m hm => List.mem_append.mp hm) (fun _ => by
      rw [List.nodup_cons, List.nodup_append]
      refine ⟨fun z => ?_, (List.nodup_cons.mp nd1).2, nv, fun a ha b hb z => ?_⟩
      · rcases List.mem_append.mp z with y | y
        · exact (List.nodup_cons.mp nd1).1 y
        · have := bv _ y; omega
      · have := r.ltO hw a (hS1 a ha); have := bv b hb; omega) ov
    refine ⟨ds, _, own', ?_, s⟩
    unfold sDrop mMt aCons aNil
    simp only [e1, Res.bind, isTy_lst hn, if_true, e2, appD, hn2]
    rw [ol.length, if_pos c]
    rfl
  | _ => cases q
/-- a list loses what it holds, or only changes its order: what is left is of what was -/
theorem shrunk {sh0 : Sh} {hs hf hh : DH} {o' : DO} {d0 : D} {nn : Nat} {S1 R S2 : List Nat} {up : T → T} {ts us : List T} {ys : List D} (r : Rel A X w own ds hs e) (k0 : KeepX X h0 hs) (l0 : h0.length ≤ hs.length) (nw : Nw wr w own h0.length) (kf : Keep hs hf) (k : Keep hf hh) (hw : (i, sh0) ∈ w) (hd : ds.getD i none = some d0)
    (f : Foc (Al A w own) hf sh0 d0 (own i) (.l sh') (.lst ts) (.ref nn) (nn :: S1) R up) (hS2 : ∀ m ∈ S2, m ∈ S1) (nd2 : S1.Nodup → S2.Nodup) (hn : hh[nn]? = some o') (ol : OdL (Od (Al A w own) hf sh') us ys S2) :
    ∃ own', Stp A X h0 wr w own ds hs w own' ds (hh.set nn (.lst ys)) (e.set i (some (up (.lst us)))) ∧ ∀ p ∈ w, ∀ m ∈ own' p.1, ∃ q ∈ w, m ∈ own q.1 := by
  have hno : nn ∈ own i := (f.pm nn).mpr (.inr List.mem_cons_self)
  have nd1 : (nn :: S1).Nodup := (f.nd (r.ow _ hw).1).1
  have ne : ∀ m, Al A w own m → m ≠ nn := fun m a z => a.2 _ hw (z ▸ hno)
  have fs : Fr nn hh (hh.set nn (.lst ys)) := (Fr.refl _ hh).set _
  have key : ∃ own', Stp A X h0 wr w own ds hs w own' ds (hh.set nn (.lst ys)) (e.set i (some (up (.lst us)))) ∧ ∀ p ∈ w, ∀ m ∈ own' p.1, (∃ q ∈ w, m ∈ own q.1) ∨ m ∈ ([] : List Nat) := ?key
  · obtain ⟨o, k1, k2⟩ := key
    exact ⟨o, k1, fun p hp m hm => (k2 p hp m hm).elim id fun z => nomatch z⟩
  refine stored (Sv := []) (S2 := S2) r k0 l0 nw kf k hw hd f (fun m a _ => ⟨a, fun z => nomatch z⟩) (fun m z => nomatch z) (fun m hm => .inl (hS2 m hm)) (fun _ => ?_) ?_
  · rw [List.nodup_cons] at nd1 ⊢
    exact ⟨fun z => nd1.1 (hS2 _ z), nd2 nd1.2⟩
  · simp only [Od]
    refine ⟨_, nn, _, _, rfl, rfl, rfl, set_same hn, OdL.imp (fun t d U hU p => Od.mono (fun m a _ => ⟨a, fun z => nomatch z⟩) (fun m o a z => fs m o (ne m a) (k m o z)) _ _ _ _ (fun m hm o z => fs m o (fun y => ?_) (k m o z)) p) ol⟩
    exact (List.nodup_cons.mp nd1).1 (y ▸ hS2 m (hU m hm))
theorem OdL.dropLast {P : T → D → List Nat → Prop} : ∀ {ts : List T} {xs : List D} {S : List Nat}, OdL P ts xs S → ∃ S2, (∀ m ∈ S2, m ∈ S) ∧ (S.Nodup → S2.Nodup) ∧ OdL P ts.dropLast xs.dropLast S2
  | [], xs, S, r => ⟨[], fun m z => (nomatch z), fun _ => List.nodup_nil, by rw [r.1]; exact ⟨rfl, rfl⟩⟩
  | [t], xs, S, ⟨d, ds, S1, S2, e1, e2, r1, r2⟩ => ⟨[], fun m z => (nomatch z), fun _ => List.nodup_nil, by rw [e1, r2.1]; exact ⟨rfl, rfl⟩⟩
  | t :: u :: ts, xs, S, ⟨d, ds, S1, S2, e1, e2, r1, r2⟩ => by
    obtain ⟨S3, a1, a2, a3⟩ := OdL.dropLast r2
    obtain ⟨d2, ds2, _, _, e3, _⟩ := r2
    refine ⟨S1 ++ S3, fun m hm => ?_, fun nd => ?_, ?_⟩
    · rw [e2]
      rcases List.mem_append.mp hm with y | y
      · exact List.mem_append_left _ y
      · exact List.mem_append_right _ (a1 m y)
    · rw [e2, List.nodup_append] at nd
      rw [List.nodup_append]
      exact ⟨nd.1, a2 nd.2.1, fun a ha b hb => nd.2.2 a ha b (a1 b hb)⟩
    · rw [e3] at a3
      rw [e1, e3]
      exact ⟨d, (d2 :: ds2).dropLast, S1, S3, rfl, rfl, r1, a3⟩
theorem OdL.reverse {P : T → D → List Nat → Prop} : ∀ {ts : List T} {xs : List D} {S : List Nat}, OdL P ts xs S → ∃ S2, (∀ m ∈ S2, m ∈ S) ∧ (S.Nodup → S2.Nodup) ∧ OdL P ts.reverse xs.reverse S2
  | [], xs, S, r => ⟨[], fun m z => (nomatch z), fun _ => List.nodup_nil, by rw [r.1]; exact ⟨rfl, rfl⟩⟩
  | t :: ts, xs, S, ⟨d, ds, S1, S2, e1, e2, r1, r2⟩ => by
    obtain ⟨S3, a1, a2, a3⟩ := OdL.reverse r2
    refine ⟨S3 ++ S1, fun m hm => ?_, fun nd => ?_, ?_⟩
    · rw [e2]
      rcases List.mem_append.mp hm with y | y
      · exact List.mem_append_right _ (a1 m y)
      · exact List.mem_append_left _ y
    · rw [e2, List.nodup_append] at nd
      rw [List.nodup_append]
      exact ⟨a2 nd.2.1, nd.1, fun a ha b hb z => nd.2.2 b hb a (a1 a ha) z.symm⟩
    · rw [e1, List.reverse_cons, List.reverse_cons]
      exact OdL.append a3 (OdL.one r1)
theorem ss_popD (hp : SP w i (.l sh') mo p) : SS rs wr w (sDrop (mMt "list" popD mo aNil)) (fPopD i p) w wl := fun A X own ds h0 h e r k l n o q => by
  obtain ⟨⟨t1, up⟩, q1, q⟩ := bind_some q
  cases t1 with
  | lst ts =>
    obtain ⟨u, q2, q⟩ := bind_some q
    cases q
    obtain ⟨d1, h1, e1, k1, sh0, d0, S', R, hw, hd, f1⟩ := (hp A X own ds h e r _ _ q1).eq
    obtain ⟨nn, xs, S1, rfl, rfl, hn, ol⟩ := foc_l f1
    obtain ⟨S2, a1, a2, a3⟩ := ol.dropLast
    obtain ⟨own', s, _⟩ := shrunk r k l n k1 (Keep.refl _) hw hd f1 a1 a2 hn a3
    have hx : ∃ y, xs[xs.length - 1]? = some y := by
      have := (List.getElem?_eq_some_iff.mp q2).1
      exact ⟨_, List.getElem?_eq_getElem (by rw [ol.length]; exact this)⟩
    obtain ⟨y, hy⟩ := hx
    refine ⟨ds, _, own', ?_, s⟩
    unfold sDrop mMt aNil
    simp only [e1, Res.bind, isTy_lst hn, if_true, popD, hn, hy, Res.st]
  | _ => cases q
theorem ss_pop (hp : SP w i (.l .s) mo p) (hj : ∀ p ∈ w, p.1 ≠ j) (hf : ∀ p ∈ wr, p.1 ≠ j) : SS rs wr w (sAsg (mMt "list" popD mo aNil) (gNm j)) (fPop i p j) w wl := fun A X own ds h0 h e r k l n o q => by
  obtain ⟨⟨t1, up⟩, q1, q⟩ := bind_some q
  cases t1 with
  | lst ts =>
    obtain ⟨u, q2, q⟩ := bind_some q
    cases q
    obtain ⟨d1, h1, e1, k1, sh0, d0, S', R, hw, hd, f1⟩ := (hp A X own ds h e r _ _ q1).eq
    obtain ⟨nn, xs, S1, rfl, rfl, hn, ol⟩ := foc_l f1
    obtain ⟨S2, a1, a2, a3⟩ := ol.dropLast
    obtain ⟨own', s, so⟩ := shrunk r k l n k1 (Keep.refl _) hw hd f1 a1 a2 hn a3
    have v := (OdL.to_vals ol).1
    obtain ⟨y, hy, vy⟩ := v.get q2
    rw [← ol.length] at hy
    have v2 : Val (Al A w own') (h1.set nn (.lst xs.dropLast)) u y := Val.mono (fun m a _ => ⟨a.1, fun p hp z => let ⟨q, hq, x⟩ := so p hp m z; a.2 q hq x⟩) (fun m o a z => by
      have hno : nn ∈ own i := (f1.pm nn).mpr (.inr List.mem_cons_self)
      have : nn ≠ m := fun y => a.2 _ hw (y ▸ hno)
      rw [List.getElem?_set_ne this]; exact z) _ _ vy
    refine ⟨ds.set j (some y), _, own', ?_, s.rel.put hj v2, s.k0, s.kin, s.fresh, s.le, s.nw, fun p hp => getD_set_ne (Ne.symm (hf p hp))⟩
    unfold sAsg mMt aNil
    simp only [e1, Res.bind, isTy_lst hn, if_true, popD, hn, hy, Res.st, gNm]
  | _ => cases q
theorem ss_rev (hp : SP w i (.l sh') mo p) : SS rs wr w (sDrop (mMt "list" revD mo aNil)) (fRev i p) w wl := fun A X own ds h0 h e r k l n o q => by
  obtain ⟨⟨t1, up⟩, q1, q⟩ := bind_some q
  cases t1 with
  | lst ts =>
    cases q
    obtain ⟨d1, h1, e1, k1, sh0, d0, S', R, hw, hd, f1⟩ := (hp A X own ds h e r _ _ q1).eq
    obtain ⟨nn, xs, S1, rfl, rfl, hn, ol⟩ := foc_l f1
    obtain ⟨S2, a1, a2, a3⟩ := ol.reverse
    obtain ⟨own', s, _⟩ := shrunk r k l n k1 (Keep.refl _) hw hd f1 a1 a2 hn a3
    refine ⟨ds, _, own', ?_, s⟩
    unfold sDrop mMt aNil
    simp only [e1, Res.bind, isTy_lst hn, if_true, revD, hn, Res.st]
  | _ => cases q
theorem ss_clr (hp : SP w i (.l sh') mo p) : SS rs wr w (sDrop (mMt "list" clrD mo aNil)) (fClr i p) w wl := fun A X own ds h0 h e r k l n o q => by
  obtain ⟨⟨t1, up⟩, q1, q⟩ := bind_some q
  cases t1 with
  | lst ts =>
    cases q
    obtain ⟨d1, h1, e1, k1, sh0, d0, S', R, hw, hd, f1⟩ := (hp A X own ds h e r _ _ q1).eq
    obtain ⟨nn, xs, S1, rfl, rfl, hn, ol⟩ := foc_l f1
    obtain ⟨own', s, _⟩ := shrunk (S2 := []) (us := []) (ys := []) r k l n k1 (Keep.refl _) hw hd f1 (fun m z => nomatch z) (fun _ => List.nodup_nil) hn ⟨rfl, rfl⟩
    refine ⟨ds, _, own', ?_, s⟩
    unfold sDrop mMt aNil
    simp only [e1, Res.bind, isTy_lst hn, if_true, clrD, hn, Res.st]
  | _ => cases q
theorem OdL.set {P Q : T → D → List Nat → Prop} {ts : List T} {xs : List D} {S : List Nat} {j : Nat} {u t' : T} {d' : D} {Sv : List Nat} (r : OdL P ts xs S) (q : ts[j]? = some u) (k : ∀ t d U, (∀ m ∈ U, m ∈ S) → P t d U → Q t d U) (v : Q t' d' Sv) : ∃ S2, (∀ m ∈ S2, m ∈ S ∨ m ∈ Sv) ∧ (S.Nodup → Sv.Nodup → (∀ m ∈ S, m ∉ Sv) → S2.Nodup) ∧ OdL Q (ts.set j t') (xs.set j d') S2 := by
  obtain ⟨d, S1, Sj, S2, e1, e2, e3, e4⟩ := r.focus q
  refine ⟨S1 ++ (Sv ++ S2), fun m hm => ?_, fun nd nv dj => ?_, e4 Q t' d' Sv (fun u e U hU p => k u e U (fun m hm => ?_) p) v⟩
  · rw [e2]
    simp only [List.mem_append] at hm ⊢
    rcases hm with a | a | a
    · exact .inl (.inl a)
    · exact .inr a
    · exact .inl (.inr (.inr a))
  · rw [e2] at nd dj
    simp only [List.nodup_append, List.mem_append] at nd dj ⊢
    obtain ⟨m1, ⟨m2, m3, m4⟩, m5⟩ := nd
    refine ⟨m1, ⟨nv, m3, fun a ha b hb z => ?_⟩, fun a ha b hb z => ?_⟩
    · exact dj b (.inr (.inr hb)) (z ▸ ha)
    · rcases hb with hb | hb
      · exact dj a (.inl ha) (z ▸ hb)
      · exact m5 a ha b (.inr hb) z
  · rw [e2]
    simp only [List.mem_append]
    rcases hU m hm with a | a
    · exact .inl a
    · exact .inr (.inr a)
theorem ss_put (hp : SP w i (.l sh') mo p) (hk : SN w mk fk) (he : SX w sh' m f) : SS rs wr w (sAsg m (gSb setD mo mk)) (fPut i p fk f) w wl := fun A X own ds h0 h e r k l n o q => by
  obtain ⟨u, q2, q⟩ := bind_some q
  obtain ⟨⟨t1, up⟩, q1, q⟩ := bind_some q
  obtain ⟨z, q3, q⟩ := bind_some q
  cases t1 with
  | lst ts =>
    cases z with
    | int z =>
      obtain ⟨j, q4, q⟩ := bind_some q
      cases q
      obtain ⟨d, h1, e1, k1, Sv, o1, nv, bv⟩ := (he A X own ds h e r u q2).eq
      have lv := Od.lt _ _ _ _ o1
      have r1 := r.avoid Sv bv k1 lv
      obtain ⟨d1, h2, e2, k2, sh0, d0, S', R, hw, hd, f1⟩ := (hp _ X own ds h1 e r1 _ _ q1).eq
      obtain ⟨nn, xs, S1, rfl, rfl, hn, ol⟩ := foc_l f1
      obtain ⟨dz, h3, e3, k3, vz⟩ := (hk _ X own ds h2 e (r1.keep k2) _ q3).eq
      have hn3 := k3 _ _ hn
      have hS1 : ∀ m ∈ S1, m ∈ own i := fun m hm => (f1.pm m).mpr (.inr (List.mem_cons_of_mem _ hm))
      have hno : nn ∈ own i := (f1.pm nn).mpr (.inr List.mem_cons_self)
      have hnl := r.ltO hw nn hno
      have fs : Fr nn h3 (h3.set nn (.lst (xs.set j d))) := (Fr.refl _ h3).set _
      have nd1 : (nn :: S1).Nodup := (f1.nd (r.ow _ hw).1).1
      have ne : ∀ m, Al A w own m → m ≠ nn := fun m a z => a.2 _ hw (z ▸ hno)
      have hj : j < ts.length := ixN_lt q4
      obtain ⟨S2, a1, a2, a3⟩ := OdL.set (Q := Od (fun m => Al A w own m ∧ m ∉ Sv) (h3.set nn (.lst (xs.set j d))) sh') ol (List.getElem?_eq_getElem hj) (fun t d U hU p => Od.mono (fun m a _ => ⟨⟨a.1.1, a.2⟩, a.1.2⟩) (fun m o a z => fs m o (ne m ⟨a.1.1, a.2⟩) (k3 m o z)) _ _ _ _ (fun m hm o z => fs m o (fun y => (List.nodup_cons.mp nd1).1 (y ▸ hU m hm)) (k3 m o z)) p) (Od.mono (fun _ a _ => a) (fun m o a z => fs m o (ne m a.1) (k3 m o (k2 m o z))) _ _ _ _ (fun m hm o z => fs m o (fun y => by have := bv m hm; omega) (k3 m o (k2 m o z))) o1)
      have ov : Od (fun m => Al A w own m ∧ m ∉ Sv) (h3.set nn (.lst (xs.set j d))) (.l sh') (.lst (ts.set j u)) (.ref nn) (nn :: S2) := by
        simp only [Od]
        exact ⟨_, nn, _, _, rfl, rfl, rfl, set_same hn3, a3⟩
      obtain ⟨own', s, _⟩ := stored r k l n (k1.trans k2) k3 hw hd f1 (fun m a _ => ⟨⟨a.1.1, a.2⟩, a.1.2⟩) bv a1 (fun _ => by
        rw [List.nodup_cons]
        refine ⟨fun z => ?_, a2 (List.nodup_cons.mp nd1).2 nv fun m hm z => by have := r.ltO hw m (hS1 m hm); have := bv m z; omega⟩
        rcases a1 _ z with y | y
        · exact (List.nodup_cons.mp nd1).1 y
        · have := bv _ y; omega) ov
      refine ⟨ds, _, own', ?_, s⟩
      unfold sAsg gSb
      rw [e1]
      simp only [Res.st, e2, e3, val_int.mp vz, setD, hn3, ol.length, q4, Option.map_some]
    | _ => cases q
  | _ => cases z <;> cases q
/-! ### functions -/
theorem args_rel (big : ∀ m, h.length ≤ m → A m) {ts : List T} {xs : List D} {n : Nat} (v : Vals A h ts xs) : Rel A (fun m => h.length ≤ m) [] (fun _ => []) (xs.map some ++ List.replicate (n - xs.length) none) h (ts.map some ++ List.replicate (n - ts.length) none) := by
  refine ⟨big, fun _ l => l, fun p hp => (nomatch hp), fun p hp => (nomatch hp), fun p hp => (nomatch hp), fun i u hi he => ?_, by simp [v.length]⟩
  have hA : ∀ m, A m → m < h.length → Al A [] (fun _ => []) m := fun m a _ => ⟨a, fun p hp => nomatch hp⟩
  rw [List.getD_eq_getElem?_getD] at he
  by_cases l : i < ts.length
  · rw [List.getElem?_append_left (by simpa using l), List.getElem?_map, List.getElem?_eq_getElem l] at he
    have he : some ts[i] = some u := he
    obtain ⟨d, d1, d2⟩ := v.get ((List.getElem?_eq_getElem l).trans he)
    refine ⟨d, ?_, d2.sub hA⟩
    rw [List.getD_eq_getElem?_getD, List.getElem?_append_left (by simpa [v.length] using l), List.getElem?_map, d1]
    rfl
  · rw [List.getElem?_append_right (by simpa using Nat.le_of_not_lt l)] at he
    cases z : (List.replicate (n - ts.length) (none : Option T))[i - (ts.map some).length]? with
    | none => rw [z] at he; cases he
    | some y =>
      rw [z] at he
      have := List.mem_of_getElem? z
      rw [List.mem_replicate] at this
      rw [this.2] at he
      cases he
theorem RetV.sub {b : Nat} {B : Nat → Prop} {t : T} {d : D} (v : RetV sh A b h t d) (hA : ∀ m, A m → m < h.length → B m) : RetV sh B b h t d := by
  obtain ⟨S, o, nd, bS⟩ := v
  exact ⟨S, Od.mono (fun m a l => ⟨hA m a.1 l, a.2⟩) (KeepIn.refl _ _) _ _ _ _ (KeepS.refl _ _) o, nd, bS⟩
theorem sf_def {fl : Bool} {ar n : Nat} (hb : SS (.sh sh) [] [] b sb wn wl) (hs : sh = .s ∨ fl = true) : SF sh (runF ar n b) (funT fl ar n sb) := fun A xs ts h big v t q => by
  unfold funT at q
  by_cases c : ts.length = ar
  · rw [if_pos c] at q
    obtain ⟨o, q1, q⟩ := bind_some q
    have p := hb A _ _ _ h h _ (args_rel (n := n) big v) (fun m o _ z => z) (Nat.le_refl _) (fun p hp => nomatch hp) o q1
    have kp : ∀ {h'' : DH}, KeepX (fun m => h.length ≤ m) h h'' → Keep h h'' := fun k m o z => k m o (by have := lt_of_get z; omega) z
    unfold runF runB
    rw [if_pos (by rw [v.length]; exact c)]
    cases o with
    | nx e' =>
      obtain ⟨ds', h', own', e1, s⟩ := p
      rw [e1]
      cases fl with
      | true => cases q
      | false =>
        rcases hs with rfl | hs
        · cases q; exact ⟨kp s.k0, ret_s.mpr (val_non.mpr rfl)⟩
        · cases hs
    | rt u e' =>
      obtain ⟨d, ds', h', own', e1, s, v1⟩ := p
      rw [e1]
      cases q
      exact ⟨kp s.k0, RetV.sub v1 fun m a _ => a.1⟩
    | _ => cases q
  · rw [if_neg c] at q; cases q
end
end Fu
/-! what the text holds; what values satisfy -/
namespace Fu
open PySem L2 Mi
mutual
def dT : D → T
  | .non => .non
  | .bl b => .bl b
  | .int i => .int i
  | .str s => .str s
  | .tup xs => .tup (dTs xs)
  | .ref _ => .non
def dTs : List D → List T
  | [] => []
  | x :: r => dT x :: dTs r
end
mutual
def plD : D → Bool
  | .tup xs => plDs xs
  | .ref _ => false
  | _ => true
def plDs : List D → Bool
  | [] => true
  | x :: r => plD x && plDs r
end
mutual
theorem val_dT {A : Nat → Prop} {h : DH} : ∀ {d : D}, plD d = true → Val A h (dT d) d
  | .non, _ => by simp only [dT]; exact val_non.mpr rfl
  | .bl b, _ => by simp only [dT]; exact val_bl.mpr rfl
  | .int i, _ => by simp only [dT]; exact val_int.mpr rfl
  | .str s, _ => by simp only [dT]; exact val_str.mpr rfl
  | .tup xs, e => by simp only [dT]; simp only [plD] at e; exact val_tup.mpr ⟨xs, rfl, val_dTs e⟩
  | .ref n, e => by simp only [plD] at e; cases e
theorem val_dTs {A : Nat → Prop} {h : DH} : ∀ {xs : List D}, plDs xs = true → Vals A h (dTs xs) xs
  | [], _ => by simp only [dTs]; exact Vals.nil
  | x :: r, e => by
    simp only [plDs, Bool.and_eq_true] at e
    simp only [dTs]
    exact Vals.cons (val_dT e.1) (val_dTs e.2)
end
def tblT (ps : List (Str × D)) : List (Str × T) := ps.map fun p => (p.1, dT p.2)
theorem tbl_ok : ∀ {ps : List (Str × D)}, (ps.all fun p => plD p.2) = true → TblV (tblT ps) ps
  | [], _ => trivial
  | p :: r, e => by
    simp only [List.all_cons, Bool.and_eq_true] at e
    exact ⟨rfl, fun A h => val_dT e.1, tbl_ok e.2⟩
def atP (p : PyData → Bool) : Nat → List PyData → Option Nat := atF p
def indexT (x y : T) : Option T := match x with
  | .lst _ => (match pyF 70 y, pyF 70 x with
    | some d, some (.list ds) => if SeqAt.shaped d && SeqAt.shaped (.list ds) then (atF (fun z => PyData.eqv z d) 0 ds).map fun j : Nat => .int j else none
    | _, _ => none)
  | _ => none
section
variable {w : Ws} {ma mb : EM} {fa fb : FE}
theorem se_index (ha : SN w ma fa) (hb : SN w mb fb) : SE w (mMt "list" indexD ma (aCons mb aNil)) (fOp indexT fa fb) := fun A X own ds h e r t q => by
  obtain ⟨x, q1, q⟩ := bind_some q
  obtain ⟨y, q2, q⟩ := bind_some q
  rw [w_mt]
  refine (ha A X own ds h e r x q1).imp fun dx h1 ⟨k1, v1⟩ => ?_
  unfold indexT at q
  cases x with
  | lst us =>
    obtain ⟨n, xs, rfl, _, hn, vx⟩ := val_lst.mp v1
    refine ⟨isTy_lst hn, ?_⟩
    rw [w_cons]
    refine (hb A X own ds h1 e (r.keep k1) y q2).imp fun dy h2 ⟨k2, v2⟩ => ?_
    simp only [w_nil]
    have v1' := v1.keep k2
    simp only at q
    cases p1 : pyF 70 y with
    | none => rw [p1] at q; cases q
    | some d =>
      cases p2 : pyF 70 (.lst us) with
      | none => rw [p1, p2] at q; cases q
      | some l =>
        rw [p1, p2] at q
        cases l with
        | list ds' =>
          simp only at q
          cases c : (SeqAt.shaped d && SeqAt.shaped (PyData.list ds')) with
          | false => rw [c] at q; cases q
          | true =>
            rw [c] at q
            obtain ⟨j, ej, rfl⟩ := map_some (show (atF (fun z => PyData.eqv z d) 0 ds').map (fun j : Nat => T.int j) = some t from q)
            simp only [indexD, py_val 70 _ _ _ v2 p1, py_val 70 _ _ _ v1' p2, c, if_true, ej]
            exact ⟨k1.trans k2, val_int.mpr rfl⟩
        | _ => cases q
  | _ => cases q
end
/-! ### what a value satisfies -/
def Ok {α : Type} (o : Option α) (P : α → Prop) : Prop := match o with | some a => P a | none => False
def Sk (o : Option FR) (N C B : FSt → Prop) (R : T → Prop) : Prop := match o with | some (.nx e) => N e | some (.ct e) => C e | some (.bk e) => B e | some (.rt t _) => R t | none => False
section
variable {α β : Type} {P : α → Prop} {PT : T → Prop} {PB : Bool → Prop} {PL : List T → Prop} {PO : Option Int → Prop} {e : FSt} {N C B : FSt → Prop} {R : T → Prop}
theorem ok_some {a : α} : Ok (some a) P ↔ P a := Iff.rfl
theorem ok_none : Ok (none : Option α) P ↔ False := Iff.rfl
theorem Ok.imp {o : Option α} {Q : α → Prop} (s : Ok o P) (k : ∀ a, P a → Q a) : Ok o Q := by cases o with | none => exact s | some a => exact k a s
theorem Ok.eq {o : Option α} (s : Ok o P) : ∃ a, o = some a ∧ P a := by cases o with | none => exact s.elim | some a => exact ⟨a, rfl, s⟩
theorem Ok.of {o : Option α} {a : α} (q : o = some a) (p : P a) : Ok o P := by rw [q]; exact p
theorem ok_bind {o : Option β} {f : β → Option α} : Ok (o.bind f) P ↔ Ok o fun b => Ok (f b) P := by cases o <;> exact Iff.rfl
theorem ok_map {o : Option β} {f : β → α} : Ok (o.map f) P ↔ Ok o fun b => P (f b) := by cases o <;> exact Iff.rfl
theorem ok_ite {c : Prop} [Decidable c] {o : Option α} : Ok (if c then o else none) P ↔ c ∧ Ok o P := by
  by_cases q : c
  · rw [if_pos q]; exact ⟨fun x => ⟨q, x⟩, fun x => x.2⟩
  · rw [if_neg q]; exact ⟨fun x => x.elim, fun x => q x.1⟩
theorem k_c {t : T} : Ok (fC t e) PT ↔ PT t := Iff.rfl
theorem k_var {i : Nat} : Ok (fVar i e) PT ↔ Ok (e.getD i none) PT := Iff.rfl
theorem k_op {g : T → T → Option T} {a b : FE} : Ok (fOp g a b e) PT ↔ Ok (a e) fun t => Ok (b e) fun u => Ok (g t u) PT := by unfold fOp; simp only [ok_bind]
theorem k_un {g : T → Option T} {a : FE} : Ok (fUn g a e) PT ↔ Ok (a e) fun t => Ok (g t) PT := ok_bind
theorem k_nil : Ok (fNil e) PL ↔ PL [] := Iff.rfl
theorem k_cons {a : FE} {r : FA} : Ok (fCons a r e) PL ↔ Ok (a e) fun t => Ok (r e) fun ts => PL (t :: ts) := by unfold fCons; simp only [ok_bind, ok_some]
theorem k_star {a : FE} {r : FA} : Ok (fStar a r e) PL ↔ Ok (a e) fun t => Ok (itemsT t) fun us => Ok (r e) fun ts => PL (us ++ ts) := by unfold fStar; simp only [ok_bind, ok_some]
theorem k_tup {a : FA} : Ok (fTup a e) PT ↔ Ok (a e) fun ts => ts.length ≤ 16777216 ∧ PT (.tup ts) := by unfold fTup; simp only [ok_bind, ok_ite, ok_some]
theorem k_lst {a : FA} : Ok (fLst a e) PT ↔ Ok (a e) fun ts => ts.length ≤ 16777216 ∧ PT (.lst ts) := by unfold fLst; simp only [ok_bind, ok_ite, ok_some]
theorem k_cb {g : List T → Option T} {a : FA} : Ok (fCB g a e) PT ↔ Ok (a e) fun ts => Ok (g ts) PT := ok_bind
theorem k_cbF {g : List T → Option T} {a : FA} : Ok (fCBF g a e) PT ↔ Ok (a e) fun ts => Ok (g ts) fun t => flatT t = true ∧ PT t := by unfold fCBF; simp only [ok_bind, ok_ite, ok_some]
def asB (t : T) (P : Bool → Prop) : Prop := match t with | .bl b => P b | _ => False
def asI (t : T) (P : Int → Prop) : Prop := match t with | .int b => P b | _ => False
theorem asB_bl {b : Bool} : asB (.bl b) PB ↔ PB b := Iff.rfl
theorem asI_int {b : Int} {PI : Int → Prop} : asI (.int b) PI ↔ PI b := Iff.rfl
theorem k_test {a : FE} : Ok (fTest a e) PB ↔ Ok (a e) fun t => asB t PB := by
  unfold fTest; rw [ok_bind]
  cases a e with
  | none => exact Iff.rfl
  | some t => cases t <;> exact Iff.rfl
theorem k_not {t : FT} : Ok (fNot t e) PB ↔ Ok (t e) fun b => PB (!b) := ok_map
theorem k_and {t u : FT} : Ok (fAnd t u e) PB ↔ Ok (t e) fun b => if b = true then Ok (u e) PB else PB false := by
  unfold fAnd; rw [ok_bind]
  cases t e with
  | none => exact Iff.rfl
  | some c => cases c <;> exact Iff.rfl
theorem k_or {t u : FT} : Ok (fOr t u e) PB ↔ Ok (t e) fun b => if b = true then PB true else Ok (u e) PB := by
  unfold fOr; rw [ok_bind]
  cases t e with
  | none => exact Iff.rfl
  | some c => cases c <;> exact Iff.rfl
theorem k_yes : Ok (fYes e) PB ↔ PB true := Iff.rfl
theorem k_notV {a : FE} : Ok (fNotV a e) PT ↔ Ok (a e) fun t => asB t fun b => PT (.bl (!b)) := by
  unfold fNotV; rw [ok_bind]
  cases a e with
  | none => exact Iff.rfl
  | some t => cases t <;> exact Iff.rfl
theorem k_andV {a b : FE} : Ok (fAndV a b e) PT ↔ Ok (a e) fun t => asB t fun c => if c = true then Ok (b e) PT else PT (.bl false) := by
  unfold fAndV; rw [ok_bind]
  cases a e with
  | none => exact Iff.rfl
  | some t => cases t with
    | bl c => cases c <;> exact Iff.rfl
    | _ => exact Iff.rfl
theorem k_orV {a b : FE} : Ok (fOrV a b e) PT ↔ Ok (a e) fun t => asB t fun c => if c = true then PT (.bl true) else Ok (b e) PT := by
  unfold fOrV; rw [ok_bind]
  cases a e with
  | none => exact Iff.rfl
  | some t => cases t with
    | bl c => cases c <;> exact Iff.rfl
    | _ => exact Iff.rfl
theorem k_if {t : FT} {a b : FE} : Ok (fIf t a b e) PT ↔ Ok (t e) fun c => if c = true then Ok (a e) PT else Ok (b e) PT := by
  unfold fIf; rw [ok_bind]
  cases t e with
  | none => exact Iff.rfl
  | some c => cases c <;> exact Iff.rfl
theorem k_oN : Ok (foNone e) PO ↔ PO none := Iff.rfl
theorem k_oS {a : FE} : Ok (foSome a e) PO ↔ Ok (a e) fun t => asI t fun i => PO (some i) := by
  unfold foSome; rw [ok_bind]
  cases a e with
  | none => exact Iff.rfl
  | some t => cases t <;> exact Iff.rfl
theorem k_sl {g : T → Option Int → Option Int → Option T} {a : FE} {lo hi : FO} : Ok (fSl g a lo hi e) PT ↔ Ok (a e) fun t => Ok (lo e) fun l => Ok (hi e) fun u => Ok (g t l u) PT := by unfold fSl; simp only [ok_bind]
theorem k_chain {f g : T → T → Option T} {a b c : FE} : Ok (fChain f g a b c e) PT ↔ Ok (a e) fun x => Ok (b e) fun y => Ok (f x y) fun z => asB z fun k => if k = true then Ok (c e) fun w => Ok (g y w) PT else PT (.bl false) := by
  unfold fChain
  rw [ok_bind]
  cases a e with
  | none => exact Iff.rfl
  | some x =>
    show Ok ((b e).bind _) PT ↔ Ok (b e) _
    rw [ok_bind]
    cases b e with
    | none => exact Iff.rfl
    | some y =>
      show Ok ((f x y).bind _) PT ↔ Ok (f x y) _
      rw [ok_bind]
      cases f x y with
      | none => exact Iff.rfl
      | some z => cases z with
        | bl k => cases k with
          | true => exact ok_bind
          | false => exact Iff.rfl
        | _ => exact Iff.rfl
theorem k_isi {S : Ty} {a : FE} : Ok (fIsi S a e) PT ↔ Ok (a e) fun t => Ok (tyT t) fun U => PT (.bl (subTy U S)) := by unfold fIsi; simp only [ok_bind, ok_map]
def asS (t : T) (P : Str → Prop) : Prop := match t with | .str b => P b | _ => False
theorem asS_str {b : Str} {PS : Str → Prop} : asS (.str b) PS ↔ PS b := Iff.rfl
theorem k_kd {tbl : List (Str × T)} {a : FE} : Ok (fKD tbl a e) PT ↔ Ok (a e) fun t => asS t fun z => Ok (fLook tbl z) PT := by
  unfold fKD; rw [ok_bind]
  cases a e with
  | none => exact Iff.rfl
  | some t => cases t <;> exact Iff.rfl
theorem k_kin {neg : Bool} {tbl : List (Str × T)} {a : FE} : Ok (fKIn neg tbl a e) PT ↔ Ok (a e) fun t => asS t fun z => PT (.bl (if neg then !(fLook tbl z).isSome else (fLook tbl z).isSome)) := by
  unfold fKIn; rw [ok_bind]
  cases a e with
  | none => exact Iff.rfl
  | some t => cases t <;> exact Iff.rfl
theorem k_lc {fi : FI} {j : Nat} {ft : FT} {fe : FE} {vs : List Nat} : Ok (fLc fi j ft fe vs e) PT ↔ Ok (fi e) fun ts => ts.length ≤ 16777216 ∧ Ok (lcT j ft fe (wipeT e vs) ts) fun us => PT (.lst us) := by
  unfold fLc; simp only [ok_bind, ok_ite, ok_map]
theorem k_seq {a : FE} : Ok (fSeq a e) PL ↔ Ok (a e) fun t => Ok (itemsT t) PL := ok_bind
theorem k_r1 {a : FE} : Ok (fR1 a e) PL ↔ Ok (a e) fun t => asI t fun j => (-(2 ^ 62) ≤ j ∧ j < 2 ^ 62) ∧ PL (rngT 0 j.toNat) := by
  unfold fR1; rw [ok_bind]
  cases a e with
  | none => exact Iff.rfl
  | some t => cases t with
    | int j => exact ok_ite
    | _ => exact Iff.rfl
theorem k_r2 {a b : FE} : Ok (fR2 a b e) PL ↔ Ok (a e) fun t => Ok (b e) fun u => asI t fun i => asI u fun j => (-(2 ^ 62) ≤ i ∧ i < 2 ^ 62 ∧ -(2 ^ 62) ≤ j ∧ j < 2 ^ 62) ∧ PL (rngT i (j - i).toNat) := by
  unfold fR2
  rw [ok_bind]
  cases a e with
  | none => exact Iff.rfl
  | some t =>
    show Ok ((b e).bind _) PL ↔ Ok (b e) _
    rw [ok_bind]
    cases b e with
    | none => exact Iff.rfl
    | some u => cases t with
      | int i => cases u with
        | int j => exact ok_ite
        | _ => exact Iff.rfl
      | _ => cases u <;> exact Iff.rfl
/-! statements -/
theorem Sk.imp {o : Option FR} {N' C' B' : FSt → Prop} {R' : T → Prop} (s : Sk o N C B R) (kn : ∀ e, N e → N' e) (kc : ∀ e, C e → C' e) (kb : ∀ e, B e → B' e) (kr : ∀ t, R t → R' t) : Sk o N' C' B' R' := by
  cases o with
  | none => exact s
  | some r => cases r with
    | nx e => exact kn e s
    | ct e => exact kc e s
    | bk e => exact kb e s
    | rt t _ => exact kr t s
theorem s_next : Sk (fNext e) N C B R ↔ N e := Iff.rfl
theorem s_seq {a b : FS} : Sk (fSeqS a b e) N C B R ↔ Sk (a e) (fun e' => Sk (b e') N C B R) C B R := by
  unfold fSeqS
  cases a e with
  | none => exact Iff.rfl
  | some r => cases r <;> exact Iff.rfl
theorem sk_bind {o : Option α} {f : α → Option FR} : Sk (o.bind f) N C B R ↔ Ok o fun a => Sk (f a) N C B R := by cases o <;> exact Iff.rfl
theorem s_set {a : FE} {i : Nat} : Sk (fSet a i e) N C B R ↔ Ok (a e) fun t => N (e.set i (some t)) := sk_bind
theorem s_own {a : FE} {i : Nat} : Sk (fOwn a i e) N C B R ↔ Ok (a e) fun t => i < e.length ∧ N (e.set i (some t)) := by
  unfold fOwn; rw [sk_bind]
  cases a e with
  | none => exact Iff.rfl
  | some t =>
    show Sk (if i < e.length then some (.nx (e.set i (some t))) else none) N C B R ↔ i < e.length ∧ N (e.set i (some t))
    by_cases q : i < e.length
    · simp only [if_pos q, q, true_and]; exact Iff.rfl
    · simp only [if_neg q, q, false_and]; exact Iff.rfl
theorem s_asg {a : FE} {g : FG} : Sk (fAsg a g e) N C B R ↔ Ok (a e) fun t => Ok (g t e) N := by
  unfold fAsg; rw [sk_bind]
  cases a e with
  | none => exact Iff.rfl
  | some t =>
    show Sk ((g t e).map FR.nx) N C B R ↔ Ok (g t e) N
    cases g t e <;> exact Iff.rfl
theorem s_drop {a : FE} : Sk (fDrop a e) N C B R ↔ Ok (a e) fun _ => N e := by unfold fDrop; cases a e <;> exact Iff.rfl
theorem s_ret {a : FE} : Sk (fRet a e) N C B R ↔ Ok (a e) R := by unfold fRet; cases a e <;> exact Iff.rfl
theorem s_retN : Sk (fRetN e) N C B R ↔ R .non := Iff.rfl
theorem s_brk : Sk (fBrk e) N C B R ↔ B e := Iff.rfl
theorem s_cnt : Sk (fCnt e) N C B R ↔ C e := Iff.rfl
theorem s_if {c : FT} {a b : FS} : Sk (fIfS c a b e) N C B R ↔ Ok (c e) fun t => if t = true then Sk (a e) N C B R else Sk (b e) N C B R := by
  unfold fIfS; rw [sk_bind]
  cases c e with
  | none => exact Iff.rfl
  | some t => cases t <;> exact Iff.rfl
theorem s_aug {i : Nat} {g : Int → Int → Int} {a : FE} : Sk (fAugI i g a e) N C B R ↔ Ok (e.getD i none) fun t => asI t fun x => Ok (a e) fun u => asI u fun y => N (e.set i (some (.int (g x y)))) := by
  unfold fAugI
  cases e.getD i none with
  | none => exact Iff.rfl
  | some t =>
    cases t with
    | int x =>
      show Sk ((a e).bind _) N C B R ↔ Ok (a e) _
      rw [sk_bind]
      cases a e with
      | none => exact Iff.rfl
      | some u => cases u <;> exact Iff.rfl
    | _ => exact Iff.rfl
theorem k_gNm {i : Nat} {t : T} : Ok (gtNm i t e) N ↔ N (e.set i (some t)) := Iff.rfl
theorem k_gNil : Ok (gtNil [] e) N ↔ N e := Iff.rfl
theorem k_gCons {g : FG} {r : List T → FSt → Option FSt} {t : T} {ts : List T} : Ok (gtCons g r (t :: ts) e) N ↔ Ok (g t e) fun e' => Ok (r ts e') N := ok_bind
theorem k_gTp {r : List T → FSt → Option FSt} {ts : List T} : Ok (gtTp r (.tup ts) e) N ↔ Ok (r ts e) N := Iff.rfl
def asL (t : T) (P : List T → Prop) : Prop := match t with | .lst b => P b | _ => False
theorem asL_lst {xs : List T} : asL (.lst xs) PL ↔ PL xs := Iff.rfl
theorem p_var {i : Nat} {PP : T × (T → T) → Prop} : Ok (pVar i e) PP ↔ Ok (e.getD i none) fun t => PP (t, id) := ok_map
theorem p_ix {p : FP} {k : FE} {PP : T × (T → T) → Prop} : Ok (pIx p k e) PP ↔ Ok (p e) fun q => Ok (k e) fun u => asL q.1 fun ts => asI u fun z => Ok (ixN ts.length z) fun j => Ok (ts[j]?) fun v => PP (v, fun v' => q.2 (.lst (ts.set j v'))) := by
  unfold pIx; rw [ok_bind]
  cases p e with
  | none => exact Iff.rfl
  | some q =>
    show Ok ((k e).bind _) PP ↔ Ok (k e) _
    rw [ok_bind]
    cases k e with
    | none => exact Iff.rfl
    | some u =>
      obtain ⟨t, up⟩ := q
      cases t with
      | lst ts => cases u with
        | int z =>
          show Ok ((ixN ts.length z).bind fun j => (ts[j]?).map fun v => (v, fun v' => up (.lst (ts.set j v')))) PP ↔ _
          rw [ok_bind]
          simp only [ok_map]
          exact Iff.rfl
        | _ => exact Iff.rfl
      | _ => cases u <;> exact Iff.rfl
def asTp (t : T) (P : List T → Prop) : Prop := match t with | .tup b => P b | _ => False
theorem asTp_tup {xs : List T} : asTp (.tup xs) PL ↔ PL xs := Iff.rfl
theorem p_cm {j : Nat} {p : FP} {PP : T × (T → T) → Prop} : Ok (pCm j p e) PP ↔ Ok (p e) fun q => asTp q.1 fun ts => Ok (ts[j]?) fun v => PP (v, fun v' => q.2 (.tup (ts.set j v'))) := by
  unfold pCm; rw [ok_bind]
  cases p e with
  | none => exact Iff.rfl
  | some q =>
    obtain ⟨t, up⟩ := q
    cases t with
    | tup ts => exact ok_map
    | _ => exact Iff.rfl
theorem k_pth {p : FP} {PT : T → Prop} : Ok (fPth p e) PT ↔ Ok (p e) fun q => PT q.1 := ok_map
theorem s_app {i : Nat} {p : FP} {a : FE} : Sk (fApp i p a e) N C B R ↔ Ok (p e) fun q => Ok (a e) fun t => asL q.1 fun xs => xs.length < 16777216 ∧ N (e.set i (some (q.2 (.lst (xs ++ [t]))))) := by
  unfold fApp; rw [sk_bind]
  cases p e with
  | none => exact Iff.rfl
  | some q =>
    show Sk ((a e).bind _) N C B R ↔ Ok (a e) _
    rw [sk_bind]
    cases a e with
    | none => exact Iff.rfl
    | some t =>
      obtain ⟨u, up⟩ := q
      cases u with
      | lst xs =>
        show Sk (if xs.length < 16777216 then some (.nx (e.set i (some (up (.lst (xs ++ [t])))))) else none) N C B R ↔ xs.length < 16777216 ∧ N (e.set i (some (up (.lst (xs ++ [t])))))
        by_cases c : xs.length < 16777216
        · simp only [if_pos c, c, true_and]; exact Iff.rfl
        · simp only [if_neg c, c, false_and]; exact Iff.rfl
      | _ => exact Iff.rfl
theorem s_pop {i j : Nat} {p : FP} : Sk (fPop i p j e) N C B R ↔ Ok (p e) fun q => asL q.1 fun xs => Ok (xs[xs.length - 1]?) fun t => N ((e.set i (some (q.2 (.lst xs.dropLast)))).set j (some t)) := by
  unfold fPop; rw [sk_bind]
  cases p e with
  | none => exact Iff.rfl
  | some q =>
    obtain ⟨u, up⟩ := q
    cases u with
    | lst xs => exact sk_bind
    | _ => exact Iff.rfl
theorem s_popD {i : Nat} {p : FP} : Sk (fPopD i p e) N C B R ↔ Ok (p e) fun q => asL q.1 fun xs => Ok (xs[xs.length - 1]?) fun t => N (e.set i (some (q.2 (.lst xs.dropLast)))) := by
  unfold fPopD; rw [sk_bind]
  cases p e with
  | none => exact Iff.rfl
  | some q =>
    obtain ⟨u, up⟩ := q
    cases u with
    | lst xs => exact sk_bind
    | _ => exact Iff.rfl
theorem s_rev {i : Nat} {p : FP} : Sk (fRev i p e) N C B R ↔ Ok (p e) fun q => asL q.1 fun xs => N (e.set i (some (q.2 (.lst xs.reverse)))) := by
  unfold fRev; rw [sk_bind]
  cases p e with
  | none => exact Iff.rfl
  | some q => obtain ⟨u, up⟩ := q; cases u <;> exact Iff.rfl
theorem s_clr {i : Nat} {p : FP} : Sk (fClr i p e) N C B R ↔ Ok (p e) fun q => asL q.1 fun xs => N (e.set i (some (q.2 (.lst [])))) := by
  unfold fClr; rw [sk_bind]
  cases p e with
  | none => exact Iff.rfl
  | some q => obtain ⟨u, up⟩ := q; cases u <;> exact Iff.rfl
theorem s_put {i : Nat} {p : FP} {k a : FE} : Sk (fPut i p k a e) N C B R ↔ Ok (a e) fun t => Ok (p e) fun q => Ok (k e) fun u => asL q.1 fun xs => asI u fun z => Ok (ixN xs.length z) fun j => N (e.set i (some (q.2 (.lst (xs.set j t))))) := by
  unfold fPut; rw [sk_bind]
  cases a e with
  | none => exact Iff.rfl
  | some t =>
    show Sk ((p e).bind _) N C B R ↔ Ok (p e) _
    rw [sk_bind]
    cases p e with
    | none => exact Iff.rfl
    | some q =>
      show Sk ((k e).bind _) N C B R ↔ Ok (k e) _
      rw [sk_bind]
      cases k e with
      | none => exact Iff.rfl
      | some u =>
        obtain ⟨v, up⟩ := q
        cases v with
        | lst xs => cases u with
          | int z => exact sk_bind
          | _ => exact Iff.rfl
        | _ => cases u <;> exact Iff.rfl
theorem s_for {fi : FI} {g : FG} {b : FS} : Sk (fFor fi g b e) N C B R ↔ Ok (fi e) fun ts => Sk (forT g b ts e) N C B R := sk_bind
/-- a loop by what holds ahead of each turn -/
theorem for_inv {g : FG} {b : FS} {xs : List T} (I : Nat → FSt → Prop) (start : I 0 e) (turn : ∀ i x e, xs[i]? = some x → I i e → Ok (g x e) fun e1 => Sk (b e1) (I (i + 1)) (I (i + 1)) N R) (done : ∀ e, I xs.length e → N e) : Sk (forT g b xs e) N C B R := by
  have core : ∀ (ys : List T) (i : Nat) (e : FSt), xs.drop i = ys → i ≤ xs.length → I i e → Sk (forT g b ys e) N C B R := by
    intro ys
    induction ys with
    | nil =>
      intro i e q l p
      have : xs.length ≤ i := List.drop_eq_nil_iff.mp q
      have e2 : i = xs.length := by omega
      subst e2
      exact done e p
    | cons y ys ih =>
      intro i e q l p
      have hl : i < xs.length := by
        apply Classical.byContradiction
        intro c
        rw [List.drop_eq_nil_of_le (by omega)] at q
        cases q
      rw [List.drop_eq_getElem_cons hl] at q
      have q1 : xs[i] = y := (List.cons.inj q).1
      have q2 : xs.drop (i + 1) = ys := (List.cons.inj q).2
      have hx : xs[i]? = some y := by rw [List.getElem?_eq_getElem hl, q1]
      simp only [forT]
      rw [sk_bind]
      refine (turn i y e hx p).imp fun e1 s => ?_
      rw [sk_bind]
      cases z : b e1 with
      | none => rw [z] at s; exact s.elim
      | some o =>
        rw [z] at s
        cases o with
        | nx e2 => exact ih (i + 1) e2 q2 hl s
        | ct e2 => exact ih (i + 1) e2 q2 hl s
        | bk e2 => exact s
        | rt t _ => exact s
  exact core xs 0 e rfl (Nat.zero_le _) start
theorem while_inv {c : FT} {b : FS} (I : Nat → FSt → Prop) (turn : ∀ m e, I m e → Ok (c e) fun t => if t = true then Sk (b e) (fun e' => ∃ m', m' < m ∧ I m' e') (fun e' => ∃ m', m' < m ∧ I m' e') N R else N e) : ∀ (M m : Nat) (e : FSt), m < M → I m e → Sk (whileT c b M e) N C B R := by
  intro M
  induction M with
  | zero => intro m e l; omega
  | succ M ih =>
    intro m e l p
    simp only [whileT]
    rw [sk_bind]
    refine (turn m e p).imp fun t q => ?_
    cases t with
    | false => exact q
    | true =>
      simp only [if_true] at q ⊢
      rw [sk_bind]
      cases z : b e with
      | none => rw [z] at q; exact q.elim
      | some o =>
        rw [z] at q
        cases o with
        | nx e2 => obtain ⟨m', l', p'⟩ := q; exact ih m' e2 (by omega) p'
        | ct e2 => obtain ⟨m', l', p'⟩ := q; exact ih m' e2 (by omega) p'
        | bk e2 => exact q
        | rt t _ => exact q
theorem s_while {M : Nat} {c : FT} {b : FS} : Sk (fWhile M c b e) N C B R ↔ Sk (whileT c b M e) N C B R := Iff.rfl
theorem k_fun {fr : Bool} {ar n : Nat} {f : FS} {xs : List T} (hl : xs.length = ar) (s : Sk (f (xs.map some ++ List.replicate (n - xs.length) none)) (fun _ => fr = false ∧ PT .non) (fun _ => False) (fun _ => False) PT) : Ok (funT fr ar n f xs) PT := by
  unfold funT
  rw [if_pos hl, ok_bind]
  cases z : f (xs.map some ++ List.replicate (n - xs.length) none) with
  | none => rw [z] at s; exact s.elim
  | some o =>
    rw [z] at s
    cases o with
    | nx e => obtain ⟨rfl, s⟩ := s; exact s
    | rt t _ => exact s
    | ct e => exact s.elim
    | bk e => exact s.elim
/-! comprehensions -/
theorem lc_ok {j : Nat} {ft : FT} {fe : FE} (p : T → Bool) (g : T → T) : ∀ (xs : List T), (∀ x ∈ xs, ft (e.set j (some x)) = some (p x)) → (∀ x ∈ xs, p x = true → fe (e.set j (some x)) = some (g x)) → lcT j ft fe e xs = some ((xs.filter p).map g)
  | [], _, _ => rfl
  | x :: xs, h1, h2 => by
    have ih := lc_ok p g xs (fun y hy => h1 y (List.mem_cons_of_mem _ hy)) fun y hy => h2 y (List.mem_cons_of_mem _ hy)
    simp only [lcT, h1 x List.mem_cons_self, Option.bind]
    cases c : p x with
    | true => simp only [if_true, h2 x List.mem_cons_self c, ih, Option.map_some, List.filter_cons, c, if_true, List.map_cons]
    | false => simp only [Bool.false_eq_true, if_false, ih, List.filter_cons, c]
theorem lc_map {j : Nat} {fe : FE} (g : T → T) (xs : List T) (h2 : ∀ x ∈ xs, fe (e.set j (some x)) = some (g x)) : lcT j fYes fe e xs = some (xs.map g) := by
  have := lc_ok (e := e) (j := j) (ft := fYes) (fe := fe) (fun _ => true) g xs (fun _ _ => rfl) fun x hx _ => h2 x hx
  rw [this, List.filter_eq_self.mpr fun _ _ => rfl]
end
theorem SF.run {sh : Sh} {F : List D → DH → Res D} {G : List T → Option T} (s : SF sh F G) {A : Nat → Prop} {h : DH} {xs : List D} {ts : List T} {t : T} (big : ∀ m, h.length ≤ m → A m) (v : Vals A h ts xs) (q : G ts = some t) {P : D → DH → Prop} (p : ∀ d h', Keep h h' → RetV sh A h.length h' t d → P d h') : SatE (F xs h) P := (s A xs ts h big v t q).imp fun d h' ⟨k, r⟩ => p d h' k r
/-- the law's own run -/
theorem SF.law {sh : Sh} {F : List D → DH → Res D} {G : List T → Option T} (s : SF sh F G) {ns : List Int} (q : G [.fro (ns.map T.int)] = some (.bl true)) : ∃ h', F [.ref 0] [.fro (ns.map D.int)] = .ok (.bl true) h' := by
  have v : Vals (fun _ => True) [DO.fro (ns.map D.int)] [.fro (ns.map T.int)] [.ref 0] := Vals.cons (val_fro.mpr ⟨0, _, rfl, trivial, rfl, Vals.ints⟩) Vals.nil
  obtain ⟨d, h', e, _, r⟩ := (s _ _ _ _ (fun _ _ => trivial) v _ q).eq
  obtain ⟨S, o, _⟩ := r
  have := Od.val (B := fun _ => True) (fun _ _ _ => trivial) _ _ _ _ (fun _ _ => trivial) o
  exact ⟨h', by rw [e, val_bl.mp this]⟩
end Fu
/-! operations on known values -/
namespace Fu
open PySem L2 Mi
section
variable {i j : Int} {a b : Str} {p q : Bool} {xs ys : List T} {t u : T} {PT : T → Prop} {PL : List T → Prop}
theorem addT_ii : addT (.int i) (.int j) = some (.int (i + j)) := rfl
theorem addT_ll : addT (.lst xs) (.lst ys) = if xs.length + ys.length ≤ 16777216 then some (.lst (xs ++ ys)) else none := rfl
theorem addT_tt : addT (.tup xs) (.tup ys) = if xs.length ≠ 0 ∧ xs.length + ys.length ≤ 16777216 then some (.tup (xs ++ ys)) else none := rfl
theorem addT_ss : addT (.str a) (.str b) = if a.length + b.length ≤ 16777216 then some (.str (a ++ b)) else none := rfl
theorem catT_ll : catT (.lst xs) (.lst ys) = if xs.length + ys.length ≤ 16777216 then some (.lst (xs ++ ys)) else none := rfl
theorem subT_ii : subT (.int i) (.int j) = some (.int (i - j)) := rfl
theorem mulT_ii : mulT (.int i) (.int j) = if mulC i j then some (.int (i * j)) else none := rfl
theorem mulT_si : mulT (.str a) (.int j) = if 0 ≤ j ∧ j ≤ 1000 ∧ a.length ≤ 10000 then some (.str (strRep a j.toNat)) else none := rfl
theorem mulT_li : mulT (.lst xs) (.int j) = if 0 ≤ j ∧ j ≤ 100000 ∧ xs.length * j.toNat ≤ 16777216 then some (.lst (List.replicate j.toNat xs).flatten) else none := rfl
theorem repT_li : repT (.lst xs) (.int j) = if 0 ≤ j ∧ j ≤ 100000 ∧ xs.length * j.toNat ≤ 16777216 then some (.lst (List.replicate j.toNat xs).flatten) else none := rfl
theorem fdivT_ii : fdivT (.int i) (.int j) = if 0 < j ∧ j < 1073741824 then some (.int (i / j)) else none := rfl
theorem modT_ii : modT (.int i) (.int j) = if 0 < j then some (.int (i % j)) else none := rfl
theorem powT_ii : powT (.int i) (.int j) = if 0 ≤ j ∧ j ≤ 1000000 ∧ i.natAbs < 2 ^ 64 then some (.int (i ^ j.toNat)) else none := rfl
theorem negT_i : negT (.int i) = some (.int (-i)) := rfl
theorem ltT_ii : ltT (.int i) (.int j) = some (.bl (decide (i < j))) := rfl
theorem leT_ii : leT (.int i) (.int j) = some (.bl (decide (i ≤ j))) := rfl
theorem gtT_ii : gtT (.int i) (.int j) = some (.bl (decide (j < i))) := rfl
theorem geT_ii : geT (.int i) (.int j) = some (.bl (decide (j ≤ i))) := rfl
theorem eqST_ii : eqST (.int i) (.int j) = some (decide (i = j)) := rfl
theorem eqST_ss : eqST (.str a) (.str b) = some (decide (a = b)) := rfl
theorem eqST_bb : eqST (.bl p) (.bl q) = some (decide (p = q)) := rfl
theorem eqT_ii : eqT (.int i) (.int j) = some (decide (i = j)) := rfl
theorem eqT_ss : eqT (.str a) (.str b) = some (decide (a = b)) := rfl
theorem eqT_bb : eqT (.bl p) (.bl q) = some (decide (p = q)) := rfl
theorem ok_oBl {f : T → T → Option Bool} : Ok (oBl f t u) PT ↔ Ok (f t u) fun b => PT (.bl b) := ok_map
theorem ok_oNb {f : T → T → Option Bool} : Ok (oNb f t u) PT ↔ Ok (f t u) fun b => PT (.bl (!b)) := ok_map
theorem isNT_n : isNT .non .non = some true := rfl
theorem isNT_i : isNT (.int i) .non = some false := rfl
theorem isNT_l : isNT (.lst xs) .non = some false := rfl
theorem isNT_t : isNT (.tup xs) .non = some false := rfl
theorem isNT_b : isNT (.bl p) .non = some false := rfl
theorem isNT_s : isNT (.str a) .non = some false := rfl
theorem lenT_l : lenT [.lst xs] = some (.int xs.length) := rfl
theorem lenT_t : lenT [.tup xs] = some (.int xs.length) := rfl
theorem lenT_f : lenT [.fro xs] = some (.int xs.length) := rfl
theorem lenT_s : lenT [.str a] = if a.length ≤ 16777216 then some (.int a.length) else none := rfl
theorem itemsT_l : itemsT (.lst xs) = some xs := rfl
theorem itemsT_t : itemsT (.tup xs) = some xs := rfl
theorem itemsT_f : itemsT (.fro xs) = some xs := rfl
theorem lstT_l : lstT [.lst xs] = some (.lst xs) := rfl
theorem lstT_t : lstT [.tup xs] = some (.lst xs) := rfl
theorem lstT_f : lstT [.fro xs] = some (.lst xs) := rfl
theorem tupT_l : tupT [.lst xs] = some (.tup xs) := rfl
theorem tupT_t : tupT [.tup xs] = some (.tup xs) := rfl
theorem ixT_l : ixT (.lst xs) (.int i) = atI xs i := rfl
theorem ixT_t : ixT (.tup xs) (.int i) = atI xs i := rfl
theorem ixT_f : ixT (.fro xs) (.int i) = atI xs i := rfl
theorem intT_i : intT [.int i] = some (.int i) := rfl
theorem intT_b : intT [.bl p] = some (.int (if p then 1 else 0)) := rfl
theorem absT_i : absT [.int i] = some (.int (if i < 0 then -i else i)) := rfl
theorem max2T_i : max2T [.int i, .int j] = some (.int (if j > i then j else i)) := rfl
theorem min2T_i : min2T [.int i, .int j] = some (.int (if j < i then j else i)) := rfl
theorem slT_l {lo hi : Option Int} : slT (.lst xs) lo hi = some (.lst (cutD xs lo hi)) := rfl
theorem slLT_l {lo hi : Option Int} : slLT (.lst xs) lo hi = some (.lst (cutD xs lo hi)) := rfl
theorem atI_ge {α : Type} {zs : List α} {i : Int} {d : α} (h0 : 0 ≤ i) (h : zs[i.toNat]? = some d) : atI zs i = some d := atI_pos h0 h
theorem ok_at {zs : List T} {i : Int} (h0 : 0 ≤ i) (h1 : i < zs.length) (p : ∀ t, zs[i.toNat]? = some t → PT t) : Ok (atI zs i) PT := by
  have e : zs[i.toNat]? = some (zs[i.toNat]'(by omega)) := List.getElem?_eq_getElem (by omega)
  rw [atI_pos h0 e]
  exact p _ e
theorem flatT_i : flatT (.int i) = true := rfl
theorem flatT_s : flatT (.str a) = true := rfl
theorem flatT_b : flatT (.bl p) = true := rfl
theorem flatT_n : flatT .non = true := rfl
theorem tyT_i : tyT (.int i) = some .int := rfl
theorem tyT_s : tyT (.str a) = some .str := rfl
theorem tyT_b : tyT (.bl p) = some .bool := rfl
theorem tyT_t : tyT (.tup xs) = some .tuple := rfl
theorem tyT_l : tyT (.lst xs) = some .list := rfl
theorem tyT_f : tyT (.fro xs) = some .list := rfl
theorem tyT_n : tyT .non = some .non := rfl
/-- a slice from an end on, up to an end -/
theorem cut_from {zs : List T} {n : Nat} : cutD zs (some (n : Int)) none = zs.drop n := by
  unfold cutD
  rw [HT.sIx_nat, HT.sIx_none, List.take_of_length_le]
  · by_cases l : n ≤ zs.length
    · rw [Nat.min_eq_left l]
    · rw [Nat.min_eq_right (by omega), List.drop_of_length_le (Nat.le_refl _), List.drop_of_length_le (by omega)]
  · rw [List.length_drop]; exact Nat.le_refl _
theorem cut_to {zs : List T} {n : Nat} : cutD zs none (some (n : Int)) = zs.take n := by
  unfold cutD
  rw [HT.sIx_nat, HT.sIx_none]
  simp only [List.drop_zero, Nat.sub_zero]
  by_cases l : n ≤ zs.length
  · rw [Nat.min_eq_left l]
  · rw [Nat.min_eq_right (by omega), List.take_of_length_le (Nat.le_refl _), List.take_of_length_le (by omega)]
theorem rngT_len {lo : Int} {n : Nat} : (rngT lo n).length = n := by unfold rngT; simp
theorem rngT_get {lo : Int} {n i : Nat} {x : T} (e : (rngT lo n)[i]? = some x) : i < n ∧ x = .int (lo + (i : Nat)) := by
  unfold rngT at e
  rw [List.getElem?_map] at e
  by_cases l : i < n
  · rw [List.getElem?_range l] at e; cases e; exact ⟨l, rfl⟩
  · rw [List.getElem?_eq_none (by simpa using l)] at e; cases e
theorem rngT_mem {lo : Int} {n : Nat} {x : T} (e : x ∈ rngT lo n) : ∃ i : Nat, i < n ∧ x = .int (lo + (i : Nat)) := by
  unfold rngT at e
  rw [List.mem_map] at e
  obtain ⟨i, hi, rfl⟩ := e
  exact ⟨i, List.mem_range.mp hi, rfl⟩
/-- a loop over lo, lo + 1, .. -/
theorem for_rng {lo : Int} {n : Nat} {g : FG} {b : FS} {e : FSt} {N C B : FSt → Prop} {R : T → Prop} (I : Nat → FSt → Prop) (start : I 0 e) (turn : ∀ i e, i < n → I i e → Ok (g (.int (lo + (i : Nat))) e) fun e1 => Sk (b e1) (I (i + 1)) (I (i + 1)) N R) (done : ∀ e, I n e → N e) : Sk (forT g b (rngT lo n) e) N C B R := by
  refine for_inv I start (fun i x e hx p => ?_) fun e p => done e (by rw [rngT_len] at p; exact p)
  obtain ⟨l, rfl⟩ := rngT_get hx
  exact turn i e l p
theorem n_cutF {a b : FS} {e : FSt} {N C B : FSt → Prop} {R : T → Prop} (Mid : FSt → Prop) (s : Sk (a e) Mid C B R) (k : ∀ e', Mid e' → Sk (b e') N C B R) : Sk (fSeqS a b e) N C B R := by
  rw [s_seq]
  exact s.imp k (fun _ x => x) (fun _ x => x) fun _ x => x
/-! plain data -/
inductive Pl : Nat → T → Prop where
  | int {k : Nat} (i : Int) : Pl k (.int i)
  | str {k : Nat} (s : Str) : Pl k (.str s)
  | tup {k : Nat} {xs : List T} (h : ∀ x ∈ xs, Pl k x) (l : xs.length ≤ 1000000) : Pl (k + 1) (.tup xs)
  | lst {k : Nat} {xs : List T} (h : ∀ x ∈ xs, Pl k x) (l : xs.length ≤ 1000000) : Pl (k + 1) (.lst xs)
theorem Pl.mono : ∀ {k m : Nat} {t : T}, Pl k t → k ≤ m → Pl m t
  | _, _, _, .int i, _ => .int i
  | _, _, _, .str s, _ => .str s
  | k + 1, m, _, .tup h l, q => by
    obtain ⟨m', rfl⟩ : ∃ m', m = m' + 1 := ⟨m - 1, by omega⟩
    exact .tup (fun x hx => (h x hx).mono (by omega)) l
  | k + 1, m, _, .lst h l, q => by
    obtain ⟨m', rfl⟩ : ∃ m', m = m' + 1 := ⟨m - 1, by omega⟩
    exact .lst (fun x hx => (h x hx).mono (by omega)) l
end
end Fu
/-! what == says of plain values -/
namespace Fu
open PySem L2 Mi
def pyU : T → PyData
  | .non => .none
  | .bl b => .bool b
  | .int i => .int i
  | .str z => .str z
  | .tup xs => .tuple (xs.map fun x => pyU x)
  | .lst xs => .list (xs.map fun x => pyU x)
  | .fro xs => .list (xs.map fun x => pyU x)
  | _ => .none
/-- plain values; with truths and None among them if b -/
inductive Py : Bool → Nat → T → Prop where
  | int {b : Bool} {k : Nat} (i : Int) : Py b (k + 1) (.int i)
  | str {b : Bool} {k : Nat} {z : Str} (h : PyData.strOk z = true) : Py b (k + 1) (.str z)
  | bl {k : Nat} (p : Bool) : Py true (k + 1) (.bl p)
  | non {k : Nat} : Py true (k + 1) .non
  | tup {b : Bool} {k : Nat} {xs : List T} (h : ∀ x ∈ xs, Py b k x) : Py b (k + 1) (.tup xs)
  | lst {b : Bool} {k : Nat} {xs : List T} (h : ∀ x ∈ xs, Py b k x) : Py b (k + 1) (.lst xs)
theorem Py.mono {b : Bool} : ∀ {j k : Nat} {t : T}, Py b j t → j ≤ k → Py b k t
  | _, k, _, .str h, l => match k, l with | k + 1, _ => .str h
  | _, k, _, .int i, l => match k, l with | k + 1, _ => .int i
  | _, k, _, .bl p, l => match k, l with | k + 1, _ => .bl p
  | _, k, _, .non, l => match k, l with | k + 1, _ => .non
  | j + 1, k, _, .tup h, l => match k, l with | k + 1, l => .tup (fun x hx => (h x hx).mono (by omega))
  | j + 1, k, _, .lst h, l => match k, l with | k + 1, l => .lst (fun x hx => (h x hx).mono (by omega))
theorem Py.up : ∀ {j : Nat} {t : T}, Py false j t → Py true j t
  | _, _, .str h => .str h
  | _, _, .int i => .int i
  | j + 1, _, .tup h => .tup fun x hx => (h x hx).up
  | j + 1, _, .lst h => .lst fun x hx => (h x hx).up
theorem pyFs_map {k : Nat} : ∀ {xs : List T}, (∀ x ∈ xs, pyF k x = some (pyU x)) → pyFs k xs = some (xs.map fun x => pyU x)
  | [], _ => by simp only [pyFs, List.map_nil]
  | x :: r, h => by
    simp only [pyFs, h x List.mem_cons_self, Option.bind, pyFs_map (xs := r) fun y hy => h y (List.mem_cons_of_mem _ hy), Option.map_some, List.map_cons]
theorem py_U {b : Bool} : ∀ {j k : Nat} {t : T}, Py b j t → j ≤ k → pyF k t = some (pyU t)
  | _, k, _, .str _, l => match k, l with | k + 1, _ => by simp only [pyF, pyU]
  | _, k, _, .int _, l => match k, l with | k + 1, _ => by simp only [pyF, pyU]
  | _, k, _, .bl _, l => match k, l with | k + 1, _ => by simp only [pyF, pyU]
  | _, k, _, .non, l => match k, l with | k + 1, _ => by simp only [pyF, pyU]
  | j + 1, k, .tup xs, .tup hh, l => match k, l with
    | k + 1, l => by
      simp only [pyF]
      rw [pyFs_map fun x hx => py_U (hh x hx) (Nat.le_of_succ_le_succ l)]
      simp only [Option.map_some, pyU]
  | j + 1, k, .lst xs, .lst hh, l => match k, l with
    | k + 1, l => by
      simp only [pyF]
      rw [pyFs_map fun x hx => py_U (hh x hx) (Nat.le_of_succ_le_succ l)]
      simp only [Option.map_some, pyU]
theorem cl_all {l : List PyData} : (∀ x ∈ l, PyData.canLay0 x = true) → PyData.canLayAll0 l = true := by
  induction l with
  | nil => intro _; rfl
  | cons a r ih =>
    intro h
    simp only [PyData.canLayAll0, Bool.and_eq_true]
    exact ⟨h a List.mem_cons_self, ih fun x hx => h x (List.mem_cons_of_mem _ hx)⟩
theorem dp_all {l : List PyData} {n : Nat} : (∀ x ∈ l, PyData.depth x ≤ n) → PyData.depthAll l ≤ n := by
  induction l with
  | nil => intro _; exact Nat.zero_le _
  | cons a r ih =>
    intro h
    simp only [PyData.depthAll]
    exact Nat.max_le.mpr ⟨h a List.mem_cons_self, ih fun x hx => h x (List.mem_cons_of_mem _ hx)⟩
theorem py_ok {b : Bool} : ∀ {j : Nat} {t : T}, Py b j t → PyData.canLay0 (pyU t) = true ∧ PyData.depth (pyU t) ≤ j
  | _, _, .str h => ⟨by simp only [pyU]; exact h, by simp [pyU, PyData.depth]⟩
  | _, _, .int _ => ⟨by simp only [pyU]; rfl, by simp [pyU, PyData.depth]⟩
  | _, _, .bl _ => ⟨by simp only [pyU]; rfl, by simp [pyU, PyData.depth]⟩
  | _, _, .non => ⟨by simp only [pyU]; rfl, by simp [pyU, PyData.depth]⟩
  | j + 1, .tup xs, .tup hh => by
    simp only [pyU, PyData.canLay0, PyData.depth]
    refine ⟨cl_all fun x hx => ?_, Nat.succ_le_succ (dp_all fun x hx => ?_)⟩
    · obtain ⟨y, hy, rfl⟩ := List.mem_map.mp hx
      exact (py_ok (hh y hy)).1
    · obtain ⟨y, hy, rfl⟩ := List.mem_map.mp hx
      exact (py_ok (hh y hy)).2
  | j + 1, .lst xs, .lst hh => by
    simp only [pyU, PyData.canLay0, PyData.depth]
    refine ⟨cl_all fun x hx => ?_, Nat.succ_le_succ (dp_all fun x hx => ?_)⟩
    · obtain ⟨y, hy, rfl⟩ := List.mem_map.mp hx
      exact (py_ok (hh y hy)).1
    · obtain ⟨y, hy, rfl⟩ := List.mem_map.mp hx
      exact (py_ok (hh y hy)).2
theorem py_shaped {b : Bool} {j : Nat} {t : T} (h : Py b j t) (l : j ≤ 64) : SeqAt.shaped (pyU t) = true := by
  have := py_ok h
  unfold SeqAt.shaped
  rw [this.1, Bool.true_and]
  exact decide_eq_true (by omega)
theorem eqvAll_iff {f : T → PyData} {P Q : T → Prop} (e : ∀ x y, P x → Q y → (PyData.eqv (f x) (f y) = true ↔ x = y)) : ∀ (xs ys : List T), (∀ x ∈ xs, P x) → (∀ y ∈ ys, Q y) → (PyData.eqvAll (xs.map f) (ys.map f) = true ↔ xs = ys) := by
  intro xs
  induction xs with
  | nil => intro ys _ _; cases ys <;> simp [PyData.eqvAll]
  | cons x r ih =>
    intro ys h1 h2
    cases ys with
    | nil => simp [PyData.eqvAll]
    | cons y s =>
      simp only [List.map_cons, PyData.eqvAll, Bool.and_eq_true, List.cons.injEq]
      rw [e x y (h1 x List.mem_cons_self) (h2 y List.mem_cons_self), ih s (fun z hz => h1 z (List.mem_cons_of_mem _ hz)) fun z hz => h2 z (List.mem_cons_of_mem _ hz)]
theorem eqv_py : ∀ {j k : Nat} {a b : T}, Py false j a → Py false k b → (PyData.eqv (pyU a) (pyU b) = true ↔ a = b)
  | _, _, .str x, .str y, .str _, .str _ => by simp [pyU, PyData.eqv]
  | _, _, .str x, .int y, .str _, .int _ => by simp [pyU, PyData.eqv]
  | _, _, .str x, .tup y, .str _, .tup _ => by simp [pyU, PyData.eqv]
  | _, _, .str x, .lst y, .str _, .lst _ => by simp [pyU, PyData.eqv]
  | _, _, .int x, .str y, .int _, .str _ => by simp [pyU, PyData.eqv]
  | _, _, .int x, .int y, .int _, .int _ => by simp [pyU, PyData.eqv]
  | _, _, .int x, .tup y, .int _, .tup _ => by simp [pyU, PyData.eqv]
  | _, _, .int x, .lst y, .int _, .lst _ => by simp [pyU, PyData.eqv]
  | _, _, .tup x, .str y, .tup _, .str _ => by simp [pyU, PyData.eqv]
  | _, _, .tup x, .int y, .tup _, .int _ => by simp [pyU, PyData.eqv]
  | _, _, .tup x, .lst y, .tup _, .lst _ => by simp [pyU, PyData.eqv]
  | _, _, .lst x, .str y, .lst _, .str _ => by simp [pyU, PyData.eqv]
  | _, _, .lst x, .int y, .lst _, .int _ => by simp [pyU, PyData.eqv]
  | _, _, .lst x, .tup y, .lst _, .tup _ => by simp [pyU, PyData.eqv]
  | j + 1, k + 1, .tup xs, .tup ys, .tup hx, .tup hy => by
    simp only [pyU, PyData.eqv]
    rw [eqvAll_iff (P := Py false j) (Q := Py false k) (fun x y h1 h2 => eqv_py h1 h2) xs ys hx hy]
    simp
  | j + 1, k + 1, .lst xs, .lst ys, .lst hx, .lst hy => by
    simp only [pyU, PyData.eqv]
    rw [eqvAll_iff (P := Py false j) (Q := Py false k) (fun x y h1 h2 => eqv_py h1 h2) xs ys hx hy]
    simp
theorem eqvAll_refl {f : T → PyData} : ∀ (xs : List T), (∀ x ∈ xs, PyData.eqv (f x) (f x) = true) → PyData.eqvAll (xs.map f) (xs.map f) = true
  | [], _ => rfl
  | x :: r, h => by simp only [List.map_cons, PyData.eqvAll, h x List.mem_cons_self, eqvAll_refl r fun y hy => h y (List.mem_cons_of_mem _ hy), Bool.and_self]
theorem eqv_refl {b : Bool} : ∀ {j : Nat} {a : T}, Py b j a → PyData.eqv (pyU a) (pyU a) = true
  | _, _, .str _ => by simp [pyU, PyData.eqv]
  | _, _, .int _ => by simp [pyU, PyData.eqv]
  | _, _, .bl _ => by simp [pyU, PyData.eqv]
  | _, _, .non => by simp [pyU, PyData.eqv]
  | j + 1, .tup xs, .tup h => by simp only [pyU, PyData.eqv]; exact eqvAll_refl xs fun x hx => eqv_refl (h x hx)
  | j + 1, .lst xs, .lst h => by simp only [pyU, PyData.eqv]; exact eqvAll_refl xs fun x hx => eqv_refl (h x hx)
theorem eqT_deep {b c : Bool} {j k : Nat} {t u : T} (h1 : Py b j t) (h2 : Py c k u) (l1 : j ≤ 64) (l2 : k ≤ 64) : deepT t u = some (PyData.eqv (pyU t) (pyU u)) := by
  unfold deepT
  rw [py_U h1 (show j ≤ 70 by omega), py_U h2 (show k ≤ 70 by omega)]
  simp only [py_shaped h1 l1, py_shaped h2 l2, Bool.and_self, if_true]
/-- what == says of two plain values without truths -/
theorem eqT_py {j k : Nat} {t u : T} (h1 : Py false j t) (h2 : Py false k u) (l1 : j ≤ 64) (l2 : k ≤ 64) : ∃ r : Bool, eqT t u = some r ∧ (r = true ↔ t = u) := by
  have d := eqT_deep h1 h2 l1 l2
  have e := eqv_py h1 h2
  unfold eqT
  cases q : eqST t u with
  | none => exact ⟨_, d, e⟩
  | some r =>
    refine ⟨r, rfl, ?_⟩
    cases h1 <;> cases h2 <;> simp only [eqST] at q <;> cases q <;> simp
/-- a plain value is == to itself -/
theorem eqT_self {b : Bool} {j : Nat} {t : T} (h : Py b j t) (l : j ≤ 64) : eqT t t = some true := by
  have d := eqT_deep h h l l
  rw [eqv_refl h] at d
  unfold eqT
  cases q : eqST t t with
  | none => exact d
  | some r =>
    cases h <;> simp only [eqST] at q <;> cases q <;> simp
theorem ok_eqT {j k : Nat} {t u : T} {P : Bool → Prop} (h1 : Py false j t) (h2 : Py false k u) (l1 : j ≤ 64) (l2 : k ≤ 64) (p : ∀ r : Bool, (r = true ↔ t = u) → P r) : Ok (eqT t u) P := by
  obtain ⟨r, q, e⟩ := eqT_py h1 h2 l1 l2
  rw [q]; exact p r e
theorem Py.bls {k : Nat} (bs : List Bool) : Py true (k + 2) (.lst (bs.map T.bl)) := .lst fun x hx => by obtain ⟨p, _, rfl⟩ := List.mem_map.mp hx; exact .bl p
theorem Py.ints {b : Bool} {k : Nat} (is : List Int) : Py b (k + 2) (.lst (is.map T.int)) := .lst fun x hx => by obtain ⟨p, _, rfl⟩ := List.mem_map.mp hx; exact .int p
theorem ixN_of {n j : Nat} (h : j < n) : ixN n (j : Int) = some j := by
  unfold ixN
  rw [if_pos (by omega), if_pos (by omega), Int.toNat_natCast]
/-- a slice from behind -/
theorem cut_neg {zs : List T} {n : Nat} (h0 : 0 < n) (h : n ≤ zs.length) : cutD zs none (some (-(n : Int))) = zs.take (zs.length - n) := by
  have e : HT.sIx zs.length zs.length (some (-(n : Int))) = zs.length - n := by
    show (if (-(n : Int)) < 0 then ((-(n : Int)) + (zs.length : Int)).toNat else min (-(n : Int)).toNat zs.length) = _
    rw [if_pos (by omega)]; omega
  unfold cutD
  rw [e, HT.sIx_none, List.drop_zero, Nat.sub_zero]
end Fu
/-! values of what Mi8 brings; parameters that are changed -/
namespace Fu
open PySem L2 Mi
/-! ### targets -/
mutual
def ptT : PTg → T → FSt → Option FSt
  | .nm i, t, e => some (e.set i (some t))
  | .tp l, t, e => match t with | .tup xs => ptTs l xs e | _ => none
def ptTs : PTl → List T → FSt → Option FSt
  | .nil, xs, e => match xs with | [] => some e | _ => none
  | .cons p l, xs, e => match xs with | x :: xs => (ptT p x e).bind fun e' => ptTs l xs e' | [] => none
end
mutual
def ptOut (i : Nat) : PTg → Bool
  | .nm j => i != j
  | .tp l => ptOuts i l
def ptOuts (i : Nat) : PTl → Bool
  | .nil => true
  | .cons p l => ptOut i p && ptOuts i l
end
section
variable {A X : Nat → Prop} {w : Ws} {own : Ow} {h : DH}
mutual
theorem pt_rel : ∀ (p : PTg) (t : T) (d : D) (e : FSt) {e' : FSt} {ds : DSt}, ptT p t e = some e' → Rel A X w own ds h e → Val (Al A w own) h t d → (∀ q ∈ w, ptOut q.1 p = true) → ∃ ds', ptD p d ds = some ds' ∧ Rel A X w own ds' h e'
  | .nm i, t, d, e, e', ds, g, r, v, o => by
    simp only [ptT] at g
    cases g
    refine ⟨_, by simp only [ptD], r.put (fun q hq => ?_) v⟩
    have := o q hq
    simp only [ptOut, bne_iff_ne, ne_eq] at this
    exact this
  | .tp l, t, d, e, e', ds, g, r, v, o => by
    simp only [ptT] at g
    cases t with
    | tup xs =>
      obtain ⟨ys, rfl, vs⟩ := val_tup.mp v
      obtain ⟨ds', h1, h2⟩ := pts_rel l xs ys e g r vs (fun q hq => by have := o q hq; simpa only [ptOut] using this)
      exact ⟨ds', by simp only [ptD]; exact h1, h2⟩
    | _ => cases g
theorem pts_rel : ∀ (l : PTl) (xs : List T) (ys : List D) (e : FSt) {e' : FSt} {ds : DSt}, ptTs l xs e = some e' → Rel A X w own ds h e → Vals (Al A w own) h xs ys → (∀ q ∈ w, ptOuts q.1 l = true) → ∃ ds', ptDs l ys ds = some ds' ∧ Rel A X w own ds' h e'
  | .nil, xs, ys, e, e', ds, g, r, v, o => by
    simp only [ptTs] at g
    cases xs with
    | nil => cases g; simp only [Vals] at v; subst v; exact ⟨ds, by simp only [ptDs], r⟩
    | cons x r => cases g
  | .cons p l, xs, ys, e, e', ds, g, r, v, o => by
    simp only [ptTs] at g
    cases xs with
    | nil => cases g
    | cons x xs =>
      simp only at g
      obtain ⟨e1, g1, g2⟩ := bind_some g
      simp only [Vals] at v
      obtain ⟨d, ds2, rfl, v1, v2⟩ := v
      obtain ⟨ds1, h1, h2⟩ := pt_rel p x d e g1 r v1 (fun q hq => by have := o q hq; simp only [ptOuts, Bool.and_eq_true] at this; exact this.1)
      obtain ⟨ds3, h3, h4⟩ := pts_rel l xs ds2 e1 g2 h2 v2 (fun q hq => by have := o q hq; simp only [ptOuts, Bool.and_eq_true] at this; exact this.2)
      exact ⟨ds3, by simp only [ptDs, h1]; exact h3, h4⟩
end
end
def lcTP (g : PTg) (ft : FT) (fe : FE) (e : FSt) : List T → Option (List T)
  | [] => some []
  | x :: xs => (ptT g x e).bind fun e1 => (ft e1).bind fun c => if c then (fe e1).bind fun t => (lcTP g ft fe e xs).map (t :: ·) else lcTP g ft fe e xs
def fLcP (fi : FI) (g : PTg) (ft : FT) (fe : FE) (vs : List Nat) : FE := fun e => (fi e).bind fun ts => if ts.length ≤ 16777216 then (lcTP g ft fe (wipeT e vs) ts).map .lst else none
theorem w_lcP {mi : IM} {g : PTg} {t : TM} {e : EM} {vs : List Nat} {ds : DSt} {h : DH} {PD : D → DH → Prop} : SatE (mLcP mi g t e vs ds h) PD ↔ SatE (mi ds h) fun it h1 => SatE (lcP it g t e h1.length (wipeD ds vs) (it.len h1 + 1) 0 (h1 ++ [.lst []])) PD := by unfold mLcP; exact satE_bind
section
variable {rs : Rk} {sh sh' : Sh} {wr w w1 wn wl wn' wl' : Ws} {A X : Nat → Prop} {h0 h h1 h' h'' : DH} {own own1 own' own'' : Ow} {ds ds1 ds' ds'' : DSt} {e e1 e' e'' : FSt}
variable {m ma mb mk mo : EM} {f fa fb fk : FE} {a b : SM} {sa sb : FS} {t : TM} {ft : FT} {i j : Nat} {p : FP} {mr : AM} {fr : FA}
theorem sx_lcP {mi : IM} {fi : FI} {g : PTg} {vs : List Nat} (hi : SI w mi fi) (ht : ST w t ft) (he : SX w sh ma fa) (hj : ∀ p ∈ w, ptOut p.1 g = true) (hv : ∀ v ∈ vs, ∀ p ∈ w, p.1 ≠ v) : SX w (.l sh) (mLcP mi g t ma vs) (fLcP fi g ft fa vs) := fun A X own ds h e r v q => by
  obtain ⟨ts, q1, q⟩ := bind_some q
  have hz : ts.length ≤ 16777216 := by
    by_cases c : ts.length ≤ 16777216
    · exact c
    · simp only [if_neg c] at q; cases q
  simp only [if_pos hz] at q
  obtain ⟨us, q2, rfl⟩ := map_some q
  rw [w_lcP]
  refine (hi A X own ds h e r ts q1).imp fun it h1 ⟨k1, xs, vx, hlen, hat⟩ => ?_
  have r1 := (r.keep k1).wipes hv
  have kn : Keep h1 (h1 ++ [.lst []]) := Keep.app _ _
  rw [hlen]
  have core : ∀ (k i : Nat) (acc : List D) (us0 us1 : List T) (F : List Nat) (h2 : DH), k + i = xs.length + 1 → i ≤ xs.length → acc.length ≤ i → Fr h1.length (h1 ++ [.lst []]) h2 → (h1 ++ [DO.lst []]).length ≤ h2.length → h2[h1.length]? = some (.lst acc) →
      (∀ m ∈ F, h1.length < m) → F.Nodup → OdL (Od (fun m => Al A w own m ∧ m ∉ h1.length :: F) h2 sh) us0 acc F → lcTP g ft fa (wipeT e vs) (ts.drop i) = some us1 →
      SatE (lcP it g t ma h1.length (wipeD ds vs) k i h2) fun d h' => Keep h h' ∧ ∃ S, Od (fun m => Al A w own m ∧ m ∉ S) h' (.l sh) (.lst (us0 ++ us1)) d S ∧ S.Nodup ∧ ∀ x ∈ S, h.length ≤ x := by
    intro k
    induction k with
    | zero => intro i acc us0 us1 F h2 e1 l; omega
    | succ k ih =>
      intro i acc us0 us1 F h2 e1 l la fr hl hn hF nF va hus
      have k12 : Keep h1 h2 := fr.keep kn (Nat.le_refl _)
      have hFl : ∀ m ∈ F, m < h2.length := OdL.lt (A := A) (fun t d U p => Od.lt _ t d U p) va
      simp only [lcP]
      rw [hat h2 (k12.kin _) i]
      cases qx : xs[i]? with
      | none =>
        have l2 : xs.length ≤ i := List.getElem?_eq_none_iff.mp qx
        have e2 : ts.drop i = [] := List.drop_eq_nil_of_le (by rw [← vx.length]; omega)
        rw [e2] at hus
        cases hus
        rw [List.append_nil]
        refine ⟨k1.trans k12, h1.length :: F, ?_, ?_, fun m hm => ?_⟩
        · simp only [Od]
          exact ⟨_, h1.length, acc, F, rfl, rfl, rfl, hn, va⟩
        · rw [List.nodup_cons]
          exact ⟨fun z => by have := hF _ z; omega, nF⟩
        · rcases List.mem_cons.mp hm with y | y
          · rw [y]; exact k1.len
          · have := hF m y; have := k1.len; omega
      | some x =>
        have hil : i < xs.length := (List.getElem?_eq_some_iff.mp qx).1
        have htl : i < ts.length := by rw [← vx.length]; exact hil
        obtain ⟨dx, d1, d2⟩ := vx.get (List.getElem?_eq_getElem htl)
        rw [qx] at d1
        cases d1
        rw [List.drop_eq_getElem_cons htl] at hus
        simp only [lcTP] at hus
        obtain ⟨e1', g1, hus⟩ := bind_some hus
        obtain ⟨c, c1, hus⟩ := bind_some hus
        have hnl := lt_of_get hn
        have rk : Rel (fun m => A m ∧ m ∉ h1.length :: F) X w own (wipeD ds vs) h2 (wipeT e vs) := r1.avoid _ (fun m hm => by
          rcases List.mem_cons.mp hm with y | y
          · omega
          · have := hF m y; omega) k12 fun m hm => by
          rcases List.mem_cons.mp hm with y | y
          · rw [y]; exact hnl
          · exact hFl m y
        obtain ⟨ds1, g2, rv⟩ := pt_rel g _ _ _ g1 rk (Val.mono (B := Al (fun m => A m ∧ m ∉ h1.length :: F) w own) (fun m a l => ⟨⟨a.1, fun z => by
          rcases List.mem_cons.mp z with y | y
          · omega
          · have := hF m y; omega⟩, a.2⟩) (k12.kin _) _ _ d2) hj
        obtain ⟨c', h3, z1, k3, z2⟩ := (ht _ X own _ h2 _ rv c c1).eq
        subst z2
        simp only [g2, z1]
        have l3 := k3.len
        have va3 : OdL (Od (fun m => Al A w own m ∧ m ∉ h1.length :: F) h3 sh) us0 acc F := OdL.imp (fun t d U hU p => Od.mono (fun _ a _ => a) (k3.kin _) _ _ _ _ (k3.kS _) p) va
        cases c' with
        | false => exact ih (i + 1) acc us0 us1 F h3 (by omega) hil (by omega) (fr.trans (k3.fr _)) (by omega) (k3 _ _ hn) hF nF va3 hus
        | true =>
          simp only [if_true] at hus
          obtain ⟨t1, t2, hus⟩ := bind_some hus
          obtain ⟨us2, t3, rfl⟩ := map_some hus
          obtain ⟨d, h4, y1, k4, S, o4, n4, b4⟩ := (he _ X own _ h3 _ (rv.keep k3) t1 t2).eq
          have hn4 := k4 _ _ (k3 _ _ hn)
          have l4 := k4.len
          simp only [y1, hn4]
          rw [if_pos (by omega)]
          have fs : Fr h1.length h4 (h4.set h1.length (.lst (acc ++ [d]))) := (Fr.refl _ h4).set _
          have va4 : OdL (Od (fun m => Al A w own m ∧ m ∉ h1.length :: (F ++ S)) (h4.set h1.length (.lst (acc ++ [d]))) sh) (us0 ++ [t1]) (acc ++ [d]) (F ++ S) := by
            refine OdL.append (OdL.imp (fun t d U hU p => Od.mono (h := h3) (fun m a l => ⟨a.1, fun z => ?_⟩) (fun m o a z => fs m o (fun y => a.2 (by rw [y]; exact List.mem_cons_self)) (k4 m o z)) _ _ _ _ (fun m hm o z => fs m o (fun y => by have := hF m (hU m hm); omega) (k4 m o z)) p) va3) (OdL.one (Od.mono (fun m a _ => ⟨⟨a.1.1.1, a.1.2⟩, fun z => ?_⟩) (fun m o a z => fs m o (fun y => a.1.1.2 (by rw [y]; exact List.mem_cons_self)) z) _ _ _ _ (fun m hm o z => fs m o (fun y => by have := b4 m hm; omega) z) o4))
            · rcases List.mem_cons.mp z with y | y
              · exact a.2 (by rw [y]; exact List.mem_cons_self)
              · rcases List.mem_append.mp y with x | x
                · exact a.2 (List.mem_cons_of_mem _ x)
                · have := b4 m x; omega
            · rcases List.mem_cons.mp z with y | y
              · exact a.1.1.2 (by rw [y]; exact List.mem_cons_self)
              · rcases List.mem_append.mp y with x | x
                · exact a.1.1.2 (List.mem_cons_of_mem _ x)
                · exact a.2 x
          have := ih (i + 1) (acc ++ [d]) (us0 ++ [t1]) us2 (F ++ S) _ (by omega) hil (by rw [List.length_append, List.length_singleton]; omega) (((fr.trans (k3.fr _)).trans (k4.fr _)).trans fs) (by rw [List.length_set]; omega) (set_same hn4) (fun m hm => by
            rcases List.mem_append.mp hm with y | y
            · exact hF m y
            · have := b4 m y; omega) (by
            rw [List.nodup_append]
            exact ⟨nF, n4, fun a ha b hb z => by have := hFl a ha; have := b4 b hb; omega⟩) va4 t3
          rw [List.append_assoc] at this
          exact this
  exact core (xs.length + 1) 0 [] [] us [] (h1 ++ [.lst []]) rfl (Nat.zero_le _) (Nat.le_refl _) (Fr.refl _ _) (Nat.le_refl _) (get_last _ _) (fun m z => nomatch z) List.nodup_nil ⟨rfl, rfl⟩ q2
theorem se_lcP {mi : IM} {fi : FI} {g : PTg} {vs : List Nat} (hi : SI w mi fi) (ht : ST w t ft) (he : SX w .s ma fa) (hj : ∀ p ∈ w, ptOut p.1 g = true) (hv : ∀ v ∈ vs, ∀ p ∈ w, p.1 ≠ v) : SE w (mLcP mi g t ma vs) (fLcP fi g ft fa vs) := (sx_lcP hi ht he hj hv).se
/-! ### enumerate, zip, reversed -/
def lstO : T → Option (List T)
  | .lst xs => some xs
  | .fro xs => some xs
  | _ => none
def enT (k : Nat) : List T → List T
  | [] => []
  | x :: r => .tup [.int (k : Nat), x] :: enT (k + 1) r
def enD (k : Nat) : List D → List D
  | [] => []
  | x :: r => .tup [.int (k : Nat), x] :: enD (k + 1) r
theorem enT_len : ∀ {xs : List T} {k : Nat}, (enT k xs).length = xs.length
  | [], _ => rfl
  | x :: r, k => by simp only [enT, List.length_cons, enT_len]
theorem enT_get : ∀ {xs : List T} {k i : Nat}, (enT k xs)[i]? = (xs[i]?).map fun x => .tup [.int ((k + i : Nat) : Int), x]
  | [], k, i => by simp [enT]
  | x :: r, k, 0 => by simp [enT]
  | x :: r, k, i + 1 => by simp only [enT, List.getElem?_cons_succ, enT_get, show k + 1 + i = k + (i + 1) from by omega]
theorem enD_len : ∀ {xs : List D} {k : Nat}, (enD k xs).length = xs.length
  | [], _ => rfl
  | x :: r, k => by simp only [enD, List.length_cons, enD_len]
theorem enD_get : ∀ {xs : List D} {k i : Nat}, (enD k xs)[i]? = (xs[i]?).map fun x => .tup [.int ((k + i : Nat) : Int), x]
  | [], k, i => by simp [enD]
  | x :: r, k, 0 => by simp [enD]
  | x :: r, k, i + 1 => by simp only [enD, List.getElem?_cons_succ, enD_get, show k + 1 + i = k + (i + 1) from by omega]
theorem en_vals : ∀ {ts : List T} {xs : List D} {k : Nat}, Vals A h ts xs → Vals A h (enT k ts) (enD k xs)
  | [], xs, k, v => by simp only [Vals] at v; subst v; exact Vals.nil
  | t :: ts, xs, k, v => by
    simp only [Vals] at v
    obtain ⟨d, ds, rfl, v1, v2⟩ := v
    exact Vals.cons (val_tup.mpr ⟨_, rfl, Vals.cons (val_int.mpr rfl) (Vals.cons v1 Vals.nil)⟩) (en_vals v2)
theorem lsO_val {t : T} {d : D} {ts : List T} (v : Val A h t d) (q : lstO t = some ts) : ∃ n xs, d = .ref n ∧ A n ∧ Vals A h ts xs ∧ ∀ h', KeepIn A h h' → lsO h' n = some xs := by
  cases t with
  | lst us =>
    cases q
    obtain ⟨n, xs, rfl, a, hn, v⟩ := val_lst.mp v
    exact ⟨n, xs, rfl, a, v, fun h' k => by unfold lsO; rw [k n _ a hn]⟩
  | fro us =>
    cases q
    obtain ⟨n, xs, rfl, a, hn, v⟩ := val_fro.mp v
    exact ⟨n, xs, rfl, a, v, fun h' k => by unfold lsO; rw [k n _ a hn]⟩
  | _ => cases q
def fEn (a : FE) : FI := fun e => (a e).bind fun t => (lstO t).map (enT 0)
theorem si_en (ha : SE w ma fa) : SI w (iEn ma) (fEn fa) := fun A X own ds h e r ts q => by
  obtain ⟨x, q1, q⟩ := bind_some q
  obtain ⟨us, q2, rfl⟩ := map_some q
  unfold iEn
  rw [satE_bind]
  refine (ha A X own ds h e r x q1).imp fun dx h1 ⟨k1, v1⟩ => ?_
  obtain ⟨n, xs, rfl, an, v, k⟩ := lsO_val v1 q2
  have k0 := k h1 (KeepIn.refl _ _)
  simp only [k0]
  refine ⟨k1, enD 0 xs, en_vals v, by simp only [Itd.len, k0, Option.getD_some, enD_len], fun h' kk i => ?_⟩
  simp only [Itd.at_, k h' kk, Option.map_some, enD_get, Nat.zero_add]
def zpT : List T → List T → List T
  | x :: xs, y :: ys => .tup [x, y] :: zpT xs ys
  | _, _ => []
def zpD : List D → List D → List D
  | x :: xs, y :: ys => .tup [x, y] :: zpD xs ys
  | _, _ => []
theorem zpT_len : ∀ {xs ys : List T}, (zpT xs ys).length = min xs.length ys.length
  | [], ys => by simp [zpT]
  | x :: xs, [] => by simp [zpT]
  | x :: xs, y :: ys => by simp only [zpT, List.length_cons, zpT_len]; omega
theorem zpT_get : ∀ {xs ys : List T} {i : Nat}, (zpT xs ys)[i]? = (xs[i]?).bind fun x => (ys[i]?).map fun y => .tup [x, y]
  | [], ys, i => by simp [zpT]
  | x :: xs, [], i => by cases i <;> simp [zpT]
  | x :: xs, y :: ys, 0 => by simp [zpT]
  | x :: xs, y :: ys, i + 1 => by simp only [zpT, List.getElem?_cons_succ, zpT_get]
theorem zpD_len : ∀ {xs ys : List D}, (zpD xs ys).length = min xs.length ys.length
  | [], ys => by simp [zpD]
  | x :: xs, [] => by simp [zpD]
  | x :: xs, y :: ys => by simp only [zpD, List.length_cons, zpD_len]; omega
theorem zpD_get : ∀ {xs ys : List D} {i : Nat}, (zpD xs ys)[i]? = (xs[i]?).bind fun x => (ys[i]?).map fun y => .tup [x, y]
  | [], ys, i => by simp [zpD]
  | x :: xs, [], i => by cases i <;> simp [zpD]
  | x :: xs, y :: ys, 0 => by simp [zpD]
  | x :: xs, y :: ys, i + 1 => by simp only [zpD, List.getElem?_cons_succ, zpD_get]
theorem zp_vals : ∀ {ts us : List T} {xs ys : List D}, Vals A h ts xs → Vals A h us ys → Vals A h (zpT ts us) (zpD xs ys)
  | [], us, xs, ys, v, u => by simp only [Vals] at v; subst v; exact Vals.nil
  | t :: ts, [], xs, ys, v, u => by
    simp only [Vals] at u; subst u
    simp only [Vals] at v
    obtain ⟨d, ds, rfl, v1, v2⟩ := v
    exact Vals.nil
  | t :: ts, z :: us, xs, ys, v, u => by
    simp only [Vals] at v u
    obtain ⟨d, ds, rfl, v1, v2⟩ := v
    obtain ⟨c, cs, rfl, u1, u2⟩ := u
    exact Vals.cons (val_tup.mpr ⟨_, rfl, Vals.cons v1 (Vals.cons u1 Vals.nil)⟩) (zp_vals v2 u2)
def fZp (a b : FE) : FI := fun e => (a e).bind fun t => (b e).bind fun u => (lstO t).bind fun xs => (lstO u).map fun ys => zpT xs ys
theorem si_zp (ha : SE w ma fa) (hb : SE w mb fb) : SI w (iZp ma mb) (fZp fa fb) := fun A X own ds h e r ts q => by
  obtain ⟨x, q1, q⟩ := bind_some q
  obtain ⟨y, q2, q⟩ := bind_some q
  obtain ⟨us, q3, q⟩ := bind_some q
  obtain ⟨vs, q4, rfl⟩ := map_some q
  unfold iZp
  rw [satE_bind]
  refine (ha A X own ds h e r x q1).imp fun dx h1 ⟨k1, v1⟩ => ?_
  rw [satE_bind]
  refine (hb A X own ds h1 e (r.keep k1) y q2).imp fun dy h2 ⟨k2, v2⟩ => ?_
  obtain ⟨n, xs, rfl, an, v, k⟩ := lsO_val (v1.keep k2) q3
  obtain ⟨n2, ys, rfl, an2, u, kk⟩ := lsO_val v2 q4
  have k0 := k h2 (KeepIn.refl _ _)
  have k3 := kk h2 (KeepIn.refl _ _)
  simp only [k0, k3]
  refine ⟨k1.trans k2, zpD xs ys, zp_vals v u, by simp only [Itd.len, k0, k3, Option.getD_some, zpD_len], fun h' kz i => ?_⟩
  simp only [Itd.at_, k h' kz, kk h' kz, Option.map_some, Option.bind, zpD_get]
theorem rev_vals : ∀ {ts : List T} {xs : List D}, Vals A h ts xs → Vals A h ts.reverse xs.reverse
  | [], xs, v => by simp only [Vals] at v; subst v; exact Vals.nil
  | t :: ts, xs, v => by
    simp only [Vals] at v
    obtain ⟨d, ds, rfl, v1, v2⟩ := v
    rw [List.reverse_cons, List.reverse_cons]
    exact (rev_vals v2).append (Vals.cons v1 Vals.nil)
def fRv (a : FE) : FI := fun e => (a e).bind fun t => (lstO t).map List.reverse
theorem si_rv (ha : SE w ma fa) : SI w (iRv ma) (fRv fa) := fun A X own ds h e r ts q => by
  obtain ⟨x, q1, q⟩ := bind_some q
  obtain ⟨us, q2, rfl⟩ := map_some q
  unfold iRv
  rw [satE_bind]
  refine (ha A X own ds h e r x q1).imp fun dx h1 ⟨k1, v1⟩ => ?_
  obtain ⟨n, xs, rfl, an, v, k⟩ := lsO_val v1 q2
  have k0 := k h1 (KeepIn.refl _ _)
  simp only [k0]
  refine ⟨k1, xs.reverse, rev_vals v, by simp only [Itd.len, List.length_reverse], fun h' kk i => ?_⟩
  simp only [Itd.at_, k h' kk]
  by_cases c : i < xs.length
  · rw [if_pos c, List.getElem?_reverse c]
    have l : xs.length - 1 - i < xs.length := by omega
    simp only [Option.bind, List.getElem?_eq_getElem l, Option.map_some]
  · rw [if_neg c, List.getElem?_eq_none (by rw [List.length_reverse]; omega)]
/-! ### truths -/
def bOpT (g : Bool → Bool → Bool) (t u : T) : Option T := match t, u with | .bl a, .bl b => some (.bl (g a b)) | _, _ => none
theorem o_bOp {g : Bool → Bool → Bool} : SOp (bOpD g) (bOpT g) := fun A h x y t u v big r1 r2 e => by
  cases t with
  | bl a =>
    cases u with
    | bl b => cases e; rw [bv_bl r1, bv_bl r2]; exact ⟨Keep.refl _, val_bl.mpr rfl⟩
    | _ => cases e
  | _ => cases e
theorem fr_bOp {g : Bool → Bool → Bool} : FlatR (bOpT g) := fun t u v e => by
  cases t with
  | bl a =>
    cases u with
    | bl b => cases e; rfl
    | _ => cases e
  | _ => cases e
def blsT : List T → Option (List Bool)
  | [] => some []
  | .bl b :: r => (blsT r).map (b :: ·)
  | _ => none
theorem blsT_map {bs : List Bool} : blsT (bs.map T.bl) = some bs := by
  induction bs with
  | nil => rfl
  | cons b r ih => simp only [List.map_cons, blsT, ih, Option.map_some]
theorem blsT_eq : ∀ {ts : List T} {bs : List Bool}, blsT ts = some bs → ts = bs.map T.bl
  | [], bs, e => by cases e; rfl
  | .bl b :: r, bs, e => by
    simp only [blsT] at e
    obtain ⟨cs, q, rfl⟩ := map_some e
    rw [List.map_cons, ← blsT_eq q]
  | .non :: r, bs, e => by cases e
  | .int _ :: r, bs, e => by cases e
  | .str _ :: r, bs, e => by cases e
  | .tup _ :: r, bs, e => by cases e
  | .lst _ :: r, bs, e => by cases e
  | .fro _ :: r, bs, e => by cases e
  | .dic _ :: r, bs, e => by cases e
  | .obj _ _ :: r, bs, e => by cases e
theorem bls_vals : ∀ {bs : List Bool} {xs : List D}, Vals A h (bs.map T.bl) xs → xs = bs.map D.bl
  | [], xs, v => by simpa only [List.map_nil, Vals] using v
  | b :: bs, xs, v => by
    simp only [List.map_cons, Vals] at v
    obtain ⟨d, ds, rfl, v1, v2⟩ := v
    rw [val_bl.mp v1, bls_vals v2]; rfl
theorem blsO_of {bs : List Bool} : blsO (bs.map D.bl) = some bs := by
  induction bs with
  | nil => rfl
  | cons b r ih => simp only [List.map_cons, blsO, ih, Option.map_some]
def allT (f : List Bool → Bool) (ts : List T) : Option T := match ts with
  | [t] => (lstO t).bind fun xs => (blsT xs).map fun bs => .bl (f bs)
  | _ => none
theorem c_all {f : List Bool → Bool} : SCl (allD f) (allT f) := fun A h xs ts v big r e => by
  match ts, e with
  | [t], e =>
    obtain ⟨us, q1, e⟩ := bind_some (show ((lstO t).bind fun xs => (blsT xs).map fun bs => T.bl (f bs)) = some v from e)
    obtain ⟨bs, q2, rfl⟩ := map_some e
    obtain ⟨d, rfl, bv⟩ := bvs1 r
    rw [blsT_eq q2] at q1
    have key : ∀ n ys, d = .ref n → lsO h n = some ys → Vals A h (bs.map T.bl) ys → SatE (allD f [d] h) fun d h' => Keep h h' ∧ Val A h' (.bl (f bs)) d := fun n ys e1 e2 v => by
      subst e1
      unfold allD
      rw [bls_vals v] at e2
      simp only [e2, Option.bind, blsO_of]
      exact ⟨Keep.refl _, val_bl.mpr rfl⟩
    cases t with
    | lst us => cases q1; obtain ⟨n, ys, e1, e2, v⟩ := bv; exact key n ys e1 (by unfold lsO; rw [e2]) v
    | fro us => cases q1; obtain ⟨n, ys, e1, a, e2, v⟩ := bv_fro bv; exact key n ys e1 (by unfold lsO; rw [e2]) v
    | _ => cases q1
theorem fc_all {f : List Bool → Bool} : FlatC (allT f) := fun ts t e => by
  match ts, e with
  | [t], e =>
    obtain ⟨us, q1, e⟩ := bind_some (show ((lstO t).bind fun xs => (blsT xs).map fun bs => T.bl (f bs)) = some _ from e)
    obtain ⟨bs, q2, rfl⟩ := map_some e
    rfl
/-! ### fields -/
theorem valsO_look {f : Str} : ∀ {ks : List (Str × T)} {ws : List (Str × D)} {t : T}, ValsO A h ks ws → ks.lookup f = some t → ∃ d, ws.lookup f = some d ∧ Val A h t d
  | [], ws, t, v, q => by cases q
  | (g, x) :: ks, ws, t, v, q => by
    simp only [ValsO] at v
    obtain ⟨d, ds, rfl, v1, v2⟩ := v
    simp only [List.lookup] at q ⊢
    cases z : (f == g) with
    | true => rw [z] at q; cases q; exact ⟨d, rfl, v1⟩
    | false => rw [z] at q; exact valsO_look v2 q
def fFldC (c : Nat) (f : Str) (a : FE) : FE := fun e => (a e).bind fun t => match t with | .obj c' fs => if c' = c then fs.lookup f else none | _ => none
theorem se_fld {c : Nat} {z : Str} (ha : SE w ma fa) : SE w (mFld c z ma) (fFldC c z fa) := fun A X own ds h e r t q => by
  obtain ⟨x, q1, q⟩ := bind_some q
  unfold mFld
  rw [satE_bind]
  refine (ha A X own ds h e r x q1).imp fun dx h1 ⟨k1, v1⟩ => ?_
  cases x with
  | obj c' ks =>
    by_cases cc : c' = c
    · subst cc
      simp only [if_true] at q
      obtain ⟨n, xs, rfl, a, hn, v⟩ := val_obj.mp v1
      obtain ⟨d, l1, l2⟩ := valsO_look v q
      simp only [hn, if_true, l1]
      exact ⟨k1, l2⟩
    · simp only [if_neg cc] at q; cases q
  | _ => cases q
/-! ### a class whose __init__ sets its fields one after the other -/
def initM (c : Nat) : List (Str × EM) → SM
  | [] => sNext
  | [x] => sFd c x.1 (mVar 0) x.2
  | x :: y :: r => sSeq (sFd c x.1 (mVar 0) x.2) (initM c (y :: r))
def initE (e : FSt) : List (Str × FE) → Option (List (Str × T))
  | [] => some []
  | (z, f) :: r => (f e).bind fun t => (initE e r).map ((z, t) :: ·)
def initT (c n N : Nat) (fs : List (Str × FE)) (ts : List T) : Option T := if ts.length = n then (initE (none :: ts.map some ++ List.replicate (N - (n + 1)) none) fs).map (.obj c) else none
inductive Inis : List (Str × EM) → List (Str × FE) → Prop where
  | nil : Inis [] []
  | cons {z : Str} {m : EM} {f : FE} {ms : List (Str × EM)} {fs : List (Str × FE)} (h : SE [] m f) (r : Inis ms fs) (nd : ∀ x ∈ ms, x.1 ≠ z) : Inis ((z, m) :: ms) ((z, f) :: fs)
theorem putFD_new {z : Str} {v : D} : ∀ {fs : List (Str × D)}, (∀ x ∈ fs, x.1 ≠ z) → putFD z v fs = fs ++ [(z, v)]
  | [], _ => rfl
  | (g, x) :: r, n => by
    unfold putFD
    rw [if_neg (n (g, x) List.mem_cons_self), putFD_new fun y hy => n y (List.mem_cons_of_mem _ hy)]; rfl
theorem valsO_app : ∀ {ks us : List (Str × T)} {ws zs : List (Str × D)}, ValsO A h ks ws → ValsO A h us zs → ValsO A h (ks ++ us) (ws ++ zs)
  | [], us, ws, zs, v, u => by simp only [ValsO] at v; subst v; exact u
  | k :: ks, us, ws, zs, v, u => by
    simp only [ValsO] at v
    obtain ⟨d, ds, rfl, v1, v2⟩ := v
    simp only [List.cons_append, ValsO]
    exact ⟨d, ds ++ zs, rfl, v1, valsO_app v2 u⟩
theorem valsO_mono {B : Nat → Prop} (hA : ∀ m, A m → m < h.length → B m) (k : KeepIn A h h') : ∀ {ks : List (Str × T)} {ws : List (Str × D)}, ValsO A h ks ws → ValsO B h' ks ws
  | [], ws, v => by simp only [ValsO] at v ⊢; exact v
  | p :: ks, ws, v => by
    simp only [ValsO] at v ⊢
    obtain ⟨d, ds, rfl, v1, v2⟩ := v
    exact ⟨d, ds, rfl, Val.mono hA k _ _ v1, valsO_mono hA k v2⟩
theorem init_ok {c L : Nat} {ts0 : FSt} {ds0 : DSt} (hd : ds0.getD 0 none = some (.ref L)) : ∀ {ms : List (Str × EM)} {fs : List (Str × FE)}, Inis ms fs → ∀ (h1 : DH) (done : List (Str × D)) (gs us : List (Str × T)), Rel (fun m => A m ∧ m ≠ L) X [] own ds0 h1 ts0 → h1[L]? = some (.ins c done) → ValsO (fun m => A m ∧ m ≠ L) h1 gs done → (∀ x ∈ ms, ∀ y ∈ done, y.1 ≠ x.1) → done.length + ms.length ≤ 1000 → initE ts0 fs = some us →
    ∃ h2 ws, initM c ms ds0 h1 = .nx ds0 h2 ∧ Fr L h1 h2 ∧ h2[L]? = some (.ins c ws) ∧ ValsO (fun m => A m ∧ m ≠ L) h2 (gs ++ us) ws := by
  intro ms fs ins
  have step : ∀ (z : Str) (m : EM) (f : FE) (h1 : DH) (done : List (Str × D)) (gs : List (Str × T)) (t : T), SE [] m f → Rel (fun m => A m ∧ m ≠ L) X [] own ds0 h1 ts0 → h1[L]? = some (.ins c done) → ValsO (fun m => A m ∧ m ≠ L) h1 gs done → (∀ y ∈ done, y.1 ≠ z) → done.length < 1000 → f ts0 = some t →
      ∃ h2 d, sFd c z (mVar 0) m ds0 h1 = .nx ds0 h2 ∧ Fr L h1 h2 ∧ h2[L]? = some (.ins c (done ++ [(z, d)])) ∧ ValsO (fun m => A m ∧ m ≠ L) h2 (gs ++ [(z, t)]) (done ++ [(z, d)]) ∧ Rel (fun m => A m ∧ m ≠ L) X [] own ds0 h2 ts0 := by
    intro z m f h1 done gs t se r hL v nd l q
    obtain ⟨d, h2, e2, k2, v2⟩ := (se _ X own ds0 h1 ts0 r t q).eq
    have hL2 := k2 _ _ hL
    have fr : Fr L h2 (h2.set L (.ins c (done ++ [(z, d)]))) := (Fr.refl _ h2).set _
    have kin : KeepIn (fun m => A m ∧ m ≠ L) h2 (h2.set L (.ins c (done ++ [(z, d)]))) := fun m o a e => fr m o a.2 e
    have kin1 : KeepIn (fun m => A m ∧ m ≠ L) h1 (h2.set L (.ins c (done ++ [(z, d)]))) := fun m o a e => kin m o a (k2 m o e)
    have v2' : Val (fun m => A m ∧ m ≠ L) h2 t d := v2.sub fun m a _ => a.1
    refine ⟨_, d, ?_, (k2.fr L).trans fr, set_same hL2, valsO_app (valsO_mono (fun m a _ => a) kin1 v) ?_, r.kin kin1 (by rw [List.length_set]; exact k2.len)⟩
    · unfold sFd mVar
      rw [e2]
      simp only [Res.st, hd, hL2, true_and]
      rw [if_pos l, putFD_new nd]
    · simp only [ValsO]
      exact ⟨d, [], rfl, Val.mono (fun m a _ => a) kin _ _ v2', rfl⟩
  induction ins with
  | nil =>
    intro h1 done gs us r hL v nd l q
    cases q
    exact ⟨h1, done, rfl, Fr.refl _ _, hL, by rw [List.append_nil]; exact v⟩
  | @cons z m f ms fs se rr nd1 ih =>
    intro h1 done gs us r hL v nd l q
    simp only [initE] at q
    obtain ⟨t, q1, q⟩ := bind_some q
    obtain ⟨us2, q2, rfl⟩ := map_some q
    rw [List.length_cons] at l
    obtain ⟨h2, d, s1, s2, s3, s4, s5⟩ := step z m f h1 done gs t se r hL v (fun y hy => nd (z, m) List.mem_cons_self y hy) (by omega) q1
    obtain ⟨h3, ws, i1, i2, i3, i4⟩ := ih h2 (done ++ [(z, d)]) (gs ++ [(z, t)]) us2 s5 s3 s4 (fun x hx y hy => by
      rcases List.mem_append.mp hy with y' | y'
      · exact nd x (List.mem_cons_of_mem _ hx) y y'
      · rw [List.mem_singleton.mp y']; exact (nd1 x hx).symm) (by rw [List.length_append, List.length_singleton]; omega) q2
    refine ⟨h3, ws, ?_, s2.trans i2, i3, by rw [List.append_assoc] at i4; exact i4⟩
    cases ms with
    | nil =>
      have : h3 = h2 := by
        have e : initM c [] ds0 h2 = .nx ds0 h2 := rfl
        rw [e] at i1
        cases i1; rfl
      rw [this]; exact s1
    | cons y r =>
      show sSeq (sFd c z (mVar 0) m) (initM c (y :: r)) ds0 h1 = _
      unfold sSeq
      rw [s1]; exact i1
theorem mk_sf {c n N : Nat} {ms : List (Str × EM)} {fs : List (Str × FE)} (hi : Inis ms fs) (hl : ms.length ≤ 1000) : SF .s (mkF c (runF (n + 1) N (initM c ms))) (initT c n N fs) := fun A xs ts h big v t q => by
  unfold initT at q
  by_cases z : ts.length = n
  · rw [if_pos z] at q
    obtain ⟨us, q1, rfl⟩ := map_some q
    unfold mkF runF runB
    rw [if_pos (by rw [List.length_cons, v.length, z])]
    have lx : xs.length = n := by rw [v.length, z]
    have hds : (D.ref h.length :: xs).map some ++ List.replicate (N - (D.ref h.length :: xs).length) none = some (D.ref h.length) :: (xs.map some ++ List.replicate (N - (n + 1)) (none : Option D)) := by
      rw [List.map_cons, List.cons_append, List.length_cons, lx]
    rw [hds]
    have r0 := args_rel (n := n + (N - (n + 1))) big v
    have e1 : n + (N - (n + 1)) - xs.length = N - (n + 1) := by omega
    have e2 : n + (N - (n + 1)) - ts.length = N - (n + 1) := by omega
    rw [e1, e2] at r0
    have r1 : Rel (fun m => A m ∧ m ≠ h.length) (fun m => h.length ≤ m) [] (fun _ => []) (some (D.ref h.length) :: (xs.map some ++ List.replicate (N - (n + 1)) none)) (h ++ [.ins c []]) (none :: ts.map some ++ List.replicate (N - (n + 1)) none) := by
      refine ⟨fun m l => ?_, fun m l => ?_, fun p hp => (nomatch hp), fun p hp => (nomatch hp), fun p hp => (nomatch hp), fun i u hi he => ?_, by rw [List.cons_append, List.length_cons, List.length_cons, r0.len]⟩
      · rw [List.length_append, List.length_singleton] at l; exact ⟨big m (by omega), by omega⟩
      · rw [List.length_append, List.length_singleton] at l; show h.length ≤ m; omega
      · cases i with
        | zero => simp at he
        | succ i =>
          obtain ⟨d, d1, d2⟩ := r0.sh i u (fun p hp => nomatch hp) (by simpa using he)
          exact ⟨d, by simpa using d1, Val.mono (fun m a l => ⟨⟨a.1, by omega⟩, fun p hp => nomatch hp⟩) ((Keep.app h [.ins c []]).kin _) _ _ d2⟩
    obtain ⟨h2, ws, i1, i2, i3, i4⟩ := init_ok (A := A) (X := fun m => h.length ≤ m) (own := fun _ => []) (c := c) (L := h.length) (ts0 := none :: ts.map some ++ List.replicate (N - (n + 1)) none) (ds0 := some (D.ref h.length) :: (xs.map some ++ List.replicate (N - (n + 1)) none)) rfl hi (h ++ [.ins c []]) [] [] us r1 (get_last h _) (by simp only [ValsO]) (fun x hx y hy => nomatch hy) (by simpa using hl) q1
    rw [i1]
    have kp : Keep h h2 := fun m o e => i2 m o (by have := lt_of_get e; omega) (Keep.app h _ m o e)
    refine ⟨kp, ret_s.mpr (val_obj.mpr ⟨h.length, ws, rfl, big _ (Nat.le_refl _), i3, ?_⟩)⟩
    exact valsO_mono (fun m a _ => a.1) (KeepIn.refl _ _) i4
  · rw [if_neg z] at q; cases q
end
end Fu
/-! defs that change a parameter: its value goes in and comes out -/
namespace Fu
open PySem L2 Mi
section
variable {A X : Nat → Prop} {w w' : Ws} {own : Ow} {ds : DSt} {h h' : DH} {e : FSt}
/-- what one slot owns is changed; what it drops may be shared then -/
theorem Rel.storeG (r : Rel A X w own ds h e) {i : Nat} {sh' : Sh} {t' : T} {d : D} {S' : List Nat} (hi : (i, sh') ∈ w) (hd : ds.getD i none = some d)
    (kA : KeepIn (Al A w own) h h') (kS : ∀ p ∈ w, p.1 ≠ i → KeepS (own p.1) h h') (l : h.length ≤ h'.length) (nd : S'.Nodup) (hS : ∀ m ∈ S', m ∈ own i ∨ h.length ≤ m) (o : Od (fun m => (Al A w own m ∨ m ∈ own i) ∧ m ∉ S') h' sh' t' d S') :
    Rel A X w (fun j => if j = i then S' else own j) ds h' (e.set i (some t')) := by
  have hl : i < e.length := by
    obtain ⟨_, _, t, d, a2, _⟩ := r.ow _ hi
    exact lt_of_getD a2
  have hA : ∀ m, ((Al A w own m ∨ m ∈ own i) ∧ m ∉ S') → Al A w (fun j => if j = i then S' else own j) m := fun m a => ⟨by
    rcases a.1 with z | z
    · exact z.1
    · exact ((r.ow _ hi).2.1 m z).2, fun p hp => by
    show m ∉ (if p.1 = i then S' else own p.1)
    by_cases q : p.1 = i
    · rw [if_pos q]; exact a.2
    · rw [if_neg q]
      rcases a.1 with z | z
      · exact z.2 p hp
      · exact r.dj _ hi p hp (Ne.symm q) m z⟩
  have hB : ∀ m, Al A w own m → m < h.length → Al A w (fun j => if j = i then S' else own j) m := fun m a l' => hA m ⟨.inl a, fun z => by
    rcases hS m z with y | y
    · exact a.2 _ hi y
    · omega⟩
  refine ⟨fun m q => r.big m (Nat.le_trans l q), fun m q => r.bigX m (Nat.le_trans l q), fun p hp => ?_, fun p hp q hq n m hm => ?_, r.un, fun j u hj he => ?_, by rw [List.length_set, r.len]⟩
  · show (if p.1 = i then S' else own p.1).Nodup ∧ (∀ m ∈ (if p.1 = i then S' else own p.1), X m ∧ A m) ∧ ∃ t d, (e.set i (some t')).getD p.1 none = some t ∧ ds.getD p.1 none = some d ∧ Od _ h' p.2 t d (if p.1 = i then S' else own p.1)
    by_cases q : p.1 = i
    · have e1 : p = (i, sh') := r.un p hp _ hi q
      subst e1
      simp only [if_true]
      refine ⟨nd, fun m hm => ?_, t', d, getD_set_eq hl, hd, Od.mono (fun m a _ => hA m a) (KeepIn.refl _ _) _ _ _ _ (KeepS.refl _ _) o⟩
      rcases hS m hm with y | y
      · exact (r.ow _ hi).2.1 m y
      · exact ⟨r.bigX m y, r.big m y⟩
    · simp only [if_neg q]
      obtain ⟨a, a1, t, d', a2, a3, a4⟩ := r.ow p hp
      exact ⟨a, a1, t, d', by rw [getD_set_ne (Ne.symm q)]; exact a2, a3, Od.mono hB kA _ _ _ _ (kS p hp q) a4⟩
  · replace hm : m ∈ (if p.1 = i then S' else own p.1) := hm
    show m ∉ (if q.1 = i then S' else own q.1)
    by_cases y : p.1 = i
    · rw [if_pos y] at hm
      by_cases x : q.1 = i
      · exact absurd (y.trans x.symm) n
      · rw [if_neg x]
        intro z
        rcases hS m hm with v | v
        · exact r.dj q hq _ hi x m z v
        · have := r.ltO hq m z; omega
    · rw [if_neg y] at hm
      by_cases x : q.1 = i
      · rw [if_pos x]
        intro z
        rcases hS m z with v | v
        · exact r.dj p hp _ hi y m hm v
        · have := r.ltO hp m hm; omega
      · rw [if_neg x]
        exact r.dj p hp q hq n m hm
  · have n : i ≠ j := hj (i, sh') hi
    rw [getD_set_ne n] at he
    obtain ⟨x, a1, a2⟩ := r.sh j u hj he
    exact ⟨x, a1, Val.mono hB kA _ _ a2⟩
/-- what a slot owns goes to another slot -/
theorem Rel.move (r : Rel A X w own ds h e) {i j : Nat} {sh' : Sh} {t : T} {d : D} (hi : (i, sh') ∈ w) (hj : ∀ p ∈ w, p.1 ≠ j) (ht : e.getD i none = some t) (hd : ds.getD i none = some d) (hl : j < e.length) (hw : ∀ p ∈ w', p = (j, sh') ∨ (p ∈ w ∧ p.1 ≠ i)) :
    Rel A X w' (fun k => if k = j then own i else own k) (ds.set j (some d)) h ((e.set i none).set j (some t)) := by
  have nij : i ≠ j := hj _ hi
  obtain ⟨a, a1, t0, d0, a2, a3, a4⟩ := r.ow _ hi
  rw [ht] at a2; cases a2
  rw [hd] at a3; cases a3
  have hA : ∀ m, Al A w own m → Al A w' (fun k => if k = j then own i else own k) m := fun m b => ⟨b.1, fun p hp => by
    show m ∉ (if p.1 = j then own i else own p.1)
    rcases hw p hp with rfl | ⟨z, z2⟩
    · rw [if_pos rfl]; exact b.2 _ hi
    · rw [if_neg (hj p z)]; exact b.2 p z⟩
  refine ⟨r.big, r.bigX, fun p hp => ?_, fun p hp q hq n m hm => ?_, fun p hp q hq z => ?_, fun k u hk he => ?_, by rw [List.length_set, List.length_set, List.length_set, r.len]⟩
  · show (if p.1 = j then own i else own p.1).Nodup ∧ (∀ m ∈ (if p.1 = j then own i else own p.1), X m ∧ A m) ∧ ∃ t' d', ((e.set i none).set j (some t)).getD p.1 none = some t' ∧ (ds.set j (some d)).getD p.1 none = some d' ∧ Od _ h p.2 t' d' (if p.1 = j then own i else own p.1)
    rcases hw p hp with rfl | ⟨z, z2⟩
    · simp only [if_true]
      exact ⟨a, a1, t, d, getD_set_eq (by rw [List.length_set]; exact hl), getD_set_eq (by rw [r.len]; exact hl), Od.mono (fun m b _ => hA m b) (KeepIn.refl _ _) _ _ _ _ (KeepS.refl _ _) a4⟩
    · simp only [if_neg (hj p z)]
      obtain ⟨b, b1, t', d', b2, b3, b4⟩ := r.ow p z
      exact ⟨b, b1, t', d', by rw [getD_set_ne (Ne.symm (hj p z)), getD_set_ne (Ne.symm z2)]; exact b2, by rw [getD_set_ne (Ne.symm (hj p z))]; exact b3, Od.mono (fun m b _ => hA m b) (KeepIn.refl _ _) _ _ _ _ (KeepS.refl _ _) b4⟩
  · replace hm : m ∈ (if p.1 = j then own i else own p.1) := hm
    show m ∉ (if q.1 = j then own i else own q.1)
    rcases hw p hp with rfl | ⟨z, z2⟩
    · rw [if_pos rfl] at hm
      rcases hw q hq with rfl | ⟨y, y2⟩
      · exact absurd rfl n
      · rw [if_neg (hj q y)]; exact r.dj _ hi q y (Ne.symm y2) m hm
    · rw [if_neg (hj p z)] at hm
      rcases hw q hq with rfl | ⟨y, y2⟩
      · rw [if_pos rfl]; exact r.dj p z _ hi z2 m hm
      · rw [if_neg (hj q y)]; exact r.dj p z q y n m hm
  · rcases hw p hp with rfl | ⟨y, y2⟩
    · rcases hw q hq with rfl | ⟨x, x2⟩
      · rfl
      · exact absurd z.symm (hj q x)
    · rcases hw q hq with rfl | ⟨x, x2⟩
      · exact absurd z (hj p y)
      · exact r.un p y q x z
  · by_cases nk : j = k
    · subst nk
      rw [getD_set_eq (by rw [List.length_set]; exact hl)] at he
      cases he
      refine ⟨d, getD_set_eq (by rw [r.len]; exact hl), Od.val (fun m b _ => hA m b) _ _ _ _ (fun m hm => ⟨(a1 m hm).2, fun p hp => ?_⟩) a4⟩
      show m ∉ (if p.1 = j then own i else own p.1)
      rcases hw p hp with rfl | ⟨z, z2⟩
      · exact absurd rfl (hk _ hp)
      · rw [if_neg (hj p z)]; exact r.dj _ hi p z (Ne.symm z2) m hm
    · rw [getD_set_ne nk] at he
      by_cases ik : i = k
      · subst ik
        have : (e.set i none).getD i none = (none : Option T) := getD_set_eq (lt_of_getD ht)
        rw [this] at he; cases he
      · rw [getD_set_ne ik] at he
        by_cases q : ∃ p ∈ w, p.1 = k
        · obtain ⟨p, hp, rfl⟩ := q
          obtain ⟨b, b1, t', d', b2, b3, b4⟩ := r.ow p hp
          rw [b2] at he; cases he
          refine ⟨d', by rw [getD_set_ne nk]; exact b3, Od.val (fun m b _ => hA m b) _ _ _ _ (fun m hm => ⟨(b1 m hm).2, fun q hq => ?_⟩) b4⟩
          show m ∉ (if q.1 = j then own i else own q.1)
          rcases hw q hq with rfl | ⟨z, z2⟩
          · rw [if_pos rfl]; exact r.dj p hp _ hi (Ne.symm ik) m hm
          · rw [if_neg (hj q z)]; exact r.dj p hp q z (fun y => hk q hq y.symm) m hm
        · obtain ⟨x, c1, c2⟩ := r.sh k u (fun p hp z => q ⟨p, hp, z⟩) he
          exact ⟨x, by rw [getD_set_ne nk]; exact c1, Val.mono (fun m b _ => hA m b) (KeepIn.refl _ _) _ _ c2⟩
end
/-! ### the promise -/
def SFP (p : Nat) (rk : Rk) (sh : Sh) (F : List D → DH → Res D) (G : List T → Option T) : Prop := ∀ A xs ts h S t d, (∀ m, h.length ≤ m → A m) → (∀ m ∈ S, ¬ A m) → (∀ m ∈ S, m < h.length) → ts[p]? = some t → xs[p]? = some d → Od A h sh t d S → S.Nodup → Vals A h (ts.set p .non) (xs.set p .non) → ∀ v, G ts = some v →
  ∃ r u, v = .tup [r, u] ∧ SatE (F xs h) fun d' h' => h.length ≤ h'.length ∧ (∀ (m : Nat) o, m ∉ S → h[m]? = some o → h'[m]? = some o) ∧ ∃ S', Od (fun m => (A m ∨ m ∈ S) ∧ m ∉ S') h' sh u d S' ∧ S'.Nodup ∧ (∀ m ∈ S', m ∈ S ∨ h.length ≤ m) ∧
    match rk with | .par _ => d' = d | .sh s => RetV s (fun m => (A m ∨ m ∈ S) ∧ m ∉ S') h.length h' r d' | .any => True
def funP (fl : Bool) (p ar n : Nat) (f : FS) (ts : List T) : Option T := if ts.length = ar then (f (ts.map some ++ List.replicate (n - ts.length) none)).bind fun o => match o with
  | .rt r e => (e.getD p none).map fun u => .tup [r, u]
  | .nx e => if fl then none else (e.getD p none).map fun u => .tup [.non, u]
  | _ => none else none
theorem start_get {xs : List T} {n i : Nat} {t : T} (e : xs[i]? = some t) : (xs.map some ++ List.replicate (n - xs.length) none).getD i none = some t := by
  have l := (List.getElem?_eq_some_iff.mp e).1
  rw [List.getD_eq_getElem?_getD, List.getElem?_append_left (by simpa using l), List.getElem?_map, e]; rfl
theorem start_getD {xs : List D} {n i : Nat} {t : D} (e : xs[i]? = some t) : (xs.map some ++ List.replicate (n - xs.length) none).getD i none = some t := by
  have l := (List.getElem?_eq_some_iff.mp e).1
  rw [List.getD_eq_getElem?_getD, List.getElem?_append_left (by simpa using l), List.getElem?_map, e]; rfl
section
variable {rk : Rk} {sh : Sh} {wr w wn wl : Ws} {b : SM} {sb : FS} {p : Nat}
theorem sfp_def {fl : Bool} {ar n : Nat} (hb : SS rk [(p, sh)] [(p, sh)] b sb wn wl) (hn : fl = true ∨ ((p, sh) ∈ wn ∧ (rk = .any ∨ rk = .sh .s))) (hk : ∀ p', rk = .par p' → p' = p := by intro p' h; first | (cases h; done) | (cases h; rfl)) : SFP p rk sh (runF ar n b) (funP fl p ar n sb) := fun A xs ts h S t d big nA lS ht hd od nd vs v q => by
  unfold funP at q
  by_cases c : ts.length = ar
  · rw [if_pos c] at q
    obtain ⟨o, q1, q⟩ := bind_some q
    have hxl : xs.length = ts.length := by
      have := vs.length
      rwa [List.length_set, List.length_set] at this
    have rel : Rel (fun m => A m ∨ m ∈ S) (fun m => h.length ≤ m ∨ m ∈ S) [(p, sh)] (fun _ => S) (xs.map some ++ List.replicate (n - xs.length) none) h (ts.map some ++ List.replicate (n - ts.length) none) := by
      have hA : ∀ m, A m → Al (fun m => A m ∨ m ∈ S) [(p, sh)] (fun _ => S) m := fun m a => ⟨.inl a, fun _ _ z => nA m z a⟩
      refine ⟨fun m l => .inl (big m l), fun m l => .inl l, fun q hq => ?_, fun q hq q' hq' ne => ?_, fun q hq q' hq' _ => ?_, fun i u hi he => ?_, by simp [hxl]⟩
      · obtain rfl : q = (p, sh) := List.mem_singleton.mp hq
        exact ⟨nd, fun m hm => ⟨.inr hm, .inr hm⟩, t, d, start_get ht, start_getD hd, Od.mono (fun m a _ => hA m a) (KeepIn.refl _ _) _ _ _ _ (KeepS.refl _ _) od⟩
      · rw [List.mem_singleton.mp hq, List.mem_singleton.mp hq'] at ne; exact absurd rfl ne
      · rw [List.mem_singleton.mp hq, List.mem_singleton.mp hq']
      · have np : p ≠ i := hi (p, sh) List.mem_cons_self
        have l : i < ts.length := by
          apply Classical.byContradiction
          intro l
          rw [List.getD_eq_getElem?_getD, List.getElem?_append_right (by simpa using Nat.le_of_not_lt l)] at he
          cases z : (List.replicate (n - ts.length) (none : Option T))[i - (ts.map some).length]? with
          | none => rw [z] at he; cases he
          | some y =>
            rw [z] at he
            have := List.mem_of_getElem? z
            rw [List.mem_replicate] at this
            rw [this.2] at he
            cases he
        have e1 : ts[i]? = some u := by
          rw [start_get (List.getElem?_eq_getElem l)] at he
          rw [List.getElem?_eq_getElem l]; exact he
        obtain ⟨d', d1, d2⟩ := vs.get (i := i) (t := u) (by rw [List.getElem?_set_ne np]; exact e1)
        rw [List.getElem?_set_ne np] at d1
        exact ⟨d', start_getD d1, Val.mono (fun m a _ => hA m a) (KeepIn.refl _ _) _ _ d2⟩
    have P := hb _ _ _ _ h h _ rel (fun m o _ z => z) (Nat.le_refl _) (fun q hq hh => absurd rfl (hh q hq)) o q1
    have fin : ∀ {own' : Ow} {ds' : DSt} {h' : DH} {e' : FSt} {u : T}, Stp (fun m => A m ∨ m ∈ S) (fun m => h.length ≤ m ∨ m ∈ S) h [(p, sh)] [(p, sh)] (fun _ => S) (xs.map some ++ List.replicate (n - xs.length) none) h [(p, sh)] own' ds' h' e' → e'.getD p none = some u →
        ds'.getD p none = some d ∧ h.length ≤ h'.length ∧ (∀ (m : Nat) o, m ∉ S → h[m]? = some o → h'[m]? = some o) ∧ Od (fun m => (A m ∨ m ∈ S) ∧ m ∉ own' p) h' sh u d (own' p) ∧ (own' p).Nodup ∧ (∀ m ∈ own' p, m ∈ S ∨ h.length ≤ m) := by
      intro own' ds' h' e' u s eu
      obtain ⟨b1, b2, t', d', b3, b4, b5⟩ := s.rel.ow (p, sh) List.mem_cons_self
      rw [eu] at b3; cases b3
      have fx : ds'.getD p none = some d := by rw [s.fix (p, sh) List.mem_cons_self]; exact start_getD hd
      have fx' : ds'.getD (p, sh).1 none = some d := fx
      rw [fx'] at b4; cases b4
      refine ⟨fx, s.le, fun m o hm z => s.k0 m o (fun y => ?_) z, Od.mono (fun m a _ => ⟨a.1, a.2 _ List.mem_cons_self⟩) (KeepIn.refl _ _) _ _ _ _ (KeepS.refl _ _) b5, b1, fun m hm => ((b2 m hm).1).symm⟩
      rcases y with y | y
      · have := lt_of_get z; omega
      · exact hm y
    unfold runF runB
    rw [if_pos (by rw [hxl]; exact c)]
    cases o with
    | nx e' =>
      cases fl with
      | true => cases q
      | false =>
        have q : (e'.getD p none).map (fun u => T.tup [.non, u]) = some v := q
        obtain ⟨u, eu, rfl⟩ := map_some q
        obtain ⟨hm, hr⟩ := hn.resolve_left (by decide)
        obtain ⟨ds', h', own', e1, s⟩ := P
        rw [e1]
        have s' := s.weak (wn' := [(p, sh)]) (fun q hq => by rw [List.mem_singleton.mp hq]; exact hm)
        obtain ⟨f0, f1, f2, f3, f4, f5⟩ := fin s' eu
        refine ⟨.non, u, rfl, f1, f2, own' p, f3, f4, f5, ?_⟩
        rcases hr with rfl | rfl
        · trivial
        · exact ret_s.mpr (val_non.mpr rfl)
    | rt r e' =>
      have q : (e'.getD p none).map (fun u => T.tup [r, u]) = some v := q
      obtain ⟨u, eu, rfl⟩ := map_some q
      obtain ⟨d', ds', h', own', e1, s, v1⟩ := P
      rw [e1]
      obtain ⟨f0, f1, f2, f3, f4, f5⟩ := fin s eu
      refine ⟨r, u, rfl, f1, f2, own' p, f3, f4, f5, ?_⟩
      cases rk with
      | par p' =>
        have e2 := hk p' rfl
        subst e2
        have v1 : ds'.getD p' none = some d' := v1
        rw [f0] at v1
        cases v1
        rfl
      | any => trivial
      | sh s0 => exact RetV.sub v1 fun m a _ => ⟨a.1, a.2 _ List.mem_cons_self⟩
    | _ => cases q
  · rw [if_neg c] at q; cases q
end
/-! ### calls -/
section
variable {rk rs : Rk} {sh : Sh} {wr w wn wl : Ws} {A X : Nat → Prop} {h0 h h1 h' : DH} {own : Ow} {ds : DSt} {e : FSt} {i j p : Nat}
variable {m ma : EM} {f fa : FE} {mr : AM} {fr : FA} {F : List D → DH → Res D} {G : List T → Option T}
/-- arguments, slot i at place p -/
def SAh (w : Ws) (i p : Nat) (m : AM) (f : FA) : Prop := ∀ A X own ds h e, Rel A X w own ds h e → ∀ d0, ds.getD i none = some d0 → ∀ ts, f e = some ts → SatE (m ds h) fun xs h' => Keep h h' ∧ xs[p]? = some d0 ∧ p < ts.length ∧ Vals (Al A w own) h' (ts.set p .non) (xs.set p .non)
theorem sah_here (hr : SA w mr fr) : SAh w i 0 (aCons (mVar i) mr) (fCons (fC .non) fr) := fun A X own ds h e r d0 hd ts q => by
  obtain ⟨x, q1, q⟩ := bind_some q
  obtain ⟨us, q2, q⟩ := bind_some q
  cases q
  cases q1
  unfold aCons mVar
  rw [hd]
  show SatE ((mr ds h).bind fun xs h1 => .ok (d0 :: xs) h1) _
  rw [satE_bind]
  exact (hr A X own ds h e r us q2).imp fun xs h1 ⟨k1, v1⟩ => ⟨k1, rfl, Nat.succ_pos _, Vals.cons (val_non.mpr rfl) v1⟩
theorem sah_there (ha : SE w ma fa) (hr : SAh w i p mr fr) : SAh w i (p + 1) (aCons ma mr) (fCons fa fr) := fun A X own ds h e r d0 hd ts q => by
  obtain ⟨x, q1, q⟩ := bind_some q
  obtain ⟨us, q2, q⟩ := bind_some q
  cases q
  unfold aCons
  rw [satE_bind]
  refine (ha A X own ds h e r x q1).imp fun d h1 ⟨k1, v1⟩ => ?_
  rw [satE_bind]
  exact (hr A X own ds h1 e (r.keep k1) d0 hd us q2).imp fun xs h2 ⟨k2, a1, a2, v2⟩ => ⟨k1.trans k2, a1, Nat.succ_lt_succ a2, Vals.cons (v1.keep k2) v2⟩
def fCallP (G : List T → Option T) (i p : Nat) (fa : FA) : FS := fun e => (fa e).bind fun ts => (e.getD i none).bind fun t => (G (ts.set p t)).bind fun v => match v with | .tup [_, u] => some (.nx (e.set i (some u))) | _ => none
theorem callP_core (hF : SFP p rk sh F G) (hi : (i, sh) ∈ w) (ha : SAh w i p mr fr) (r : Rel A X w own ds h e) (k0 : KeepX X h0 h) (hl : h0.length ≤ h.length) (nw : Nw wr w own h0.length) {ts : List T} {t v : T} (q1 : fr e = some ts) (q2 : e.getD i none = some t) (q3 : G (ts.set p t) = some v) :
    ∃ r0 u d' h' S' d, v = .tup [r0, u] ∧ mCB F mr ds h = .ok d' h' ∧ ds.getD i none = some d ∧ (match rk with | .par _ => d' = d | _ => True) ∧ Stp A X h0 wr w own ds h w (fun k => if k = i then S' else own k) ds h' (e.set i (some u)) := by
  obtain ⟨nd, a1, t0, d, a2, a3, a4⟩ := r.ow _ hi
  rw [q2] at a2; cases a2
  obtain ⟨xs, h1, e1, k1, x1, pl, vs⟩ := (ha A X own ds h e r d a3 ts q1).eq
  have r1 := r.keep k1
  obtain ⟨_, _, t1, d1, b2, b3, b4⟩ := r1.ow _ hi
  have q2' : e.getD (i, sh).1 none = some t := q2
  rw [q2'] at b2; cases b2
  rw [a3] at b3; cases b3
  obtain ⟨r0, u, rfl, s⟩ := hF (Al A w own) xs (ts.set p t) h1 (own i) t d r1.bigAl (fun m hm z => z.2 _ hi hm) (fun m hm => Od.lt _ _ _ _ b4 m hm) (by rw [List.getElem?_set_self pl]) x1 b4 nd (by rw [List.set_set]; exact vs) v q3
  obtain ⟨d', h2, e2, l2, k2, S', o, nd', hS, rr⟩ := s.eq
  have kA : KeepIn (Al A w own) h1 h2 := fun m o am q => k2 m o (fun z => am.2 _ hi z) q
  have rel := r1.storeG (t' := u) (S' := S') hi a3 kA (fun q hq ne m hm o z => k2 m o (fun y => r.dj q hq _ hi ne m hm y) z) l2 nd' hS o
  refine ⟨r0, u, d', h2, S', d, rfl, ?_, a3, ?_, ⟨rel, fun m o nX z => k2 m o (fun y => nX (a1 m y).1) (k1 m o (k0 m o nX z)), fun m o am q => kA m o am (k1 m o q), fun q hq m hm => ?_, Nat.le_trans k1.len l2, fun q hq hh m hm => ?_, fun _ _ => rfl⟩⟩
  · unfold mCB; rw [e1]; exact e2
  · cases rk with
    | par p' => exact rr
    | _ => trivial
  · replace hm : m ∈ (if q.1 = i then S' else own q.1) := hm
    by_cases c : q.1 = i
    · rw [if_pos c] at hm
      rcases hS m hm with z | z
      · exact .inr ⟨_, hi, z⟩
      · exact .inl (Nat.le_trans k1.len z)
    · rw [if_neg c] at hm; exact .inr ⟨q, hq, hm⟩
  · replace hm : m ∈ (if q.1 = i then S' else own q.1) := hm
    by_cases c : q.1 = i
    · rw [if_pos c] at hm
      rcases hS m hm with z | z
      · exact nw _ hi (fun q' hq' z' => hh q' hq' (z'.trans c.symm)) m z
      · exact Nat.le_trans hl (Nat.le_trans k1.len z)
    · rw [if_neg c] at hm; exact nw q hq hh m hm
/-- f(.., x, ..) for what it does to x -/
theorem ss_callP (hF : SFP p rk sh F G) (hi : (i, sh) ∈ w) (ha : SAh w i p mr fr) : SS rs wr w (sDrop (mCB F mr)) (fCallP G i p fr) w wl := fun A X own ds h0 h e r k l n o q => by
  obtain ⟨ts, q1, q⟩ := bind_some q
  obtain ⟨t, q2, q⟩ := bind_some q
  obtain ⟨v, q3, q⟩ := bind_some q
  obtain ⟨r0, u, d', h', S', d, rfl, e1, _, _, s⟩ := callP_core hF hi ha r k l n q1 q2 q3
  cases q
  exact ⟨ds, h', _, by unfold sDrop; rw [e1]; rfl, s⟩
def fMvP (G : List T → Option T) (i p : Nat) (fa : FA) (j : Nat) : FS := fun e => (fa e).bind fun ts => (e.getD i none).bind fun t => (G (ts.set p t)).bind fun v => match v with | .tup [_, u] => (if j < e.length then some (.nx ((e.set i none).set j (some u))) else none) | _ => none
/-- y = f(.., x, ..), where f hands x back; x is not asked for again -/
theorem ss_mvP {p' : Nat} (hF : SFP p (.par p') sh F G) (hi : (i, sh) ∈ w) (ha : SAh w i p mr fr) (hj : ∀ p ∈ w, p.1 ≠ j) (hf : ∀ p ∈ wr, p.1 ≠ j) (hwi : ∀ p ∈ wr, p.1 ≠ i) (hw : ∀ q ∈ wn, q = (j, sh) ∨ (q ∈ w ∧ q.1 ≠ i)) : SS rs wr w (sAsg (mCB F mr) (gNm j)) (fMvP G i p fr j) wn wl := fun A X own ds h0 h e r k l n o q => by
  obtain ⟨ts, q1, q⟩ := bind_some q
  obtain ⟨t, q2, q⟩ := bind_some q
  obtain ⟨v, q3, q⟩ := bind_some q
  obtain ⟨r0, u, d', h', S', d, rfl, e1, e2, e3, s⟩ := callP_core hF hi ha r k l n q1 q2 q3
  obtain ⟨jl, rfl⟩ := ite_some q
  subst e3
  have il := lt_of_getD q2
  have mv := s.rel.move (w' := wn) (j := j) hi hj (getD_set_eq il) e2 (by rw [List.length_set]; exact jl) hw
  rw [List.set_set] at mv
  have nij : i ≠ j := hj _ hi
  refine ⟨ds.set j (some d'), h', _, by unfold sAsg; rw [e1]; rfl, mv, s.k0, s.kin, fun q hq m hm => ?_, s.le, fun q hq hh m hm => ?_, fun q hq => getD_set_ne (Ne.symm (hf q hq))⟩
  · replace hm : m ∈ (if q.1 = j then (if i = i then S' else own i) else if q.1 = i then S' else own q.1) := hm
    rcases hw q hq with rfl | ⟨z, z2⟩
    · rw [if_pos rfl] at hm; exact s.fresh _ hi m hm
    · rw [if_neg (hj q z)] at hm; exact s.fresh q z m hm
  · replace hm : m ∈ (if q.1 = j then (if i = i then S' else own i) else if q.1 = i then S' else own q.1) := hm
    rcases hw q hq with rfl | ⟨z, z2⟩
    · rw [if_pos rfl] at hm; exact s.nw _ hi (fun q' hq' z' => hwi q' hq' z') m hm
    · rw [if_neg (hj q z)] at hm; exact s.nw q z hh m hm
/-- arguments, the last one new -/
def SAx (w : Ws) (sh : Sh) (p : Nat) (m : AM) (f : FA) : Prop := ∀ A X own ds h e, Rel A X w own ds h e → ∀ ts, f e = some ts → SatE (m ds h) fun xs h' => Keep h h' ∧ ∃ S t d, ts[p]? = some t ∧ xs[p]? = some d ∧ Od (fun m => Al A w own m ∧ m ∉ S) h' sh t d S ∧ S.Nodup ∧ (∀ x ∈ S, h.length ≤ x) ∧ Vals (fun m => Al A w own m ∧ m ∉ S) h' (ts.set p .non) (xs.set p .non)
theorem sax_last (ha : SX w sh ma fa) : SAx w sh 0 (aCons ma aNil) (fCons fa fNil) := fun A X own ds h e r ts q => by
  obtain ⟨x, q1, q⟩ := bind_some q
  obtain ⟨us, q2, q⟩ := bind_some q
  cases q
  cases q2
  unfold aCons
  rw [satE_bind]
  refine (ha A X own ds h e r x q1).imp fun d h1 ⟨k1, S, o, nd, bS⟩ => ?_
  exact ⟨k1, S, x, d, rfl, rfl, o, nd, bS, Vals.cons (val_non.mpr rfl) Vals.nil⟩
theorem sax_there (ha : SE w ma fa) (hr : SAx w sh p mr fr) : SAx w sh (p + 1) (aCons ma mr) (fCons fa fr) := fun A X own ds h e r ts q => by
  obtain ⟨x, q1, q⟩ := bind_some q
  obtain ⟨us, q2, q⟩ := bind_some q
  cases q
  unfold aCons
  rw [satE_bind]
  refine (ha A X own ds h e r x q1).imp fun d h1 ⟨k1, v1⟩ => ?_
  rw [satE_bind]
  refine (hr A X own ds h1 e (r.keep k1) us q2).imp fun xs h2 ⟨k2, S, t, d0, a1, a2, o, nd, bS, vs⟩ => ?_
  exact ⟨k1.trans k2, S, t, d0, a1, a2, o, nd, fun x hx => Nat.le_trans k1.len (bS x hx), Vals.cons (Val.mono (fun m a l => ⟨a, fun z => by have := bS m z; omega⟩) (k2.kin _) _ _ v1) vs⟩
def fCBP (G : List T → Option T) (fa : FA) : FE := fun e => (fa e).bind fun ts => (G ts).bind fun v => match v with | .tup [_, u] => some u | _ => none
theorem sx_callP {p' : Nat} (hF : SFP p (.par p') sh F G) (ha : SAx w sh p mr fr) : SX w sh (mCB F mr) (fCBP G fr) := fun A X own ds h e r t q => by
  obtain ⟨ts, q1, q⟩ := bind_some q
  obtain ⟨v, q2, q⟩ := bind_some q
  rw [w_cb]
  refine (ha A X own ds h e r ts q1).imp fun xs h1 ⟨k1, S, t0, d, a1, a2, o, nd, bS, vs⟩ => ?_
  have r1 := r.keep k1
  obtain ⟨r0, u, rfl, s⟩ := hF (fun m => Al A w own m ∧ m ∉ S) xs ts h1 S t0 d (fun m l => ⟨r1.bigAl m l, fun z => by have := Od.lt _ _ _ _ o m z; omega⟩) (fun m hm z => z.2 hm) (fun m hm => Od.lt _ _ _ _ o m hm) a1 a2 o nd vs v q2
  have q : some u = some t := q
  cases q
  refine s.imp fun d' h2 ⟨l2, k2, S', o2, nd2, hS, rr⟩ => ⟨fun m ob z => k2 m ob (fun y => by have := bS m y; have := lt_of_get z; omega) (k1 m ob z), S', ?_, nd2, fun x hx => ?_⟩
  · have rr : d' = d := rr
    rw [rr]
    refine Od.mono (fun m a _ => ⟨?_, a.2⟩) (KeepIn.refl _ _) _ _ _ _ (KeepS.refl _ _) o2
    rcases a.1 with z | z
    · exact z.1
    · exact r.bigAl m (bS m z)
  · rcases hS x hx with z | z
    · exact bS x z
    · exact Nat.le_trans k1.len z
end
/-! ### what they ask -/
section
variable {e : FSt} {N C B : FSt → Prop} {R PT : T → Prop} {PL : List T → Prop}
def asP (v : T) (P : T → Prop) : Prop := match v with | .tup [_, u] => P u | _ => False
theorem asP_mk {r u : T} {P : T → Prop} : asP (.tup [r, u]) P ↔ P u := Iff.rfl
theorem s_callP {G : List T → Option T} {i p : Nat} {a : FA} : Sk (fCallP G i p a e) N C B R ↔ Ok (a e) fun ts => Ok (e.getD i none) fun t => Ok (G (ts.set p t)) fun v => asP v fun u => N (e.set i (some u)) := by
  unfold fCallP
  rw [sk_bind]
  refine iff_of_eq (congrArg _ (funext fun ts => ?_))
  refine propext ?_
  rw [sk_bind]
  refine iff_of_eq (congrArg _ (funext fun t => ?_))
  refine propext ?_
  rw [sk_bind]
  refine iff_of_eq (congrArg _ (funext fun v => ?_))
  unfold asP
  split <;> rfl
theorem s_mvP {G : List T → Option T} {i p j : Nat} {a : FA} : Sk (fMvP G i p a j e) N C B R ↔ Ok (a e) fun ts => Ok (e.getD i none) fun t => Ok (G (ts.set p t)) fun v => asP v fun u => j < e.length ∧ N ((e.set i none).set j (some u)) := by
  unfold fMvP
  rw [sk_bind]
  refine iff_of_eq (congrArg _ (funext fun ts => ?_))
  refine propext ?_
  rw [sk_bind]
  refine iff_of_eq (congrArg _ (funext fun t => ?_))
  refine propext ?_
  rw [sk_bind]
  refine iff_of_eq (congrArg _ (funext fun v => ?_))
  unfold asP
  split
  · refine propext ?_
    by_cases c : j < e.length
    · simp only [if_pos c, c, true_and]; exact Iff.rfl
    · simp only [if_neg c, c, false_and]; exact Iff.rfl
  · rfl
theorem k_cbP {G : List T → Option T} {a : FA} : Ok (fCBP G a e) PT ↔ Ok (a e) fun ts => Ok (G ts) fun v => asP v PT := by
  unfold fCBP
  rw [ok_bind]
  refine iff_of_eq (congrArg _ (funext fun ts => ?_))
  refine propext ?_
  rw [ok_bind]
  refine iff_of_eq (congrArg _ (funext fun v => ?_))
  unfold asP
  split <;> rfl
/-- a def that changes a parameter: what its value is behind a return stands in the slots -/
def SkP (o : Option FR) (N : FSt → Prop) (R : T → FSt → Prop) : Prop := match o with | some (.nx e) => N e | some (.rt t e) => R t e | _ => False
theorem k_funP {fl : Bool} {p ar n : Nat} {f : FS} {xs : List T} (hl : xs.length = ar) (s : SkP (f (xs.map some ++ List.replicate (n - xs.length) none)) (fun e => fl = false ∧ Ok (e.getD p none) fun u => PT (.tup [.non, u])) (fun r e => Ok (e.getD p none) fun u => PT (.tup [r, u]))) : Ok (funP fl p ar n f xs) PT := by
  unfold funP
  rw [if_pos hl, ok_bind]
  cases q : f (xs.map some ++ List.replicate (n - xs.length) none) with
  | none => rw [q] at s; exact s.elim
  | some o =>
    rw [q] at s
    cases o with
    | nx e' =>
      obtain ⟨rfl, s⟩ := s
      exact ok_map.mpr s
    | rt t e' => exact ok_map.mpr s
    | _ => exact s.elim
/-- a last statement that returns -/
theorem sp_seq {a b : FS} {N : FSt → Prop} {R : T → FSt → Prop} (Mid : FSt → Prop) (s : Sk (a e) Mid (fun _ => False) (fun _ => False) (fun _ => False)) (k : ∀ e', Mid e' → SkP (b e') N R) : SkP (fSeqS a b e) N R := by
  unfold fSeqS
  cases q : a e with
  | none => rw [q] at s; exact s.elim
  | some o =>
    rw [q] at s
    cases o with
    | nx e' => exact k e' s
    | _ => exact s.elim
theorem sp_ret {a : FE} {N : FSt → Prop} {R : T → FSt → Prop} : SkP (fRet a e) N R ↔ Ok (a e) fun t => R t e := by
  unfold fRet; cases a e <;> exact Iff.rfl
theorem sp_of {a : FS} {N : FSt → Prop} {R : T → FSt → Prop} (s : Sk (a e) N (fun _ => False) (fun _ => False) (fun _ => False)) : SkP (a e) N R := by
  cases q : a e with
  | none => rw [q] at s; exact s.elim
  | some o =>
    rw [q] at s
    cases o with
    | nx e' => exact s
    | _ => exact s.elim
theorem k_lcP {fi : FI} {g : PTg} {ft : FT} {fe : FE} {vs : List Nat} : Ok (fLcP fi g ft fe vs e) PT ↔ Ok (fi e) fun ts => ts.length ≤ 16777216 ∧ Ok (lcTP g ft fe (wipeT e vs) ts) fun us => PT (.lst us) := by
  unfold fLcP; simp only [ok_bind, ok_ite, ok_map]
theorem k_en {a : FE} : Ok (fEn a e) PL ↔ Ok (a e) fun t => Ok (lstO t) fun ts => PL (enT 0 ts) := by unfold fEn; simp only [ok_bind, ok_map]
theorem k_rv {a : FE} : Ok (fRv a e) PL ↔ Ok (a e) fun t => Ok (lstO t) fun ts => PL ts.reverse := by unfold fRv; simp only [ok_bind, ok_map]
theorem k_zp {a b : FE} : Ok (fZp a b e) PL ↔ Ok (a e) fun t => Ok (b e) fun u => Ok (lstO t) fun xs => Ok (lstO u) fun ys => PL (zpT xs ys) := by unfold fZp; simp only [ok_bind, ok_map]
theorem lstO_l {xs : List T} : lstO (.lst xs) = some xs := rfl
theorem lstO_f {xs : List T} : lstO (.fro xs) = some xs := rfl
theorem bOpT_bb {g : Bool → Bool → Bool} {p q : Bool} : bOpT g (.bl p) (.bl q) = some (.bl (g p q)) := rfl
theorem allT_l {f : List Bool → Bool} {bs : List Bool} : allT f [.lst (bs.map T.bl)] = some (.bl (f bs)) := by unfold allT; simp only [lstO, Option.bind, blsT_map, Option.map_some]
def asO (c : Nat) (t : T) (P : List (Str × T) → Prop) : Prop := match t with | .obj c' fs => c' = c ∧ P fs | _ => False
theorem asO_obj {c c' : Nat} {fs : List (Str × T)} {P : List (Str × T) → Prop} : asO c (.obj c' fs) P ↔ c' = c ∧ P fs := Iff.rfl
theorem k_fld {c : Nat} {z : Str} {a : FE} : Ok (fFldC c z a e) PT ↔ Ok (a e) fun t => asO c t fun fs => Ok (fs.lookup z) PT := by
  unfold fFldC
  rw [ok_bind]
  refine iff_of_eq (congrArg _ (funext fun t => ?_))
  unfold asO
  cases t with
  | obj c' fs =>
    refine propext ?_
    by_cases c1 : c' = c
    · simp only [c1, if_true, true_and]
    · simp only [c1, if_false, false_and]; exact Iff.rfl
  | _ => rfl
end
/-! ### owned things that move into what is returned -/
section
variable {rs : Rk} {sh : Sh} {wr w wn wl : Ws} {i : Nat} {is : List Nat} {es : List Sh} {ma : EM} {fa : FE} {mr : AM} {fr : FA}
def SXM (w : Ws) (is : List Nat) (es : List Sh) (m : AM) (f : FA) : Prop := (∀ i ∈ is, ∃ p ∈ w, p.1 = i) ∧ ∀ A X own ds h e, Rel A X w own ds h e → ∀ t, f e = some t → SatE (m ds h) fun d h' => Keep h h' ∧ ∃ S, OdT (fun m => Al A w own m ∧ m ∉ S) h' es t d S ∧ S.Nodup ∧ ∀ x ∈ S, (∃ i ∈ is, x ∈ own i) ∨ h.length ≤ x
theorem sxm_base (hr : SXA w es mr fr) : SXM w [] es mr fr := ⟨fun _ z => (nomatch z), fun A X own ds h e r t q => (hr A X own ds h e r t q).imp fun d h' ⟨k, S, o, nd, b⟩ => ⟨k, S, o, nd, fun x hx => .inr (b x hx)⟩⟩
theorem sxm_there (ha : SX w sh ma fa) (hr : SXM w is es mr fr) : SXM w is (sh :: es) (aCons ma mr) (fCons fa fr) := ⟨hr.1, fun A X own ds h e r t q => by
  obtain ⟨x, q1, q⟩ := bind_some q
  obtain ⟨xs, q2, q⟩ := bind_some q
  cases q
  rw [w_cons]
  refine (ha A X own ds h e r x q1).imp fun dx h1 ⟨k1, S1, o1, n1, b1⟩ => ?_
  have l1 : ∀ m ∈ S1, m < h1.length := Od.lt _ _ _ _ o1
  have r1 := r.avoid S1 b1 k1 l1
  have dj : ∀ m ∈ S1, ¬ ∃ i ∈ is, m ∈ own i := fun m hm ⟨i, hi, z⟩ => by
    obtain ⟨p, hp, rfl⟩ := hr.1 i hi
    have := r.ltO hp m z
    have := b1 m hm
    omega
  refine (hr.2 _ X own ds h1 e r1 xs q2).imp fun dy h2 ⟨k2, S2, o2, n2, b2⟩ => ⟨k1.trans k2, S1 ++ S2, ?_, ?_, fun m hm => ?_⟩
  · simp only [OdT]
    refine ⟨x, xs, dx, dy, S1, S2, rfl, rfl, rfl, Od.mono (fun m a l => ⟨a.1, fun z => ?_⟩) (k2.kin _) _ _ _ _ (k2.kS _) o1, OdT.mono (fun m a _ => ⟨⟨a.1.1.1, a.1.2⟩, fun z => ?_⟩) (KeepIn.refl _ _) _ _ _ _ (KeepS.refl _ _) o2⟩
    · rcases List.mem_append.mp z with y | y
      · exact a.2 y
      · rcases b2 m y with ⟨i, hi, y⟩ | y
        · obtain ⟨p, hp, rfl⟩ := hr.1 i hi
          exact a.1.2 p hp y
        · omega
    · rcases List.mem_append.mp z with y | y
      · exact a.1.1.2 y
      · exact a.2 y
  · rw [List.nodup_append]
    refine ⟨n1, n2, fun a ha b hb z => ?_⟩
    subst z
    rcases b2 a hb with y | y
    · exact dj a ha y
    · have := l1 a ha; omega
  · rcases List.mem_append.mp hm with y | y
    · exact .inr (b1 m y)
    · rcases b2 m y with y | y
      · exact .inl y
      · exact .inr (Nat.le_trans k1.len y)⟩
theorem sxm_here (hi : (i, sh) ∈ w) (hn : i ∉ is) (hr : SXM w is es mr fr) : SXM w (i :: is) (sh :: es) (aCons (mVar i) mr) (fCons (fVar i) fr) := ⟨fun j hj => by
    rcases List.mem_cons.mp hj with rfl | hj
    · exact ⟨_, hi, rfl⟩
    · exact hr.1 j hj, fun A X own ds h e r t q => by
  obtain ⟨x, q1, q⟩ := bind_some q
  obtain ⟨xs, q2, q⟩ := bind_some q
  cases q
  obtain ⟨nd, a1, v, d, a2, a3, a4⟩ := r.ow _ hi
  have q1 : e.getD i none = some x := q1
  rw [a2] at q1
  cases q1
  unfold aCons mVar
  rw [a3]
  show SatE ((mr ds h).bind fun xs h1 => .ok (d :: xs) h1) _
  rw [satE_bind]
  have dj : ∀ m ∈ own i, ¬ ∃ j ∈ is, m ∈ own j := fun m hm ⟨j, hj, z⟩ => by
    obtain ⟨p, hp, rfl⟩ := hr.1 j hj
    exact r.dj _ hi p hp (fun y => hn (by rw [show i = p.1 from y]; exact hj)) m hm z
  refine (hr.2 _ X own ds h e r xs q2).imp fun dy h2 ⟨k2, S2, o2, n2, b2⟩ => ⟨k2, own i ++ S2, ?_, ?_, fun m hm => ?_⟩
  · simp only [OdT]
    refine ⟨_, xs, d, dy, own i, S2, rfl, rfl, rfl, Od.mono (fun m a l => ⟨a, fun z => ?_⟩) (k2.kin _) _ _ _ _ (k2.kS _) a4, OdT.mono (fun m a _ => ⟨a.1, fun z => ?_⟩) (KeepIn.refl _ _) _ _ _ _ (KeepS.refl _ _) o2⟩
    · rcases List.mem_append.mp z with y | y
      · exact a.2 _ hi y
      · rcases b2 m y with ⟨j, hj, y⟩ | y
        · obtain ⟨p, hp, rfl⟩ := hr.1 j hj
          exact a.2 p hp y
        · omega
    · rcases List.mem_append.mp z with y | y
      · exact a.1.2 _ hi y
      · exact a.2 y
  · rw [List.nodup_append]
    refine ⟨nd, n2, fun a ha b hb z => ?_⟩
    subst z
    rcases b2 a hb with y | y
    · exact dj a ha y
    · have := r.ltO hi a ha; omega
  · rcases List.mem_append.mp hm with y | y
    · exact .inl ⟨i, List.mem_cons_self, y⟩
    · rcases b2 m y with ⟨j, hj, y⟩ | y
      · exact .inl ⟨j, List.mem_cons_of_mem _ hj, y⟩
      · exact .inr y⟩
theorem ss_retMt (hr : SXM w is es mr fr) (hf : ∀ i ∈ is, ∀ q ∈ wr, q.1 ≠ i) (hw : ∀ p ∈ wr, p ∈ w) : SS (.sh (.t es)) wr w (sRet (mTup mr)) (fRet (fTup fr)) wn wl := fun A X own ds h0 h e r k l n o q => by
  obtain ⟨u, q1, rfl⟩ := map_some q
  obtain ⟨xs, q2, q⟩ := bind_some q1
  obtain ⟨ll, rfl⟩ := ite_some q
  have s : SatE (mTup mr ds h) fun d h' => Keep h h' ∧ ∃ S, Od (fun m => Al A w own m ∧ m ∉ S) h' (.t es) (.tup xs) d S ∧ S.Nodup ∧ ∀ x ∈ S, (∃ i ∈ is, x ∈ own i) ∨ h.length ≤ x := by
    rw [w_tup]
    exact (hr.2 A X own ds h e r xs q2).imp fun dx h1 ⟨k1, S, o, nd, hS⟩ => ⟨by rw [odT_len o]; exact ll, k1, S, by simp only [Od]; exact ⟨_, _, rfl, rfl, o⟩, nd, hS⟩
  obtain ⟨d, h1, e1, k1, S, o1, nd, bS⟩ := s.eq
  refine ⟨d, ds, h1, own, ?_, ((Stp.refl (r.keep k1) (k.keep k1) n).pre k1).weak hw, S, Od.mono (fun m z _ => ⟨⟨z.1.1, fun p hp => z.1.2 p (hw p hp)⟩, z.2⟩) (KeepIn.refl _ _) _ _ _ _ (KeepS.refl _ _) o1, nd, fun x hx => ?_⟩
  · unfold sRet; rw [e1]; rfl
  · rcases bS x hx with ⟨i, hi, y⟩ | y
    · obtain ⟨p, hp, rfl⟩ := hr.1 i hi
      exact n p hp (hf _ hi) x y
    · exact Nat.le_trans l y
theorem ss_retMl (hr : SXM w is es mr fr) (he : ∀ x ∈ es, x = sh) (hf : ∀ i ∈ is, ∀ q ∈ wr, q.1 ≠ i) (hw : ∀ p ∈ wr, p ∈ w) : SS (.sh (.l sh)) wr w (sRet (mLst mr)) (fRet (fLst fr)) wn wl := fun A X own ds h0 h e r k l n o q => by
  obtain ⟨u, q1, rfl⟩ := map_some q
  obtain ⟨xs, q2, q⟩ := bind_some q1
  obtain ⟨ll, rfl⟩ := ite_some q
  have s : SatE (mLst mr ds h) fun d h' => Keep h h' ∧ ∃ S, Od (fun m => Al A w own m ∧ m ∉ S) h' (.l sh) (.lst xs) d S ∧ S.Nodup ∧ ∀ x ∈ S, (∃ i ∈ is, x ∈ own i) ∨ h.length ≤ x := by
    rw [w_lst]
    refine (hr.2 A X own ds h e r xs q2).imp fun dx h1 ⟨k1, S, o, nd, hS⟩ => ⟨by rw [odT_len o]; exact ll, k1.trans (Keep.app _ _), h1.length :: S, ?_, ?_, fun m hm => ?_⟩
    · have lt := OdT.lt _ _ _ _ o
      simp only [Od]
      refine ⟨_, h1.length, dx, S, rfl, rfl, rfl, get_last _ _, odT_l he (OdT.mono (fun m a l => ⟨a.1, fun z => ?_⟩) ((Keep.app h1 _).kin _) _ _ _ _ ((Keep.app h1 _).kS _) o)⟩
      rcases List.mem_cons.mp z with y | y
      · omega
      · exact a.2 y
    · rw [List.nodup_cons]
      exact ⟨fun z => by have := OdT.lt _ _ _ _ o _ z; omega, nd⟩
    · rcases List.mem_cons.mp hm with y | y
      · rw [y]; exact .inr k1.len
      · exact hS m y
  obtain ⟨d, h1, e1, k1, S, o1, nd, bS⟩ := s.eq
  refine ⟨d, ds, h1, own, ?_, ((Stp.refl (r.keep k1) (k.keep k1) n).pre k1).weak hw, S, Od.mono (fun m z _ => ⟨⟨z.1.1, fun p hp => z.1.2 p (hw p hp)⟩, z.2⟩) (KeepIn.refl _ _) _ _ _ _ (KeepS.refl _ _) o1, nd, fun x hx => ?_⟩
  · unfold sRet; rw [e1]; rfl
  · rcases bS x hx with ⟨i, hi, y⟩ | y
    · obtain ⟨p, hp, rfl⟩ := hr.1 i hi
      exact n p hp (hf _ hi) x y
    · exact Nat.le_trans l y
end
end Fu
/-! in and index over plain values -/
namespace Fu
open PySem L2 Mi
theorem py_list {b : Bool} {k : Nat} {ys : List T} (h : ∀ y ∈ ys, Py b k y) : Py b (k + 1) (.lst ys) := .lst h
theorem deepIn_py {b : Bool} {j k : Nat} {x : T} {ys : List T} (h1 : Py b j x) (h2 : ∀ y ∈ ys, Py b k y) (l1 : j ≤ 64) (l2 : k < 64) : deepInT x (.lst ys) = some ((ys.map fun y => pyU y).any fun z => PyData.eqv z (pyU x)) := by
  unfold deepInT
  rw [py_U h1 (show j ≤ 70 by omega), py_U (py_list h2) (show k + 1 ≤ 70 by omega)]
  have s2 := py_shaped (py_list h2) (show k + 1 ≤ 64 by omega)
  simp only [pyU] at s2 ⊢
  simp only [py_shaped h1 l1, s2, Bool.and_self, if_true]
theorem any_py {j k : Nat} {x : T} {ys : List T} (h1 : Py false j x) (h2 : ∀ y ∈ ys, Py false k y) : ((ys.map fun y => pyU y).any fun z => PyData.eqv z (pyU x)) = true ↔ x ∈ ys := by
  rw [List.any_map, List.any_eq_true]
  constructor
  · rintro ⟨y, m, e⟩
    rw [← (eqv_py (h2 y m) h1).mp e]; exact m
  · intro m
    exact ⟨x, m, (eqv_py h1 h1).mpr rfl⟩
/-- a tuple in a list of plain values -/
theorem mem_py {neg : Bool} {j k : Nat} {xs ys : List T} (h1 : Py false j (.tup xs)) (h2 : ∀ y ∈ ys, Py false k y) (l1 : j ≤ 64) (l2 : k < 64) : ∃ r : Bool, memDT neg (.tup xs) (.lst ys) = some (.bl (if neg then !r else r)) ∧ (r = true ↔ T.tup xs ∈ ys) := by
  have e := deepIn_py h1 h2 l1 l2
  refine ⟨_, ?_, any_py h1 h2⟩
  unfold memDT flatInT
  simp only [itemsT, flatT, Bool.false_and, Bool.false_eq_true, if_false, e, Option.map_some]
theorem ok_mem {neg : Bool} {j k : Nat} {xs ys : List T} {P : T → Prop} (h1 : Py false j (.tup xs)) (h2 : ∀ y ∈ ys, Py false k y) (l1 : j ≤ 64) (l2 : k < 64) (p : ∀ r : Bool, (r = true ↔ T.tup xs ∈ ys) → P (.bl (if neg then !r else r))) : Ok (memDT neg (.tup xs) (.lst ys)) P := by
  obtain ⟨r, q, e⟩ := mem_py (neg := neg) h1 h2 l1 l2
  rw [q]; exact p r e
theorem eqFT_ss {a b : Str} : eqFT (.str a) (.str b) = decide (a = b) := by
  unfold eqFT
  apply Bool.eq_iff_iff.mpr
  rw [beq_iff_eq, decide_eq_true_iff]
/-- a text in a list of texts -/
theorem mem_strs {neg : Bool} {w : Str} {zs : List Str} : memDT neg (.str w) (.lst (zs.map T.str)) = some (.bl (if neg then !decide (w ∈ zs) else decide (w ∈ zs))) := by
  have ha : (zs.map T.str).all flatT = true := by
    rw [List.all_eq_true]; intro x hx; obtain ⟨z, _, rfl⟩ := List.mem_map.mp hx; rfl
  have hb : ((zs.map T.str).any fun z => eqFT z (.str w)) = decide (w ∈ zs) := by
    rw [List.any_map]
    apply Bool.eq_iff_iff.mpr
    rw [List.any_eq_true, decide_eq_true_iff]
    constructor
    · rintro ⟨z, m, e⟩
      have : decide (z = w) = true := by rw [← eqFT_ss]; exact e
      rw [← of_decide_eq_true this]; exact m
    · intro m; exact ⟨w, m, by show eqFT (.str w) (.str w) = true; rw [eqFT_ss]; simp⟩
  unfold memDT flatInT
  simp only [itemsT, ha, flatT, Bool.and_self, if_true, hb]
/-- a number in a list of numbers -/
theorem mem_ints {neg : Bool} {w : Int} {zs : List Int} : memDT neg (.int w) (.lst (zs.map T.int)) = some (.bl (if neg then !decide (w ∈ zs) else decide (w ∈ zs))) := by
  have ha : (zs.map T.int).all flatT = true := by
    rw [List.all_eq_true]; intro x hx; obtain ⟨z, _, rfl⟩ := List.mem_map.mp hx; rfl
  have hb : ((zs.map T.int).any fun z => eqFT z (.int w)) = decide (w ∈ zs) := by
    rw [List.any_map]
    apply Bool.eq_iff_iff.mpr
    rw [List.any_eq_true, decide_eq_true_iff]
    constructor
    · rintro ⟨z, m, e⟩
      have : z = w := by
        have e : eqFT (.int z) (.int w) = true := e
        unfold eqFT at e; simpa using e
      rw [← this]; exact m
    · intro m; exact ⟨w, m, by show eqFT (.int w) (.int w) = true; unfold eqFT; simp⟩
  unfold memDT flatInT
  simp only [itemsT, ha, flatT, Bool.and_self, if_true, hb]
theorem atF_eq {p : PyData → Bool} : ∀ {ds : List PyData} {k j : Nat} {d : PyData}, ds[j]? = some d → p d = true → (∀ (i : Nat) e, i < j → ds[i]? = some e → p e = false) → atF p k ds = some (k + j)
  | [], k, j, d, e, _, _ => by simp at e
  | x :: r, k, 0, d, e, h, _ => by simp at e; subst e; simp only [atF, h, if_true, Nat.add_zero]
  | x :: r, k, j + 1, d, e, h, n => by
    have hx : p x = false := n 0 x (by omega) rfl
    simp only [atF, hx, Bool.false_eq_true, if_false]
    rw [atF_eq (j := j) (by simpa using e) h fun i y l q => n (i + 1) y (by omega) (by simpa using q)]
    congr 1; omega
/-- where a plain value stands first -/
theorem index_py {j k : Nat} {x : T} {ys : List T} {m : Nat} (h1 : Py false j x) (h2 : ∀ y ∈ ys, Py false k y) (l1 : j ≤ 64) (l2 : k < 64) (e : ys[m]? = some x) (n : ∀ (i : Nat) y, i < m → ys[i]? = some y → y ≠ x) : indexT (.lst ys) x = some (.int m) := by
  unfold indexT
  rw [py_U h1 (show j ≤ 70 by omega), py_U (py_list h2) (show k + 1 ≤ 70 by omega)]
  have s2 := py_shaped (py_list h2) (show k + 1 ≤ 64 by omega)
  simp only [pyU] at s2 ⊢
  simp only [py_shaped h1 l1, s2, Bool.and_self, if_true]
  have := atF_eq (p := fun z => PyData.eqv z (pyU x)) (ds := ys.map fun y => pyU y) (k := 0) (j := m) (d := pyU x) (by rw [List.getElem?_map, e]; rfl) ((eqv_py h1 h1).mpr rfl) fun i z l q => by
    rw [List.getElem?_map] at q
    cases q2 : ys[i]? with
    | none => rw [q2] at q; cases q
    | some y =>
      rw [q2] at q
      cases q
      cases c : PyData.eqv (pyU y) (pyU x) with
      | false => rfl
      | true => exact absurd ((eqv_py (h2 y (List.mem_of_getElem? q2)) h1).mp c) (n i y l q2)
  rw [this, Nat.zero_add]; rfl
/-- the first place of a member -/
theorem first_at {x : T} : ∀ {ys : List T}, x ∈ ys → ∃ m : Nat, ys[m]? = some x ∧ ∀ (i : Nat) y, i < m → ys[i]? = some y → y ≠ x
  | y :: r, h => by
    by_cases c : y = x
    · exact ⟨0, by rw [c]; rfl, fun i y l => by omega⟩
    · rcases List.mem_cons.mp h with z | z
      · exact absurd z.symm c
      · obtain ⟨m, h1, h2⟩ := first_at z
        refine ⟨m + 1, by simpa using h1, fun i y l q => ?_⟩
        cases i with
        | zero => simp at q; subst q; exact c
        | succ i => exact h2 i y (by omega) (by simpa using q)
end Fu
/-! list(reversed(..)), sorted(..), sorted(set(..)) over values -/
namespace Fu
open PySem L2 Mi
def lrevT (t : T) : Option T := (lstO t).map fun xs => .lst xs.reverse
def ssetT (t : T) : Option T := (lstO t).bind fun xs => (intsT xs).bind fun ns => if ns.length < 4000 ∧ (dedI ns).length < 64 then some (.lst ((ssortI ns).map T.int)) else none
def sortT (ts : List T) : Option T := match ts with
  | [t] => (lstO t).bind fun xs => (intsT xs).map fun ns => .lst ((sortI ns).map T.int)
  | _ => none
theorem vals_ints {A : Nat → Prop} {h : DH} : ∀ ns : List Int, Vals A h (ns.map T.int) (ns.map D.int)
  | [] => by simp only [List.map_nil, Vals]
  | n :: ns => Vals.cons (val_int.mpr rfl) (vals_ints ns)
theorem seq_bv {A : Nat → Prop} {h : DH} {t : T} {d : D} {us : List T} (r : BV A h t d) (e : lstO t = some us) : ∃ ys, seqD d h = some ys ∧ Vals A h us ys := by
  unfold lstO at e
  split at e
  · cases e
    obtain ⟨n, xs, rfl, q, r⟩ := r
    exact ⟨xs, by simp only [seqD, q], r⟩
  · cases e
    obtain ⟨n, xs, rfl, _, q, r⟩ := bv_fro r
    exact ⟨xs, by simp only [seqD, q], r⟩
  · cases e
theorem ints_bv {A : Nat → Prop} {h : DH} : ∀ {us : List T} {ys : List D} {ns : List Int}, Vals A h us ys → intsT us = some ns → intsD ys = some ns
  | [], ys, ns, r, e => by simp only [Vals] at r; rw [r]; exact e
  | t :: ts, ys, ns, r, e => by
    simp only [Vals] at r
    obtain ⟨d, ds, rfl, r1, r2⟩ := r
    cases t with
    | int i =>
      rw [val_int.mp r1]
      simp only [intsT] at e
      obtain ⟨ms, q, rfl⟩ := map_some e
      simp only [intsD, ints_bv r2 q, Option.map_some]
    | _ => cases e
theorem vals_rev {A : Nat → Prop} {h : DH} : ∀ {us : List T} {ys : List D}, Vals A h us ys → Vals A h us.reverse ys.reverse
  | [], ys, r => by simp only [Vals] at r; rw [r]; simp only [List.reverse_nil, Vals]
  | t :: ts, ys, r => by
    simp only [Vals] at r
    obtain ⟨d, ds, rfl, r1, r2⟩ := r
    rw [List.reverse_cons, List.reverse_cons]
    exact (vals_rev r2).append (Vals.cons r1 (by simp only [Vals]))
def SUnX (f : D → DH → Res D) (g : T → Option T) : Prop := ∀ (A : Nat → Prop) (h : DH) (x : D) (t v : T), (∀ m, h.length ≤ m → A m) → BV A h t x → g t = some v → SatE (f x h) fun d h' => Keep h h' ∧ NewV A h h' v d
def lrgT : T → Option T
  | .int j => if 0 ≤ j ∧ j ≤ 16777216 then some (.lst (rngT 0 j.toNat)) else none
  | _ => none
theorem vals_rg {A : Nat → Prop} {h : DH} {n : Nat} : Vals A h (rngT 0 n) (rgD n) := by
  have := vals_ints (A := A) (h := h) ((List.range n).map fun i => ((i : Nat) : Int))
  rw [List.map_map, List.map_map] at this
  unfold rngT rgD
  simp only [Int.zero_add]
  exact this
theorem x_lrg : SUnX lrgD lrgT := fun A h x t v big r e => by
  cases t with
  | int j =>
    cases bv_int r
    unfold lrgT at e
    obtain ⟨c, rfl⟩ := ite_some e
    unfold lrgD
    simp only [if_pos c]
    exact ⟨Keep.app _ _, new_of vals_rg⟩
  | _ => cases e
theorem lrgT_i {n : Nat} (h : n ≤ 16777216) : lrgT (.int n) = some (.lst (rngT 0 n)) := by show (if 0 ≤ (n : Int) ∧ (n : Int) ≤ 16777216 then some (T.lst (rngT 0 (n : Int).toNat)) else none) = _; rw [if_pos ⟨by omega, by omega⟩, Int.toNat_natCast]
theorem x_lrev : SUnX lrevD lrevT := fun A h x t v big r e => by
  unfold lrevT at e
  obtain ⟨us, q, rfl⟩ := map_some e
  obtain ⟨ys, q2, r2⟩ := seq_bv r q
  unfold lrevD
  rw [q2]
  exact ⟨Keep.app _ _, new_of (vals_rev r2)⟩
theorem x_sset : SUnX ssetD ssetT := fun A h x t v big r e => by
  unfold ssetT at e
  obtain ⟨us, q, e⟩ := bind_some e
  obtain ⟨ns, q3, e⟩ := bind_some e
  obtain ⟨c, rfl⟩ := ite_some e
  obtain ⟨ys, q2, r2⟩ := seq_bv r q
  unfold ssetD
  simp only [q2, Option.bind, ints_bv r2 q3, if_pos c]
  exact ⟨Keep.app _ _, new_of (vals_ints _)⟩
theorem x_sort : SClX sortD sortT := fun A h xs ts v big r e => by
  unfold sortT at e
  split at e
  · rename_i t
    obtain ⟨d, rfl, r1⟩ := bvs1 r
    obtain ⟨us, q, e⟩ := bind_some e
    obtain ⟨ns, q3, rfl⟩ := map_some e
    obtain ⟨ys, q2, r2⟩ := seq_bv r1 q
    unfold sortD
    simp only [q2, Option.bind, ints_bv r2 q3]
    exact ⟨Keep.app _ _, new_of (vals_ints _)⟩
  · cases e
section
variable {w : Ws} {ma : EM} {fa : FE} {e : FSt} {PT : T → Prop}
theorem sx_un {f : D → DH → Res D} {g : T → Option T} (hs : SUnX f g) (ha : SB w ma fa) : SX w (.l .s) (mUn f ma) (fUn g fa) := fun A X own ds h e r t q => by
  obtain ⟨x, q1, q⟩ := bind_some q
  unfold mUn
  rw [satE_bind]
  refine (ha A X own ds h e r x q1).imp fun dx h1 ⟨k1, v1⟩ => ?_
  refine (hs _ h1 dx x t (r.keep k1).bigAl v1 q).imp fun d h3 ⟨k3, v3⟩ => ⟨k1.trans k3, ?_⟩
  obtain ⟨S, o, nd, hS⟩ := newV_od v3
  exact ⟨S, o, nd, fun x hx => Nat.le_trans k1.len (hS x hx)⟩
end
theorem intsT_map : ∀ ns : List Int, intsT (ns.map T.int) = some ns
  | [] => rfl
  | n :: ns => by rw [List.map_cons]; unfold intsT; rw [intsT_map ns]; rfl
theorem lrevT_l {xs : List T} : lrevT (.lst xs) = some (.lst xs.reverse) := rfl
theorem ssetT_l {ns : List Int} (h : ns.length < 4000 ∧ (dedI ns).length < 64) : ssetT (.lst (ns.map T.int)) = some (.lst ((ssortI ns).map T.int)) := by unfold ssetT; simp only [lstO, Option.bind, intsT_map, if_pos h]
theorem sortT_l {ns : List Int} : sortT [.lst (ns.map T.int)] = some (.lst ((sortI ns).map T.int)) := by unfold sortT; simp only [lstO, Option.bind, intsT_map, Option.map_some]
end Fu
/-! dicts that the program makes, over values (entries shared) -/
namespace Fu
open PySem L2 Mi
def keyT : T → Option Key
  | .int i => some (.inl i)
  | .str s => some (.inr s)
  | _ => none
theorem key_bv {A : Nat → Prop} {h : DH} {u : T} {y : D} {k : Key} (r : BV A h u y) (e : keyT u = some k) : keyD y = some k := by
  cases u with
  | int i => rw [bv_int r]; exact e
  | str s => rw [bv_str r]; exact e
  | _ => cases e
theorem key_val {A : Nat → Prop} {h : DH} {u : T} {y : D} {k : Key} (r : Val A h u y) (e : keyT u = some k) : keyD y = some k := key_bv r.bv e
theorem look_vals {A : Nat → Prop} {h : DH} {k : Key} : ∀ {ks : List (Key × T)} {ws : List (Key × D)}, ValsK A h ks ws → match lookK ks k with | some v => ∃ d, lookK ws k = some d ∧ Val A h v d | none => lookK ws k = none
  | [], ws, r => by simp only [ValsK] at r; subst r; rfl
  | p :: ks, ws, r => by
    simp only [ValsK] at r
    obtain ⟨d, ds, rfl, r1, r2⟩ := r
    have ih := look_vals (k := k) r2
    by_cases c : p.1 = k
    · have e1 : lookK (p :: ks) k = some p.2 := by unfold lookK; rw [List.find?_cons_of_pos (by exact decide_eq_true c)]; rfl
      have e2 : lookK ((p.1, d) :: ds) k = some d := by unfold lookK; rw [List.find?_cons_of_pos (by exact decide_eq_true c)]; rfl
      rw [e1]; exact ⟨d, e2, r1⟩
    · have e1 : lookK (p :: ks) k = lookK ks k := by unfold lookK; rw [List.find?_cons_of_neg (by simpa using c)]
      have e2 : lookK ((p.1, d) :: ds) k = lookK ds k := by unfold lookK; rw [List.find?_cons_of_neg (by simpa using c)]
      rw [e1, e2]; exact ih
def dgetD (x y : D) (h : DH) : Res D := match getD' x y h with | some (some d) => .ok d h | _ => .no
def dinD (neg : Bool) (y x : D) (h : DH) : Res D := match getD' x y h with | some o => .ok (.bl (if neg then !o.isSome else o.isSome)) h | none => .no
theorem mDGet_op {a b : EM} : mDGet a b = mOp dgetD a b := rfl
theorem mDIn_op {neg : Bool} {a b : EM} : mDIn neg b a = mOp (dinD neg) b a := rfl
def dgetT (t u : T) : Option T := match t with
  | .dic ks => (keyT u).bind fun k => lookK ks k
  | _ => none
def dinT (neg : Bool) (u t : T) : Option T := match t with
  | .dic ks => (keyT u).map fun k => .bl (if neg then !(lookK ks k).isSome else (lookK ks k).isSome)
  | _ => none
theorem o_dget : SOp dgetD dgetT := fun A h x y t u v big r1 r2 e => by
  cases t with
  | dic ks =>
    obtain ⟨n, ws, rfl, q, vk⟩ := r1
    obtain ⟨k, q1, q2⟩ := bind_some e
    have lk := look_vals (k := k) vk
    rw [q2] at lk
    obtain ⟨d, e1, e2⟩ := lk
    unfold dgetD getD'
    simp only [q, key_bv r2 q1, Option.map_some, e1]
    exact ⟨Keep.refl _, e2⟩
  | _ => cases e
theorem o_din {neg : Bool} : SOp (dinD neg) (dinT neg) := fun A h y x u t v big r2 r1 e => by
  cases t with
  | dic ks =>
    obtain ⟨n, ws, rfl, q, vk⟩ := r1
    obtain ⟨k, q1, rfl⟩ := map_some e
    have lk := look_vals (k := k) vk
    unfold dinD getD'
    simp only [q, key_bv r2 q1, Option.map_some]
    cases q2 : lookK ks k with
    | some w => rw [q2] at lk; obtain ⟨d, e1, e2⟩ := lk; simp only [e1, Option.isSome_some]; exact ⟨Keep.refl _, val_bl.mpr rfl⟩
    | none => rw [q2] at lk; have lk : lookK ws k = none := lk; simp only [lk, Option.isSome_none]; exact ⟨Keep.refl _, val_bl.mpr rfl⟩
  | _ => cases e
theorem fr_din {neg : Bool} : FlatR (dinT neg) := fun u t v e => by
  cases t with
  | dic ks => obtain ⟨k, q1, rfl⟩ := map_some e; rfl
  | _ => cases e
theorem se_dget {w : Ws} {ma mb : EM} {fa fb : FE} (ha : SB w ma fa) (hb : SB w mb fb) : SE w (mDGet ma mb) (fOp dgetT fa fb) := by rw [mDGet_op]; exact se_op o_dget ha hb
theorem se_din {w : Ws} {neg : Bool} {ma mb : EM} {fa fb : FE} (ha : SB w ma fa) (hb : SB w mb fb) : SE w (mDIn neg mb ma) (fOp (dinT neg) fb fa) := by rw [mDIn_op]; exact se_op o_din hb ha
theorem sn_dget {w : Ws} {ma mb : EM} {fa fb : FE} (ha : SN w ma fa) (hb : SN w mb fb) : SN w (mDGet ma mb) (fOp dgetT fa fb) := by rw [mDGet_op]; exact sn_op o_dget ha hb
/-- a new dict -/
def fDNew : FE := fun _ => some (.dic [])
theorem sx_dnew {w : Ws} : SX w (.d .s) mDNew fDNew := fun A X own ds h e r t q => by
  cases q
  refine ⟨Keep.app _ _, [h.length], ?_, by simp, fun x hx => by rw [List.mem_singleton.mp hx]; exact Nat.le_refl _⟩
  simp only [Od]
  exact ⟨[], h.length, [], [], rfl, rfl, rfl, get_last _ _, rfl, rfl, rfl⟩
/-! ### storing -/
theorem any_vals {A : Nat → Prop} {h : DH} {k : Key} : ∀ {ks : List (Key × T)} {ws : List (Key × D)}, ValsK A h ks ws → (ws.any fun kv => decide (kv.1 = k)) = ks.any fun kv => decide (kv.1 = k)
  | [], ws, r => by simp only [ValsK] at r; subst r; rfl
  | p :: ks, ws, r => by
    simp only [ValsK] at r
    obtain ⟨d, ds, rfl, r1, r2⟩ := r
    rw [List.any_cons, List.any_cons, any_vals r2]
theorem repl_vals {A : Nat → Prop} {h : DH} {k : Key} {u : T} {d0 : D} (r0 : Val A h u d0) : ∀ {ks : List (Key × T)} {ws : List (Key × D)}, ValsK A h ks ws → ValsK A h (ks.map fun kv => if kv.1 = k then (kv.1, u) else kv) (ws.map fun kv => if kv.1 = k then (kv.1, d0) else kv)
  | [], ws, r => by simp only [ValsK] at r; subst r; simp only [List.map_nil, ValsK]
  | p :: ks, ws, r => by
    simp only [ValsK] at r
    obtain ⟨d, ds, rfl, r1, r2⟩ := r
    simp only [List.map_cons, ValsK]
    by_cases c : p.1 = k
    · rw [if_pos c, if_pos c]; exact ⟨d0, _, rfl, r0, repl_vals r0 r2⟩
    · rw [if_neg c, if_neg c]; exact ⟨d, _, rfl, r1, repl_vals r0 r2⟩
theorem app_vals {A : Nat → Prop} {h : DH} {us : List (Key × T)} {vs : List (Key × D)} (s : ValsK A h us vs) : ∀ {ks : List (Key × T)} {ws : List (Key × D)}, ValsK A h ks ws → ValsK A h (ks ++ us) (ws ++ vs)
  | [], ws, r => by simp only [ValsK] at r; subst r; exact s
  | p :: ks, ws, r => by
    simp only [ValsK] at r
    obtain ⟨d, ds, rfl, r1, r2⟩ := r
    simp only [List.cons_append, ValsK]
    exact ⟨d, _, rfl, r1, app_vals s r2⟩
theorem set_vals {A : Nat → Prop} {h : DH} {k : Key} {u : T} {d0 : D} (r0 : Val A h u d0) {ks : List (Key × T)} {ws : List (Key × D)} (r : ValsK A h ks ws) : ValsK A h (setK ks k u) (setK ws k d0) := by
  unfold setK
  rw [any_vals r]
  by_cases c : (ks.any fun kv => decide (kv.1 = k)) = true
  · rw [if_pos c, if_pos c]; exact repl_vals r0 r
  · rw [if_neg c, if_neg c]; exact app_vals (by simp only [ValsK]; exact ⟨d0, [], rfl, r0, rfl⟩) r
theorem valsK_len {A : Nat → Prop} {h : DH} : ∀ {ks : List (Key × T)} {ws : List (Key × D)}, ValsK A h ks ws → ws.length = ks.length
  | [], ws, r => by simp only [ValsK] at r; subst r; rfl
  | p :: ks, ws, r => by
    simp only [ValsK] at r
    obtain ⟨d, ds, rfl, r1, r2⟩ := r
    rw [List.length_cons, List.length_cons, valsK_len r2]
theorem valsK_to2 {A : Nat → Prop} {h : DH} : ∀ {ks : List (Key × T)} {ws : List (Key × D)}, ValsK A h ks ws → ks.map (·.1) = ws.map (·.1) ∧ Vals A h (ks.map (·.2)) (ws.map (·.2))
  | [], ws, r => by simp only [ValsK] at r; subst r; exact ⟨rfl, by simp only [List.map_nil, Vals]⟩
  | p :: ks, ws, r => by
    simp only [ValsK] at r
    obtain ⟨d, ds, rfl, r1, r2⟩ := r
    obtain ⟨i1, i2⟩ := valsK_to2 r2
    exact ⟨by simp only [List.map_cons, i1], by simp only [List.map_cons, Vals]; exact ⟨d, _, rfl, r1, i2⟩⟩
theorem foc_d {A1 : Nat → Prop} {h : DH} {sh0 : Sh} {d0 d' : D} {S S' R : List Nat} {ks : List (Key × T)} {up : T → T} (f : Foc A1 h sh0 d0 S (.d .s) (.dic ks) d' S' R up) : ∃ n ws, d' = .ref n ∧ S' = [n] ∧ h[n]? = some (.dK ws) ∧ ValsK A1 h ks ws := by
  have od := f.od
  simp only [Od] at od
  obtain ⟨ts0, n, ws, S1, e1, rfl, e2, hn, q2, ol⟩ := od
  cases e1
  obtain ⟨v, rfl⟩ := OdL.to_vals ol
  exact ⟨n, ws, rfl, e2, hn, valsK_of q2 v⟩
def fDPut (i : Nat) (p : FP) (k a : FE) : FS := fun e => (a e).bind fun t => (p e).bind fun q => (k e).bind fun u => match q.1 with
  | .dic ks => (keyT u).bind fun z => if ks.length < 16777216 then some (.nx (e.set i (some (q.2 (.dic (setK ks z t)))))) else none
  | _ => none
section
variable {rs : Rk} {wr w : Ws} {wl : Ws} {i : Nat} {mo mk m : EM} {p : FP} {fk f : FE}
theorem ss_dput (hp : SP w i (.d .s) mo p) (hk : SN w mk fk) (he : SX w .s m f) : SS rs wr w (Mi.sDPut m mo mk) (fDPut i p fk f) w wl := fun A X own ds h0 h e r k l n o q => by
  obtain ⟨u, q2, q⟩ := bind_some q
  obtain ⟨⟨t1, up⟩, q1, q⟩ := bind_some q
  obtain ⟨z, q3, q⟩ := bind_some q
  cases t1 with
  | dic ks =>
    obtain ⟨kk, q4, q⟩ := bind_some q
    obtain ⟨c, rfl⟩ := ite_some q
    obtain ⟨d, h1, e1, k1, Sv, o1, nv, bv⟩ := (he A X own ds h e r u q2).eq
    have lv := Od.lt _ _ _ _ o1
    have r1 := r.avoid Sv bv k1 lv
    obtain ⟨d1, h2, e2, k2, sh0, d0, S', R, hw, hd, f1⟩ := (hp _ X own ds h1 e r1 _ _ q1).eq
    obtain ⟨nn, ws, rfl, rfl, hn, vk⟩ := foc_d f1
    obtain ⟨dz, h3, e3, k3, vz⟩ := (hk _ X own ds h2 e (r1.keep k2) _ q3).eq
    have hn3 := k3 _ _ hn
    have hno : nn ∈ own i := (f1.pm nn).mpr (.inr List.mem_cons_self)
    have hnl := r.ltO hw nn hno
    have fs : Fr nn h3 (h3.set nn (.dK (setK ws kk d))) := (Fr.refl _ h3).set _
    have ne : ∀ m, Al A w own m → m ≠ nn := fun m a z => a.2 _ hw (z ▸ hno)
    have od1 : Sv = [] ∧ Val (fun m => Al A w own m ∧ m ∉ Sv) h1 u d := by simp only [Od] at o1; exact o1
    obtain ⟨rfl, v1⟩ := od1
    have v2 : Val (fun m => Al A w own m ∧ m ∉ ([] : List Nat)) (h3.set nn (.dK (setK ws kk d))) u d := Val.mono (fun _ a _ => a) (fun m o a z => fs m o (ne m a.1) (k3 m o (k2 m o z))) _ _ v1
    have vk2 : ValsK (fun m => Al A w own m ∧ m ∉ ([] : List Nat)) (h3.set nn (.dK (setK ws kk d))) ks ws := ValsK.mono (fun m a _ => ⟨⟨a.1.1, a.2⟩, a.1.2⟩) (fun m o a z => fs m o (ne m ⟨a.1.1, a.2⟩) (k3 m o z)) _ _ vk
    obtain ⟨y1, y2⟩ := valsK_to2 (set_vals (k := kk) v2 vk2)
    have ov : Od (fun m => Al A w own m ∧ m ∉ ([] : List Nat)) (h3.set nn (.dK (setK ws kk d))) (.d .s) (.dic (setK ks kk u)) (.ref nn) (nn :: []) := by
      simp only [Od]
      exact ⟨_, nn, _, _, rfl, rfl, rfl, set_same hn3, y1, OdL.of_vals y2⟩
    obtain ⟨own', s, _⟩ := stored r k l n (k1.trans k2) k3 hw hd f1 (fun m a _ => ⟨⟨a.1.1, a.2⟩, a.1.2⟩) bv (S2 := []) (fun m hm => absurd hm List.not_mem_nil) (fun _ => by simp) ov
    refine ⟨ds, _, own', ?_, s⟩
    unfold Mi.sDPut
    have kz := key_val vz q4
    have lw := valsK_len vk2
    rw [e1]
    simp only [Res.st, e2, e3, putDh, hn3, kz, lw, if_pos c]
  | _ => cases q
end
/-! ### dict comprehensions -/
theorem setK_len {α : Type} {ks : List (Key × α)} {k : Key} {u : α} : (setK ks k u).length ≤ ks.length + 1 := by
  unfold setK
  by_cases c : (ks.any fun kv => decide (kv.1 = k)) = true
  · rw [if_pos c, List.length_map]; omega
  · rw [if_neg c, List.length_append]; exact Nat.le_refl _
def dcTP (g : PTg) (ft : FT) (fk fv : FE) (e : FSt) : List T → List (Key × T) → Option (List (Key × T))
  | [], acc => some acc
  | x :: xs, acc => (ptT g x e).bind fun e1 => (ft e1).bind fun c => if c then (fk e1).bind fun y => (fv e1).bind fun z => (keyT y).bind fun k => dcTP g ft fk fv e xs (setK acc k z) else dcTP g ft fk fv e xs acc
def fDc (fi : FI) (g : PTg) (ft : FT) (fk fv : FE) (vs : List Nat) : FE := fun e => (fi e).bind fun ts => if ts.length ≤ 16777216 then (dcTP g ft fk fv (wipeT e vs) ts []).map .dic else none
theorem w_dc {mi : IM} {g : PTg} {t : TM} {ek ev : EM} {vs : List Nat} {ds : DSt} {h : DH} {PD : D → DH → Prop} : SatE (mDc mi g t ek ev vs ds h) PD ↔ SatE (mi ds h) fun it h1 => SatE (dcP it g t ek ev h1.length (wipeD ds vs) (it.len h1 + 1) 0 (h1 ++ [.dK []])) PD := by unfold mDc; exact satE_bind
theorem sx_dc {w : Ws} {mi : IM} {fi : FI} {g : PTg} {t : TM} {ft : FT} {mk mv : EM} {fk fv : FE} {vs : List Nat} (hi : SI w mi fi) (ht : ST w t ft) (hk : SE w mk fk) (he : SE w mv fv) (hj : ∀ p ∈ w, ptOut p.1 g = true) (hv : ∀ v ∈ vs, ∀ p ∈ w, p.1 ≠ v) : SX w (.d .s) (mDc mi g t mk mv vs) (fDc fi g ft fk fv vs) := fun A X own ds h e r v q => by
  obtain ⟨ts, q1, q⟩ := bind_some q
  obtain ⟨hz, q⟩ : ts.length ≤ 16777216 ∧ ((dcTP g ft fk fv (wipeT e vs) ts []).map .dic) = some v := by
    by_cases c : ts.length ≤ 16777216
    · simp only [if_pos c] at q; exact ⟨c, q⟩
    · simp only [if_neg c] at q; cases q
  obtain ⟨us, q2, rfl⟩ := map_some q
  rw [w_dc]
  refine (hi A X own ds h e r ts q1).imp fun it h1 ⟨k1, xs, vx, hlen, hat⟩ => ?_
  have r1 := (r.keep k1).wipes hv
  have kn : Keep h1 (h1 ++ [.dK []]) := Keep.app _ _
  rw [hlen]
  have core : ∀ (k i : Nat) (acc : List (Key × D)) (us0 : List (Key × T)) (h2 : DH), k + i = xs.length + 1 → i ≤ xs.length → acc.length ≤ i → Fr h1.length (h1 ++ [.dK []]) h2 → (h1 ++ [DO.dK []]).length ≤ h2.length → h2[h1.length]? = some (.dK acc) →
      ValsK (fun m => Al A w own m ∧ m ∉ [h1.length]) h2 us0 acc → dcTP g ft fk fv (wipeT e vs) (ts.drop i) us0 = some us →
      SatE (dcP it g t mk mv h1.length (wipeD ds vs) k i h2) fun d h' => Keep h h' ∧ ∃ S, Od (fun m => Al A w own m ∧ m ∉ S) h' (.d .s) (.dic us) d S ∧ S.Nodup ∧ ∀ x ∈ S, h.length ≤ x := by
    intro k
    induction k with
    | zero => intro i acc us0 h2 e1 l; omega
    | succ k ih =>
      intro i acc us0 h2 e1 l la fr hl hn va hus
      have k12 : Keep h1 h2 := fr.keep kn (Nat.le_refl _)
      simp only [dcP]
      rw [hat h2 (k12.kin _) i]
      cases qx : xs[i]? with
      | none =>
        have l2 : xs.length ≤ i := List.getElem?_eq_none_iff.mp qx
        have e2 : ts.drop i = [] := List.drop_eq_nil_of_le (by rw [← vx.length]; omega)
        rw [e2] at hus
        cases hus
        refine ⟨k1.trans k12, [h1.length], ?_, by simp, fun m hm => ?_⟩
        · simp only [Od]
          obtain ⟨y1, y2⟩ := valsK_to2 va
          exact ⟨_, h1.length, acc, [], rfl, rfl, rfl, hn, y1, OdL.of_vals y2⟩
        · rw [List.mem_singleton.mp hm]; exact k1.len
      | some x =>
        have hil : i < xs.length := (List.getElem?_eq_some_iff.mp qx).1
        have htl : i < ts.length := by rw [← vx.length]; exact hil
        obtain ⟨dx, d1, d2⟩ := vx.get (List.getElem?_eq_getElem htl)
        rw [qx] at d1
        cases d1
        rw [List.drop_eq_getElem_cons htl] at hus
        simp only [dcTP] at hus
        obtain ⟨e1', g1, hus⟩ := bind_some hus
        obtain ⟨c, c1, hus⟩ := bind_some hus
        have hnl := lt_of_get hn
        have rk : Rel (fun m => A m ∧ m ∉ [h1.length]) X w own (wipeD ds vs) h2 (wipeT e vs) := r1.avoid _ (fun m hm => by
          rw [List.mem_singleton.mp hm]; exact Nat.le_refl _) k12 fun m hm => by
          rw [List.mem_singleton.mp hm]; exact hnl
        obtain ⟨ds1, g2, rv⟩ := pt_rel g _ _ _ g1 rk (Val.mono (B := Al (fun m => A m ∧ m ∉ [h1.length]) w own) (fun m a l => ⟨⟨a.1, fun z => by
          have := List.mem_singleton.mp z; omega⟩, a.2⟩) (k12.kin _) _ _ d2) hj
        obtain ⟨c', h3, z1, k3, z2⟩ := (ht _ X own _ h2 _ rv c c1).eq
        subst z2
        simp only [g2, z1]
        have l3 := k3.len
        have va3 : ValsK (fun m => Al A w own m ∧ m ∉ [h1.length]) h3 us0 acc := ValsK.mono (fun _ a _ => a) (k3.kin _) _ _ va
        cases c' with
        | false => exact ih (i + 1) acc us0 h3 (by omega) hil (by omega) (fr.trans (k3.fr _)) (by omega) (k3 _ _ hn) va3 hus
        | true =>
          simp only [if_true] at hus
          obtain ⟨ty, t2, hus⟩ := bind_some hus
          obtain ⟨tz, t3, hus⟩ := bind_some hus
          obtain ⟨kk, t4, hus⟩ := bind_some hus
          have rv3 := rv.keep k3
          obtain ⟨dy, h4, y1, k4, vy⟩ := (hk _ X own _ h3 _ rv3 ty t2).eq
          obtain ⟨dz, h5, y2, k5, vz⟩ := (he _ X own _ h4 _ (rv3.keep k4) tz t3).eq
          have k35 := k4.trans k5
          have hn5 := k35 _ _ (k3 _ _ hn)
          have l5 := k35.len
          have ky : keyD dy = some kk := key_val vy t4
          have lal : acc.length < 16777216 := by omega
          simp only [y1, y2, putDh, hn5, ky, if_pos lal]
          have fs : Fr h1.length h5 (h5.set h1.length (.dK (setK acc kk dz))) := (Fr.refl _ h5).set _
          have va5 : ValsK (fun m => Al A w own m ∧ m ∉ [h1.length]) (h5.set h1.length (.dK (setK acc kk dz))) us0 acc := ValsK.mono (fun _ a _ => a) (fun m o a z => fs m o (fun y => a.2 (by rw [y]; exact List.mem_cons_self)) (k35 m o z)) _ _ va3
          have vz5 : Val (fun m => Al A w own m ∧ m ∉ [h1.length]) (h5.set h1.length (.dK (setK acc kk dz))) tz dz := Val.mono (fun m a _ => ⟨⟨a.1.1, a.2⟩, a.1.2⟩) (fun m o a z => fs m o (fun y => a.1.2 (by rw [y]; exact List.mem_cons_self)) z) _ _ vz
          have sl := setK_len (ks := acc) (k := kk) (u := dz)
          exact ih (i + 1) (setK acc kk dz) (setK us0 kk tz) _ (by omega) hil (by omega) (((fr.trans (k3.fr _)).trans (k35.fr _)).trans fs) (by rw [List.length_set]; omega) (set_same hn5) (set_vals vz5 va5) hus
  exact core (xs.length + 1) 0 [] [] (h1 ++ [.dK []]) rfl (Nat.zero_le _) (Nat.le_refl _) (Fr.refl _ _) (Nat.le_refl _) (get_last _ _) (by simp only [ValsK]) q2
/-! ### the keys -/
def keyV : Key → T
  | .inl i => .int i
  | .inr s => .str s
def dkeysT (ts : List T) : Option T := match ts with
  | [.dic ks] => some (.lst (ks.map fun kv => keyV kv.1))
  | _ => none
theorem keys_vals {A B : Nat → Prop} {h h' : DH} : ∀ {ks : List (Key × T)} {ws : List (Key × D)}, ValsK A h ks ws → Vals B h' (ks.map fun kv => keyV kv.1) (ws.map fun kv => keyO kv.1)
  | [], ws, r => by simp only [ValsK] at r; subst r; simp only [List.map_nil, Vals]
  | p :: ks, ws, r => by
    simp only [ValsK] at r
    obtain ⟨d, ds, rfl, r1, r2⟩ := r
    simp only [List.map_cons, Vals]
    refine ⟨_, _, rfl, ?_, keys_vals r2⟩
    cases p.1 with
    | inl i => exact val_int.mpr rfl
    | inr s => exact val_str.mpr rfl
theorem x_dkeys : SClX dkeysD dkeysT := fun A h xs ts v big r e => by
  unfold dkeysT at e
  split at e
  · rename_i ks
    cases e
    obtain ⟨d, ds, rfl, r1, r2⟩ := r
    have r2 : ds = [] := r2
    subst r2
    obtain ⟨n, ws, rfl, q, vk⟩ := r1
    unfold dkeysD keysD
    simp only [q]
    exact ⟨Keep.app _ _, new_of (keys_vals vk)⟩
  · cases e
/-! ### what may be None -/
theorem sx_mN {w : Ws} {e : Sh} : SX w (.m e) (mC .non) (fC .non) := fun A X own ds h st r t q => by
  cases q
  refine ⟨Keep.refl _, [], ?_, List.nodup_nil, fun x hx => absurd hx List.not_mem_nil⟩
  simp only [Od]
  exact .inl (by simp)
theorem sx_mS {w : Ws} {e : Sh} {m : EM} {f : FE} (hx : SX w e m f) : SX w (.m e) m f := fun A X own ds h st r t q => (hx A X own ds h st r t q).imp fun d h' ⟨k, S, o, n, b⟩ => ⟨k, S, by simp only [Od]; exact .inr o, n, b⟩
def pSome (p : FP) : FP := fun e => (p e).bind fun q => match q.1 with
  | .non => none
  | _ => some q
theorem sp_some {w : Ws} {i : Nat} {sh : Sh} {m : EM} {p : FP} (hp : SP w i (.m sh) m p) : SP w i sh m (pSome p) := fun A X own ds h e r t' up q => by
  obtain ⟨⟨t1, up1⟩, q1, q⟩ := bind_some q
  have n : t1 ≠ .non ∧ (t1, up1) = (t', up) := by
    cases t1 with
    | non => cases q
    | _ => cases q; exact ⟨(fun z => T.noConfusion z), rfl⟩
  obtain ⟨n, z⟩ := n
  cases z
  exact (hp A X own ds h e r _ _ q1).imp fun d' h' ⟨k, sh0, d0, S', R, a, b, f⟩ => ⟨k, sh0, d0, S', R, a, b, f.there n⟩
theorem p_some {p : FP} {e : FSt} {PP : T × (T → T) → Prop} : Ok (pSome p e) PP ↔ Ok (p e) fun q => match q.1 with | .non => False | _ => PP q := by
  unfold pSome
  rw [ok_bind]
  cases p e with
  | none => exact Iff.rfl
  | some q =>
    obtain ⟨t, up⟩ := q
    cases t <;> exact Iff.rfl
/-! ### walking -/
def asDc (t : T) (P : List (Key × T) → Prop) : Prop := match t with | .dic ks => P ks | _ => False
theorem asDc_d {ks : List (Key × T)} {P : List (Key × T) → Prop} : asDc (.dic ks) P ↔ P ks := Iff.rfl
theorem s_dput {i : Nat} {p : FP} {k a : FE} {e : FSt} {N C B : FSt → Prop} {R : T → Prop} : Sk (fDPut i p k a e) N C B R ↔ Ok (a e) fun t => Ok (p e) fun q => Ok (k e) fun u => asDc q.1 fun ks => Ok (keyT u) fun z => ks.length < 16777216 ∧ N (e.set i (some (q.2 (.dic (setK ks z t))))) := by
  unfold fDPut; rw [sk_bind]
  cases a e with
  | none => exact Iff.rfl
  | some t =>
    show Sk ((p e).bind _) N C B R ↔ Ok (p e) _
    rw [sk_bind]
    cases p e with
    | none => exact Iff.rfl
    | some q =>
      show Sk ((k e).bind _) N C B R ↔ Ok (k e) _
      rw [sk_bind]
      cases k e with
      | none => exact Iff.rfl
      | some u =>
        obtain ⟨t1, up⟩ := q
        cases t1 with
        | dic ks =>
          show Sk ((keyT u).bind _) N C B R ↔ Ok (keyT u) _
          rw [sk_bind]
          cases keyT u with
          | none => exact Iff.rfl
          | some z =>
            show Sk (if ks.length < 16777216 then _ else none) N C B R ↔ (ks.length < 16777216 ∧ _)
            by_cases c : ks.length < 16777216
            · rw [if_pos c]; exact ⟨fun h => ⟨c, h⟩, fun h => h.2⟩
            · rw [if_neg c]; exact ⟨fun h => h.elim, fun h => absurd h.1 c⟩
        | _ => exact Iff.rfl
theorem k_dc {fi : FI} {g : PTg} {ft : FT} {fk fv : FE} {vs : List Nat} {e : FSt} {PT : T → Prop} : Ok (fDc fi g ft fk fv vs e) PT ↔ Ok (fi e) fun ts => ts.length ≤ 16777216 ∧ Ok (dcTP g ft fk fv (wipeT e vs) ts []) fun ks => PT (.dic ks) := by
  unfold fDc; simp only [ok_bind, ok_ite, ok_map]
theorem dgetT_d {ks : List (Key × T)} {i : Int} : dgetT (.dic ks) (.int i) = lookK ks (.inl i) := rfl
theorem dinT_d {neg : Bool} {ks : List (Key × T)} {i : Int} : dinT neg (.int i) (.dic ks) = some (.bl (if neg then !(lookK ks (.inl i)).isSome else (lookK ks (.inl i)).isSome)) := rfl
theorem dkeysT_d {ks : List (Key × T)} : dkeysT [.dic ks] = some (.lst (ks.map fun kv => keyV kv.1)) := rfl
theorem keyT_i {i : Int} : keyT (.int i) = some (.inl i) := rfl
theorem look_cons {α : Type} {q : Key × α} {l : List (Key × α)} {j : Key} : lookK (q :: l) j = if q.1 = j then some q.2 else lookK l j := by
  unfold lookK
  by_cases c : q.1 = j
  · rw [if_pos c, List.find?_cons_of_pos (by exact decide_eq_true c)]; rfl
  · rw [if_neg c, List.find?_cons_of_neg (by simpa using c)]
theorem look_repl {α : Type} {k j : Key} {u : α} : ∀ l : List (Key × α), lookK (l.map fun kv => if kv.1 = k then (kv.1, u) else kv) j = if k = j then (if (l.any fun kv => decide (kv.1 = k)) = true then some u else none) else lookK l j
  | [] => by by_cases c : k = j <;> simp [c, lookK]
  | q :: l => by
    rw [List.map_cons, look_cons, look_cons, look_repl l, List.any_cons]
    by_cases a : q.1 = k <;> by_cases b : k = j
    · subst b; simp [a]
    · simp [a, b]
    · subst b; simp only [a, if_false, decide_false, Bool.false_or, if_true]
    · simp [a, b]
theorem look_app {α : Type} {k j : Key} {u : α} : ∀ l : List (Key × α), lookK (l ++ [(k, u)]) j = match lookK l j with | some v => some v | none => if k = j then some u else none
  | [] => by rw [List.nil_append, look_cons]; rfl
  | q :: l => by rw [List.cons_append, look_cons, look_cons, look_app l]; by_cases a : q.1 = j <;> simp [a]
theorem look_none {α : Type} {k : Key} {l : List (Key × α)} (h : ¬ (l.any fun kv => decide (kv.1 = k)) = true) : lookK l k = none := by
  unfold lookK
  rw [List.find?_eq_none.mpr fun x hx y => h (List.any_eq_true.mpr ⟨x, hx, y⟩)]
  rfl
theorem look_set {α : Type} {ks : List (Key × α)} {k j : Key} {u : α} : lookK (setK ks k u) j = if k = j then some u else lookK ks j := by
  unfold setK
  by_cases c : (ks.any fun kv => decide (kv.1 = k)) = true
  · rw [if_pos c, look_repl, if_pos c]
  · rw [if_neg c, look_app]
    by_cases b : k = j
    · subst b; rw [look_none c, if_pos rfl]
    · rw [if_neg b, if_neg b]; cases lookK ks j <;> rfl
end Fu
namespace LA
open PySem L2 Mi Fu
local macro_rules | `(tactic| walk_at "kw") => `(tactic| try simp (decide := true) only [Fu.k_c, Fu.k_var, Fu.k_op, Fu.k_un, Fu.k_nil, Fu.k_cons, Fu.k_star, Fu.k_tup, Fu.k_lst, Fu.k_cb, Fu.k_cbF, Fu.flatT_i, Fu.flatT_s, Fu.flatT_b, Fu.flatT_n, Fu.k_test, Fu.asB_bl, Fu.asI_int, Fu.k_not, Fu.k_and, Fu.k_or, Fu.k_yes, Fu.k_notV, Fu.k_andV, Fu.k_orV, Fu.k_if, Fu.k_oN, Fu.k_oS, Fu.k_sl, Fu.k_chain, Fu.k_isi, Fu.asS_str, Fu.k_kd, Fu.k_kin, Fu.k_lc, Fu.k_seq, Fu.k_r1, Fu.k_r2, Fu.s_next, Fu.s_seq, Fu.s_set, Fu.s_own, Fu.s_asg, Fu.s_drop, Fu.s_ret, Fu.s_retN, Fu.s_brk, Fu.s_cnt, Fu.s_if, Fu.s_aug, Fu.k_gNm, Fu.k_gNil, Fu.k_gCons, Fu.k_gTp, Fu.asL_lst, Fu.asTp_tup, Fu.p_var, Fu.k_pth, Fu.p_ix, Fu.p_cm, id, Fu.s_app, Fu.s_pop, Fu.s_popD, Fu.s_rev, Fu.s_clr, Fu.s_put, Fu.s_callP, Fu.s_mvP, Fu.k_cbP, Fu.asP_mk, Fu.k_lcP, Fu.k_en, Fu.k_rv, Fu.k_zp, Fu.lstO_l, Fu.lstO_f, Fu.bOpT_bb, Fu.k_fld, Fu.asO_obj, Fu.s_for, Fu.s_while, Fu.ok_some, Fu.ok_ite, Fu.wipeT,
  Fu.addT_ii, Fu.addT_ll, Fu.addT_ss, Fu.addT_tt, Fu.catT_ll, Fu.subT_ii, Fu.mulT_ii, Fu.mulT_li, Fu.repT_li, Fu.fdivT_ii, Fu.modT_ii, Fu.powT_ii, Fu.negT_i, Fu.ltT_ii, Fu.leT_ii, Fu.gtT_ii, Fu.geT_ii, Fu.eqST_ii, Fu.eqST_ss, Fu.eqST_bb, Fu.eqT_ii, Fu.eqT_ss, Fu.eqT_bb, Fu.ok_oBl, Fu.ok_oNb, Fu.isNT_n, Fu.isNT_i, Fu.isNT_l, Fu.isNT_t, Fu.isNT_b, Fu.isNT_s, Fu.lenT_l, Fu.lenT_t, Fu.lenT_f, Fu.itemsT_l, Fu.itemsT_t, Fu.itemsT_f, Fu.lstT_l, Fu.lstT_t, Fu.lstT_f, Fu.tupT_l, Fu.tupT_t, Fu.ixT_l, Fu.ixT_t, Fu.ixT_f, Fu.intT_i, Fu.absT_i, Fu.max2T_i, Fu.min2T_i, Fu.slT_l, Fu.slLT_l, Fu.tyT_i, Fu.tyT_s, Fu.tyT_b, Fu.tyT_t, Fu.tyT_l, Fu.tyT_f, Fu.tyT_n,
  List.getElem?_cons_zero, List.getElem?_cons_succ, List.getD_cons_zero, List.getD_cons_succ, List.set_cons_zero, List.set_cons_succ, List.map_cons, List.map_nil, List.replicate, List.append_nil, List.cons_append, List.nil_append, List.length_cons, List.length_nil, Nat.reduceAdd, Nat.reduceSub, Nat.reduceLT, Nat.reduceLeDiff, Nat.zero_add, Int.reduceToNat, Int.reducePow, Int.reduceNeg, Mi.mulC_r, Mi.atI_0, Mi.atI_1, Mi.atI_2,
  subTy, decide_true, decide_false, Bool.or_self, Bool.or_true, Bool.true_or, Bool.or_false, Bool.false_or, Bool.and_true, Bool.true_and, Bool.and_false, Bool.false_and, Bool.and_self, Bool.not_true, Bool.not_false, Bool.false_eq_true, Bool.true_eq_false, true_and, and_true, and_self, if_true, if_false, ite_true, ite_false])
local macro_rules | `(tactic| walk_at "k1") => `(tactic| try simp (decide := true) only [Fu.k_c, Fu.k_var, Fu.k_op, Fu.k_un, Fu.k_nil, Fu.k_cons, Fu.k_star, Fu.k_tup, Fu.k_lst, Fu.k_cb, Fu.k_cbF, Fu.flatT_i, Fu.flatT_s, Fu.flatT_b, Fu.flatT_n, Fu.k_test, Fu.asB_bl, Fu.asI_int, Fu.k_not, Fu.k_and, Fu.k_or, Fu.k_yes, Fu.k_notV, Fu.k_andV, Fu.k_orV, Fu.k_if, Fu.k_oN, Fu.k_oS, Fu.k_sl, Fu.k_chain, Fu.k_isi, Fu.asS_str, Fu.k_kd, Fu.k_kin, Fu.k_lc, Fu.k_seq, Fu.k_r1, Fu.k_r2, Fu.s_next, Fu.s_set, Fu.s_own, Fu.s_asg, Fu.s_drop, Fu.s_ret, Fu.s_retN, Fu.s_brk, Fu.s_cnt, Fu.s_if, Fu.s_aug, Fu.k_gNm, Fu.k_gNil, Fu.k_gCons, Fu.k_gTp, Fu.asL_lst, Fu.asTp_tup, Fu.p_var, Fu.k_pth, Fu.p_ix, Fu.p_cm, id, Fu.s_app, Fu.s_pop, Fu.s_popD, Fu.s_rev, Fu.s_clr, Fu.s_put, Fu.s_callP, Fu.s_mvP, Fu.k_cbP, Fu.asP_mk, Fu.k_lcP, Fu.k_en, Fu.k_rv, Fu.k_zp, Fu.lstO_l, Fu.lstO_f, Fu.bOpT_bb, Fu.k_fld, Fu.asO_obj, Fu.s_for, Fu.s_while, Fu.ok_some, Fu.ok_ite, Fu.wipeT,
  Fu.addT_ii, Fu.addT_ll, Fu.addT_ss, Fu.addT_tt, Fu.catT_ll, Fu.subT_ii, Fu.mulT_ii, Fu.mulT_li, Fu.repT_li, Fu.fdivT_ii, Fu.modT_ii, Fu.powT_ii, Fu.negT_i, Fu.ltT_ii, Fu.leT_ii, Fu.gtT_ii, Fu.geT_ii, Fu.eqST_ii, Fu.eqST_ss, Fu.eqST_bb, Fu.eqT_ii, Fu.eqT_ss, Fu.eqT_bb, Fu.ok_oBl, Fu.ok_oNb, Fu.isNT_n, Fu.isNT_i, Fu.isNT_l, Fu.isNT_t, Fu.isNT_b, Fu.isNT_s, Fu.lenT_l, Fu.lenT_t, Fu.lenT_f, Fu.itemsT_l, Fu.itemsT_t, Fu.itemsT_f, Fu.lstT_l, Fu.lstT_t, Fu.lstT_f, Fu.tupT_l, Fu.tupT_t, Fu.ixT_l, Fu.ixT_t, Fu.ixT_f, Fu.intT_i, Fu.absT_i, Fu.max2T_i, Fu.min2T_i, Fu.slT_l, Fu.slLT_l, Fu.tyT_i, Fu.tyT_s, Fu.tyT_b, Fu.tyT_t, Fu.tyT_l, Fu.tyT_f, Fu.tyT_n,
  List.getElem?_cons_zero, List.getElem?_cons_succ, List.getD_cons_zero, List.getD_cons_succ, List.set_cons_zero, List.set_cons_succ, List.map_cons, List.map_nil, List.replicate, List.append_nil, List.cons_append, List.nil_append, List.length_cons, List.length_nil, Nat.reduceAdd, Nat.reduceSub, Nat.reduceLT, Nat.reduceLeDiff, Nat.zero_add, Int.reduceToNat, Int.reducePow, Int.reduceNeg, Mi.mulC_r, Mi.atI_0, Mi.atI_1, Mi.atI_2,
  subTy, decide_true, decide_false, Bool.or_self, Bool.or_true, Bool.true_or, Bool.or_false, Bool.false_or, Bool.and_true, Bool.true_and, Bool.and_false, Bool.false_and, Bool.and_self, Bool.not_true, Bool.not_false, Bool.false_eq_true, Bool.true_eq_false, true_and, and_true, and_self, if_true, if_false, ite_true, ite_false])
local macro_rules | `(tactic| walk_at "ks") => `(tactic| (rw [Fu.s_seq]; walk_at "k1"))
-- slots of _law_cell: 0 script 1 k
def S_law_cell : FS :=
  (fSeqS (fIfS (fTest (fOp ltT (fVar 1) (fCB lenT (fCons (fVar 0) fNil))))
      (fRet (fOp ixT (fVar 0) (fVar 1)))
      fNext)
      (fRet (fC (.int 0))))
abbrev U_law_cell : List T → Option T := funT false 2 2 (S_law_cell)
-- slots of _law_draws: 0 script 1 first 2 count 3 cell 4 rest 5 draws 6 k 7 other 8 mixed
def S_law_draws (F_law_cell : List T → Option T) : FS :=
  (fSeqS (fSet (fCB F_law_cell (fCons (fVar 0) (fCons (fVar 1) fNil))) 3)
      (fSeqS (fSet (fC (.int 0)) 4)
      (fSeqS (fIfS (fTest (fOp geT (fVar 3) (fOp powT (fC (.int 10)) (fC (.int 18)))))
      (fSet (fOp subT (fVar 3) (fOp powT (fC (.int 10)) (fC (.int 18)))) 4)
      fNext)
      (fSeqS (fOwn (fLst fNil) 5)
      (fSeqS (fFor (fR1 (fVar 2)) (gtNm 6)
      (fIfS (fTest (fOp gtT (fVar 4) (fC (.int 0))))
      (fSeqS (fApp 5 (pVar 5) (fOp modT (fCB intT (fCons (fVar 4) fNil)) (fC (.int 1000))))
      (fSet (fOp fdivT (fVar 4) (fC (.int 1000))) 4))
      (fSeqS (fSet (fCB F_law_cell (fCons (fVar 0) (fCons (fOp modT (fCB intT (fCons (fOp addT (fOp mulT (fVar 6) (fC (.int 7))) (fVar 1)) fNil)) (fC (.int 63))) fNil))) 7)
      (fSeqS (fSet (fOp modT (fCB intT (fCons (fOp addT (fOp addT (fOp mulT (fVar 3) (fC (.int 48271))) (fOp mulT (fVar 7) (fC (.int 16807)))) (fOp mulT (fOp addT (fVar 6) (fC (.int 1))) (fC (.int 69621)))) fNil)) (fC (.int 2147483647))) 8)
      (fApp 5 (pVar 5) (fOp modT (fOp fdivT (fOp modT (fCB intT (fCons (fOp addT (fOp mulT (fVar 8) (fVar 8)) (fOp mulT (fVar 6) (fC (.int 40692)))) fNil)) (fC (.int 2147483399))) (fC (.int 64))) (fC (.int 1000))))))))
      (fRet (fVar 5)))))))
abbrev U_law_draws (F_law_cell : List T → Option T) : List T → Option T := funT true 3 9 (S_law_draws F_law_cell)
-- slots of _law_same: 0 actual 1 expected 2 k
def S_law_same (F_law_same : List T → Option T) : FS :=
  (fSeqS (fIfS (fTest (fIsi Ty.str (fVar 1)))
      (fRet (fAndV (fIsi Ty.str (fVar 0)) (fOp (oBl eqT) (fVar 0) (fVar 1))))
      fNext)
      (fSeqS (fIfS (fTest (fIsi Ty.int (fVar 1)))
      (fRet (fAndV (fIsi Ty.int (fVar 0)) (fAndV (fNotV (fIsi Ty.bool (fVar 0))) (fOp (oBl eqT) (fVar 0) (fVar 1)))))
      fNext)
      (fSeqS (fIfS (fAnd (fTest (fIsi Ty.tuple (fVar 1))) (fNot (fTest (fIsi Ty.tuple (fVar 0)))))
      (fRet (fC (.bl false)))
      fNext)
      (fSeqS (fIfS (fAnd (fTest (fIsi Ty.list (fVar 1))) (fNot (fTest (fIsi Ty.list (fVar 0)))))
      (fRet (fC (.bl false)))
      fNext)
      (fSeqS (fIfS (fTest (fOp (oNb eqT) (fCB lenT (fCons (fVar 0) fNil)) (fCB lenT (fCons (fVar 1) fNil))))
      (fRet (fC (.bl false)))
      fNext)
      (fSeqS (fFor (fR1 (fCB lenT (fCons (fVar 1) fNil))) (gtNm 2)
      (fIfS (fNot (fTest (fCB F_law_same (fCons (fOp ixT (fVar 0) (fVar 2)) (fCons (fOp ixT (fVar 1) (fVar 2)) fNil)))))
      (fRet (fC (.bl false)))
      fNext))
      (fRet (fC (.bl true)))))))))
abbrev U_law_same (F_law_same : List T → Option T) : List T → Option T := funT false 2 3 (S_law_same F_law_same)
-- slots of _law_item: 0 draw 1 sort 2 great
def S_law_item : FS :=
  (fSeqS (fIfS (fTest (fOp (oBl eqST) (fVar 1) (fC (.int 0))))
      (fRet (fOp modT (fCB intT (fCons (fVar 0) fNil)) (fC (.int 3))))
      fNext)
      (fSeqS (fIfS (fTest (fOp (oBl eqST) (fVar 1) (fC (.int 1))))
      (fRet (fTup (fCons (fOp modT (fCB intT (fCons (fVar 0) fNil)) (fC (.int 2))) (fCons (fOp subT (fOp modT (fOp fdivT (fCB intT (fCons (fVar 0) fNil)) (fC (.int 2))) (fC (.int 3))) (fC (.int 1))) fNil))))
      fNext)
      (fSeqS (fIfS (fTest (fOp (oBl eqST) (fVar 1) (fC (.int 2))))
      (fRet (fTup (fCons (fOp ixT (fLst (fCons (fVar 2) (fCons (fOp subT (fC (.int 0)) (fVar 2)) (fCons (fOp addT (fVar 2) (fC (.int 1))) (fCons (fC (.int 0)) fNil))))) (fOp modT (fCB intT (fCons (fVar 0) fNil)) (fC (.int 4)))) fNil)))
      fNext)
      (fRet (fTup fNil)))))
abbrev U_law_item : List T → Option T := funT false 3 3 (S_law_item)
-- slots of _law_spans: 0 cell
def S_law_spans : FS :=
  (fSeqS (fIfS (fTest (fOp (oBl eqST) (fOp modT (fOp fdivT (fCB intT (fCons (fVar 0) fNil)) (fC (.int 30))) (fC (.int 8))) (fC (.int 1))))
      (fRet (fLst (fCons (fOp modT (fOp fdivT (fCB intT (fCons (fVar 0) fNil)) (fC (.int 240))) (fC (.int 25))) (fCons (fOp addT (fC (.int 1)) (fOp modT (fOp fdivT (fCB intT (fCons (fVar 0) fNil)) (fC (.int 6000))) (fC (.int 16)))) fNil))))
      fNext)
      (fRet (fLst (fCons (fOp modT (fCB intT (fCons (fVar 0) fNil)) (fC (.int 6))) (fCons (fOp addT (fC (.int 1)) (fOp modT (fOp fdivT (fCB intT (fCons (fVar 0) fNil)) (fC (.int 6))) (fC (.int 5)))) fNil)))))
abbrev U_law_spans : List T → Option T := funT true 1 1 (S_law_spans)
-- slots of _law_items: 0 script 1 first 2 spans 3 sort 4 great 5 draw
def S_law_items (F_law_cell F_law_draws F_law_item : List T → Option T) : FS :=
  (fSeqS (fSet (fOp modT (fCB intT (fCons (fCB F_law_cell (fCons (fVar 0) (fCons (fC (.int 0)) fNil))) fNil)) (fC (.int 4))) 3)
      (fSeqS (fSet (fOp modT (fCB intT (fCons (fCB F_law_cell (fCons (fVar 0) (fCons (fC (.int 1)) fNil))) fNil)) (fOp subT (fOp powT (fC (.int 10)) (fC (.int 18))) (fC (.int 2)))) 4)
      (fRet (fLc (fSeq (fCB F_law_draws (fCons (fVar 0) (fCons (fVar 1) (fCons (fOp addT (fOp ixT (fVar 2) (fC (.int 0))) (fOp ixT (fVar 2) (fC (.int 1)))) fNil))))) 5 fYes (fCB F_law_item (fCons (fVar 5) (fCons (fVar 3) (fCons (fVar 4) fNil)))) [5]))))
abbrev U_law_items (F_law_cell F_law_draws F_law_item : List T → Option T) : List T → Option T := funT true 3 6 (S_law_items F_law_cell F_law_draws F_law_item)
-- slots of _law_at: 0 stem 1 loop 2 k
def S_law_at : FS :=
  (fSeqS (fIfS (fTest (fOp ltT (fVar 2) (fCB lenT (fCons (fVar 0) fNil))))
      (fRet (fOp ixT (fVar 0) (fVar 2)))
      fNext)
      (fRet (fOp ixT (fVar 1) (fOp modT (fCB intT (fCons (fOp subT (fVar 2) (fCB lenT (fCons (fVar 0) fNil))) fNil)) (fCB lenT (fCons (fVar 1) fNil))))))
abbrev U_law_at : List T → Option T := funT false 3 3 (S_law_at)
-- slots of _law_longer: 0 stem 1 loop 2 count 3 times 4 turn 5 longer 6 k
def S_law_longer (F_law_at : List T → Option T) : FS :=
  (fSeqS (fSet (fOp modT (fCB intT (fCons (fVar 2) fNil)) (fCB lenT (fCons (fVar 1) fNil))) 4)
      (fSeqS (fSet (fOp addT (fCB lstT (fCons (fVar 0) fNil)) (fLc (fR1 (fVar 2)) 6 fYes (fCB F_law_at (fCons (fVar 0) (fCons (fVar 1) (fCons (fOp addT (fCB lenT (fCons (fVar 0) fNil)) (fVar 6)) fNil)))) [6])) 5)
      (fRet (fLst (fCons (fVar 5) (fCons (fOp mulT (fOp addT (fSl slT (fVar 1) (foSome (fVar 4)) foNone) (fSl slT (fVar 1) foNone (foSome (fVar 4)))) (fVar 3)) fNil))))))
abbrev U_law_longer (F_law_at : List T → Option T) : List T → Option T := funT true 4 7 (S_law_longer F_law_at)
-- slots of _law_equal_runs: 0 one 1 other 2 many 3 k
def S_law_equal_runs (F_law_same F_law_at : List T → Option T) : FS :=
  (fSeqS (fSet (fOp addT (fCB max2T (fCons (fCB lenT (fCons (fOp ixT (fVar 0) (fC (.int 0))) fNil)) (fCons (fCB lenT (fCons (fOp ixT (fVar 1) (fC (.int 0))) fNil)) fNil))) (fOp mulT (fCB lenT (fCons (fOp ixT (fVar 0) (fC (.int 1))) fNil)) (fCB lenT (fCons (fOp ixT (fVar 1) (fC (.int 1))) fNil)))) 2)
      (fSeqS (fFor (fR1 (fVar 2)) (gtNm 3)
      (fIfS (fNot (fTest (fCB F_law_same (fCons (fCB F_law_at (fCons (fOp ixT (fVar 0) (fC (.int 0))) (fCons (fOp ixT (fVar 0) (fC (.int 1))) (fCons (fVar 3) fNil)))) (fCons (fCB F_law_at (fCons (fOp ixT (fVar 1) (fC (.int 0))) (fCons (fOp ixT (fVar 1) (fC (.int 1))) (fCons (fVar 3) fNil)))) fNil)))))
      (fRet (fC (.bl false)))
      fNext))
      (fRet (fC (.bl true)))))
abbrev U_law_equal_runs (F_law_same F_law_at : List T → Option T) : List T → Option T := funT false 2 4 (S_law_equal_runs F_law_same F_law_at)
-- slots of state_at: 0 stem 1 loop 2 place
def Sstate_at : FS :=
  (fSeqS (fIfS (fTest (fOp ltT (fVar 2) (fCB lenT (fCons (fVar 0) fNil))))
      (fRet (fOp ixT (fVar 0) (fVar 2)))
      fNext)
      (fRet (fOp ixT (fVar 1) (fOp modT (fOp subT (fVar 2) (fCB lenT (fCons (fVar 0) fNil))) (fCB lenT (fCons (fVar 1) fNil))))))
abbrev Ustate_at : List T → Option T := funT false 3 3 (Sstate_at)
-- slots of rotated: 0 loop 1 count 2 first
def Srotated : FS :=
  (fSeqS (fSet (fOp modT (fVar 1) (fCB lenT (fCons (fVar 0) fNil))) 2)
      (fRet (fOp catT (fSl slT (fVar 0) (foSome (fVar 2)) foNone) (fSl slT (fVar 0) foNone (foSome (fVar 2))))))
abbrev Urotated : List T → Option T := funT true 2 3 (Srotated)
-- slots of unrolled: 0 stem 1 loop 2 count 3 end 4 more 5 place
def Sunrolled (Fstate_at Frotated : List T → Option T) : FS :=
  (fSeqS (fSet (fOp addT (fCB lenT (fCons (fVar 0) fNil)) (fVar 2)) 3)
      (fSeqS (fSet (fLc (fR2 (fCB lenT (fCons (fVar 0) fNil)) (fVar 3)) 5 fYes (fCB Fstate_at (fCons (fVar 0) (fCons (fVar 1) (fCons (fVar 5) fNil)))) [5]) 4)
      (fRet (fTup (fCons (fOp catT (fVar 0) (fVar 4)) (fCons (fCB Frotated (fCons (fVar 1) (fCons (fVar 2) fNil))) fNil))))))
abbrev Uunrolled (Fstate_at Frotated : List T → Option T) : List T → Option T := funT true 3 6 (Sunrolled Fstate_at Frotated)
-- slots of period: 0 loop 1 length
def Speriod : FS :=
  (fSeqS (fFor (fR2 (fC (.int 1)) (fCB lenT (fCons (fVar 0) fNil))) (gtNm 1)
      (fIfS (fAnd (fTest (fOp (oBl eqST) (fOp modT (fCB lenT (fCons (fVar 0) fNil)) (fVar 1)) (fC (.int 0)))) (fTest (fOp (oBl eqT) (fSl slT (fVar 0) (foSome (fVar 1)) foNone) (fSl slT (fVar 0) foNone (foSome (fUn negT (fVar 1)))))))
      (fRet (fVar 1))
      fNext))
      (fRet (fCB lenT (fCons (fVar 0) fNil))))
abbrev Uperiod : List T → Option T := funT false 1 2 (Speriod)
-- slots of repeated: 0 stem 1 loop 2 count
def Srepeated (M : Nat) : FS :=
  (fSeqS (fSet (fC (.int 0)) 2)
      (fSeqS (fWhile M (fAnd (fTest (fOp ltT (fVar 2) (fCB lenT (fCons (fVar 0) fNil)))) (fTest (fOp (oBl eqT) (fOp ixT (fVar 0) (fOp subT (fUn negT (fC (.int 1))) (fVar 2))) (fOp ixT (fVar 1) (fOp subT (fUn negT (fC (.int 1))) (fOp modT (fVar 2) (fCB lenT (fCons (fVar 1) fNil))))))))
      (fAugI 2 (· + ·) (fC (.int 1))))
      (fRet (fVar 2))))
abbrev Urepeated (M : Nat) : List T → Option T := funT false 2 3 (Srepeated M)
-- slots of same_run: 0 one 1 other
def Ssame_run (Fshortest : List T → Option T) : FS :=
  (fRet (fOp (oBl eqT) (fCB Fshortest (fCons (fOp ixT (fVar 0) (fC (.int 0))) (fCons (fOp ixT (fVar 0) (fC (.int 1))) fNil))) (fCB Fshortest (fCons (fOp ixT (fVar 1) (fC (.int 0))) (fCons (fOp ixT (fVar 1) (fC (.int 1))) fNil)))))
abbrev Usame_run (Fshortest : List T → Option T) : List T → Option T := funT false 2 2 (Ssame_run Fshortest)
-- slots of shortest: 0 stem 1 loop 2 least 3 count
def Sshortest (Fperiod Frepeated Frotated : List T → Option T) : FS :=
  (fSeqS (fSet (fSl slT (fVar 1) foNone (foSome (fCB Fperiod (fCons (fVar 1) fNil)))) 2)
      (fSeqS (fSet (fCB Frepeated (fCons (fVar 0) (fCons (fVar 2) fNil))) 3)
      (fRet (fTup (fCons (fSl slLT (fVar 0) foNone (foSome (fOp subT (fCB lenT (fCons (fVar 0) fNil)) (fVar 3)))) (fCons (fCB Frotated (fCons (fVar 2) (fCons (fUn negT (fVar 3)) fNil))) fNil))))))
abbrev Ushortest (Fperiod Frepeated Frotated : List T → Option T) : List T → Option T := funT true 2 4 (Sshortest Fperiod Frepeated Frotated)
-- slots of _law_repeated: 0 loop 1 size
def S_law_repeated : FS :=
  (fSeqS (fFor (fR2 (fC (.int 1)) (fCB lenT (fCons (fVar 0) fNil))) (gtNm 1)
      (fIfS (fAnd (fTest (fOp (oBl eqST) (fOp modT (fCB lenT (fCons (fVar 0) fNil)) (fVar 1)) (fC (.int 0)))) (fTest (fOp (oBl eqT) (fVar 0) (fOp mulT (fSl slT (fVar 0) foNone (foSome (fVar 1))) (fOp fdivT (fCB lenT (fCons (fVar 0) fNil)) (fVar 1))))))
      (fRet (fC (.bl true)))
      fNext))
      (fRet (fC (.bl false))))
abbrev U_law_repeated : List T → Option T := funT false 1 2 (S_law_repeated)
-- slots of _law_least: 0 told 1 lasso
def S_law_least (F_law_equal_runs F_law_repeated : List T → Option T) : FS :=
  (fSeqS (fIfS (fOr (fNot (fTest (fIsi Ty.tuple (fVar 0)))) (fTest (fOp (oNb eqST) (fCB lenT (fCons (fVar 0) fNil)) (fC (.int 2)))))
      (fRet (fC (.bl false)))
      fNext)
      (fSeqS (fIfS (fOr (fNot (fTest (fIsi Ty.list (fOp ixT (fVar 0) (fC (.int 0)))))) (fOr (fNot (fTest (fIsi Ty.list (fOp ixT (fVar 0) (fC (.int 1)))))) (fTest (fOp (oBl eqST) (fCB lenT (fCons (fOp ixT (fVar 0) (fC (.int 1))) fNil)) (fC (.int 0))))))
      (fRet (fC (.bl false)))
      fNext)
      (fSeqS (fIfS (fOr (fTest (fOp gtT (fCB lenT (fCons (fOp ixT (fVar 0) (fC (.int 0))) fNil)) (fCB lenT (fCons (fOp ixT (fVar 1) (fC (.int 0))) fNil)))) (fTest (fOp gtT (fCB lenT (fCons (fOp ixT (fVar 0) (fC (.int 1))) fNil)) (fCB lenT (fCons (fOp ixT (fVar 1) (fC (.int 1))) fNil)))))
      (fRet (fC (.bl false)))
      fNext)
      (fSeqS (fIfS (fOr (fNot (fTest (fCB F_law_equal_runs (fCons (fVar 0) (fCons (fVar 1) fNil))))) (fTest (fCB F_law_repeated (fCons (fOp ixT (fVar 0) (fC (.int 1))) fNil))))
      (fRet (fC (.bl false)))
      fNext)
      (fRet (fOrV (fOp (oBl eqST) (fCB lenT (fCons (fOp ixT (fVar 0) (fC (.int 0))) fNil)) (fC (.int 0))) (fOp (oNb eqT) (fOp ixT (fOp ixT (fVar 0) (fC (.int 0))) (fUn negT (fC (.int 1)))) (fOp ixT (fOp ixT (fVar 0) (fC (.int 1))) (fUn negT (fC (.int 1)))))))))))
abbrev U_law_least (F_law_equal_runs F_law_repeated : List T → Option T) : List T → Option T := funT false 2 2 (S_law_least F_law_equal_runs F_law_repeated)
-- slots of _law_rest: 0 stem 1 loop 2 place 3 turn
def S_law_rest : FS :=
  (fSeqS (fIfS (fTest (fOp leT (fVar 2) (fCB lenT (fCons (fVar 0) fNil))))
      (fRet (fTup (fCons (fSl slT (fVar 0) (foSome (fVar 2)) foNone) (fCons (fCB lstT (fCons (fVar 1) fNil)) fNil))))
      fNext)
      (fSeqS (fSet (fOp modT (fCB intT (fCons (fOp subT (fVar 2) (fCB lenT (fCons (fVar 0) fNil))) fNil)) (fCB lenT (fCons (fVar 1) fNil))) 3)
      (fRet (fTup (fCons (fLst fNil) (fCons (fOp addT (fSl slT (fVar 1) (foSome (fVar 3)) foNone) (fSl slT (fVar 1) foNone (foSome (fVar 3)))) fNil))))))
abbrev U_law_rest : List T → Option T := funT false 3 4 (S_law_rest)
-- slots of suffix: 0 stem 1 loop 2 place
def Ssuffix (Frotated : List T → Option T) : FS :=
  (fSeqS (fIfS (fTest (fOp leT (fVar 2) (fCB lenT (fCons (fVar 0) fNil))))
      (fRet (fTup (fCons (fSl slLT (fVar 0) (foSome (fVar 2)) foNone) (fCons (fCB lstT (fCons (fVar 1) fNil)) fNil))))
      fNext)
      (fRet (fTup (fCons (fLst fNil) (fCons (fCB Frotated (fCons (fVar 1) (fCons (fOp subT (fVar 2) (fCB lenT (fCons (fVar 0) fNil))) fNil))) fNil)))))
abbrev Usuffix (Frotated : List T → Option T) : List T → Option T := funT true 3 3 (Ssuffix Frotated)
theorem eq_ok {α : Type} {o : Option α} {v : α} (s : Ok o fun t => t = v) : o = some v := by
  cases o with
  | none => exact s.elim
  | some a => rw [show a = v from s]
theorem ok_eq {α : Type} {o : Option α} {v : α} {P : α → Prop} (q : o = some v) : Ok o P ↔ P v := by rw [q]; exact Iff.rfl
def celO (ns : List Int) (i : Int) : Int := ns.getD i.toNat 0
def scT (ns : List Int) : T := .fro (ns.map T.int)
def CellF (F : List T → Option T) : Prop := ∀ (ns : List Int) (i : Int), 0 ≤ i → F [scT ns, .int i] = some (.int (celO ns i))
theorem cell_F : CellF U_law_cell := fun ns i h0 => by
  refine eq_ok (k_fun rfl ?_)
  unfold S_law_cell scT
  walk_at "kw"
  rw [List.length_map]
  refine w_ifE (fun c => ?_) fun c => ?_
  · have c := of_decide_eq_true c
    refine ok_at h0 (by rw [List.length_map]; exact c) fun t e => ?_
    rw [List.getElem?_map] at e
    unfold celO
    rw [List.getD_eq_getElem?_getD]
    cases q : ns[i.toNat]? with
    | none => rw [q] at e; cases e
    | some x => rw [q] at e; cases e; rfl
  · have c := of_decide_eq_false c
    unfold celO
    rw [List.getD_eq_getElem?_getD, List.getElem?_eq_none (by omega)]; rfl
def DrawsF (F : List T → Option T) : Prop := ∀ (ns : List Int) (first count : Int), 0 ≤ first → 0 ≤ count ∧ count ≤ 1000 → ∃ xs : List Int, F [scT ns, .int first, .int count] = some (.lst (xs.map T.int)) ∧ xs.length = count.toNat ∧ ∀ x ∈ xs, 0 ≤ x ∧ x < 1000
theorem of_ok {α : Type} {o : Option α} {P : α → Prop} (s : Ok o P) : ∃ v, o = some v ∧ P v := s.eq
theorem draws_F {F : List T → Option T} (cell : CellF F) : DrawsF (U_law_draws F) := fun ns first count h0 hc => by
  have key : Ok (U_law_draws F [scT ns, .int first, .int count]) fun v => ∃ xs : List Int, v = .lst (xs.map T.int) ∧ xs.length = count.toNat ∧ ∀ x ∈ xs, 0 ≤ x ∧ x < 1000 := by
    refine k_fun rfl ?_
    unfold S_law_draws
    walk_at "ks"
    rw [ok_eq (cell ns first h0)]
    walk_at "ks"
    generalize celO ns first = c
    refine n_cutF (fun e' => ∃ rest : Int, e' = [some (scT ns), some (.int first), some (.int count), some (.int c), some (.int rest), none, none, none, none]) ?_ ?_
    · walk_at "k1"
      exact w_ifE (fun _ => ⟨_, rfl⟩) fun _ => ⟨_, rfl⟩
    rintro _ ⟨rest, rfl⟩
    walk_at "ks"; walk_at "ks"
    refine ⟨by omega, ?_⟩
    refine for_rng (fun i e' => ∃ (rest : Int) (o6 o7 o8 : Option T) (xs : List Int), e' = [some (scT ns), some (.int first), some (.int count), some (.int c), some (.int rest), some (.lst (xs.map T.int)), o6, o7, o8] ∧ xs.length = i ∧ ∀ x ∈ xs, 0 ≤ x ∧ x < 1000) ⟨rest, none, none, none, [], rfl, rfl, fun x hx => nomatch hx⟩ ?_ ?_
    · rintro i _ hi ⟨rest, o6, o7, o8, xs, rfl, hl, hx⟩
      have fin : ∀ y : Int, 0 ≤ y ∧ y < 1000 → (xs.map T.int).length < 16777216 ∧ (xs ++ [y]).length = i + 1 ∧ (∀ x ∈ xs ++ [y], 0 ≤ x ∧ x < 1000) := fun y hy => by
        refine ⟨by rw [List.length_map]; omega, by rw [List.length_append, hl]; rfl, fun x h => ?_⟩
        rcases List.mem_append.mp h with h | h
        · exact hx x h
        · have e : x = y := by simpa using h
          rw [e]; exact hy
      walk_at "k1"
      refine w_ifE (fun _ => ?_) fun _ => ?_
      · walk_at "ks"
        obtain ⟨f0, f1, f2⟩ := fin (rest % 1000) (by omega)
        exact ⟨f0, _, _, _, _, xs ++ [rest % 1000], by rw [List.map_append]; rfl, f1, f2⟩
      · walk_at "ks"
        rw [ok_eq (cell ns _ (Int.emod_nonneg _ (by decide)))]
        walk_at "kw"
        generalize hm : (c * 48271 + celO ns (((0 + (i : Int)) * 7 + first) % 63) * 16807 + (0 + (i : Int) + 1) * 69621) % 2147483647 = m
        refine ⟨.inl ⟨by omega, by omega⟩, ?_⟩
        generalize hy : (m * m + (0 + (i : Int)) * 40692) % 2147483399 / 64 % 1000 = y
        obtain ⟨f0, f1, f2⟩ := fin y (by omega)
        exact ⟨f0, _, _, _, _, xs ++ [y], by rw [List.map_append]; rfl, f1, f2⟩
    · rintro _ ⟨rest, o6, o7, o8, xs, rfl, hl, hx⟩
      walk_at "kw"
      exact ⟨xs, rfl, hl, hx⟩
  obtain ⟨v, q, xs, rfl, p⟩ := key.eq
  exact ⟨xs, q, p⟩
/-- an item of a lasso -/
def Itm (t : T) : Prop := (∃ i : Int, t = .int i) ∨ ∃ is : List Int, t = .tup (is.map T.int) ∧ is.length ≤ 2
theorem Itm.pl {t : T} (h : Itm t) : Pl 1 t := by
  rcases h with ⟨i, rfl⟩ | ⟨is, rfl, l⟩
  · exact .int i
  · exact .tup (fun x hx => by obtain ⟨i, _, rfl⟩ := List.mem_map.mp hx; exact .int i) (by rw [List.length_map]; omega)
theorem item_F {d s g : Int} (hd : 0 ≤ d) : ∃ t, U_law_item [.int d, .int s, .int g] = some t ∧ Itm t := by
  refine of_ok (k_fun rfl ?_)
  unfold S_law_item
  walk_at "kw"
  refine w_ifE (fun _ => .inl ⟨_, rfl⟩) fun _ => w_ifE (fun _ => .inr ⟨[_, _], rfl, Nat.le_refl _⟩) fun _ => w_ifE (fun _ => ?_) fun _ => .inr ⟨[], rfl, by decide⟩
  refine ok_at (Int.emod_nonneg _ (by decide)) (by show d % 4 < 4; omega) fun t e => ?_
  have : ∃ i : Int, t = .int i := by
    have := List.mem_of_getElem? e
    simp only [List.mem_cons, List.not_mem_nil, or_false] at this
    rcases this with rfl | rfl | rfl | rfl <;> exact ⟨_, rfl⟩
  obtain ⟨i, rfl⟩ := this
  exact .inr ⟨[i], rfl, by simp⟩
/-! ### what is the same -/
theorem pl_len {k : Nat} {xs : List T} (h : Pl k (.tup xs) ∨ Pl k (.lst xs)) : xs.length ≤ 1000000 ∧ ∃ j, k = j + 1 ∧ ∀ x ∈ xs, Pl j x := by
  rcases h with h | h
  · cases h with | tup h l => exact ⟨l, _, rfl, h⟩
  · cases h with | lst h l => exact ⟨l, _, rfl, h⟩
theorem bool_of {o : Option T} {p : Bool → Prop} (s : Ok o fun v => ∃ b : Bool, v = .bl b ∧ p b) : ∃ b : Bool, o = some (.bl b) ∧ p b := by
  obtain ⟨v, q, b, rfl, p⟩ := s.eq
  exact ⟨b, q, p⟩
def SameF (F : Nat → List T → Option T) : Prop := ∀ (j k : Nat) (a e : T), Pl j a → Pl j e → ∃ b : Bool, F (k + j + 1) [a, e] = some (.bl b) ∧ (b = true ↔ a = e)
theorem same_F {F : Nat → List T → Option T} (hF : ∀ k xs, F (k + 1) xs = U_law_same (F k) xs) : SameF F := by
  intro j
  induction j with
  | zero =>
    intro k a e ha he
    rw [hF]
    refine bool_of (k_fun rfl ?_)
    unfold S_law_same
    cases ha with
    | int i => cases he with
      | int i' => walk_at "kw"; exact ⟨_, rfl, by simp⟩
      | str s' => walk_at "kw"; exact ⟨_, rfl, by simp⟩
    | str s => cases he with
      | int i' => walk_at "kw"; exact ⟨_, rfl, by simp⟩
      | str s' => walk_at "kw"; exact ⟨_, rfl, by simp⟩
  | succ j ih =>
    intro k a e ha he
    rw [hF]
    refine bool_of (k_fun rfl ?_)
    unfold S_law_same
    have core : ∀ xs ys : List T, (∀ x ∈ xs, Pl j x) → (∀ y ∈ ys, Pl j y) → xs.length ≤ 1000000 → ys.length ≤ 1000000 → ∀ a e : T, (∀ i : Int, ixT a (.int i) = atI xs i) → (∀ i : Int, ixT e (.int i) = atI ys i) → (a = e ↔ xs = ys) → lenT [a] = some (.int xs.length) → lenT [e] = some (.int ys.length) → ∀ C B,
        Sk (fSeqS (fIfS (fTest (fOp (oNb eqT) (fCB lenT (fCons (fVar 0) fNil)) (fCB lenT (fCons (fVar 1) fNil)))) (fRet (fC (.bl false))) fNext)
          (fSeqS (fFor (fR1 (fCB lenT (fCons (fVar 1) fNil))) (gtNm 2) (fIfS (fNot (fTest (fCB (F (k + (j + 1))) (fCons (fOp ixT (fVar 0) (fVar 2)) (fCons (fOp ixT (fVar 1) (fVar 2)) fNil))))) (fRet (fC (.bl false))) fNext)) (fRet (fC (.bl true)))) [some a, some e, none]) (fun _ => ∃ b : Bool, T.non = .bl b ∧ (b = true ↔ a = e)) C B (fun v => ∃ b : Bool, v = .bl b ∧ (b = true ↔ a = e)) := by
      intro xs ys hx hy lx ly a e ia ie hae la le C B
      walk_at "ks"
      rw [ok_eq la, ok_eq le]
      walk_at "kw"
      refine w_ifE (fun c => ?_) fun c => ?_
      · refine ⟨false, rfl, ?_⟩
        simp only [Bool.not_eq_true', decide_eq_false_iff_not] at c
        simp only [Bool.false_eq_true, false_iff, hae]
        exact fun q => c (by rw [q])
      have hlen : xs.length = ys.length := by
        simp only [Bool.not_eq_false', decide_eq_true_eq] at c
        omega
      rw [ok_eq le]
      walk_at "k1"
      refine ⟨by omega, ?_⟩
      refine for_rng (fun i e' => (∃ o, e' = [some a, some e, o]) ∧ xs.take i = ys.take i) ⟨⟨_, rfl⟩, rfl⟩ ?_ ?_
      · rintro i _ hi ⟨⟨o, rfl⟩, ht⟩
        have hi : i < ys.length := by omega
        walk_at "k1"
        rw [ia, ie]
        have e0 : (0 + (i : Int)).toNat = i := by omega
        refine ok_at (by omega) (by omega) fun t ht1 => ok_at (by omega) (by omega) fun u hu1 => ?_
        rw [e0] at ht1 hu1
        obtain ⟨b, q, hb⟩ := ih k t u (hx t (List.mem_of_getElem? ht1)) (hy u (List.mem_of_getElem? hu1))
        rw [show k + (j + 1) = k + j + 1 from by omega, ok_eq q]
        walk_at "k1"
        cases b with
        | true =>
          walk_at "kw"
          refine ⟨⟨_, rfl⟩, ?_⟩
          rw [List.take_add_one, List.take_add_one, ht, ht1, hu1, hb.mp rfl]
        | false =>
          walk_at "kw"
          refine ⟨false, rfl, ?_⟩
          simp only [Bool.false_eq_true, false_iff, hae]
          intro q
          have : t = u := by rw [q, hu1] at ht1; exact (Option.some.inj ht1).symm
          exact Bool.noConfusion (hb.mpr this)
      · rintro _ ⟨⟨o, rfl⟩, ht⟩
        walk_at "kw"
        refine ⟨true, rfl, ?_⟩
        simp only [true_iff, hae]
        have z : ((ys.length : Int)).toNat = ys.length := by omega
        rw [z, ← hlen, List.take_length, hlen, List.take_length] at ht
        exact ht
    cases ha with
    | int i => cases he with
      | int i' => walk_at "kw"; exact ⟨_, rfl, by simp⟩
      | str s' => walk_at "kw"; exact ⟨_, rfl, by simp⟩
      | tup h l => walk_at "kw"; exact ⟨_, rfl, by simp⟩
      | lst h l => walk_at "kw"; exact ⟨_, rfl, by simp⟩
    | str s => cases he with
      | int i' => walk_at "kw"; exact ⟨_, rfl, by simp⟩
      | str s' => walk_at "kw"; exact ⟨_, rfl, by simp⟩
      | tup h l => walk_at "kw"; exact ⟨_, rfl, by simp⟩
      | lst h l => walk_at "kw"; exact ⟨_, rfl, by simp⟩
    | tup h l => cases he with
      | int i' => walk_at "kw"; exact ⟨_, rfl, by simp⟩
      | str s' => walk_at "kw"; exact ⟨_, rfl, by simp⟩
      | tup h' l' => walk_at "ks"; walk_at "ks"; walk_at "ks"; walk_at "ks"; exact core _ _ h h' l l' (.tup _) (.tup _) (fun _ => rfl) (fun _ => rfl) ⟨T.tup.inj, congrArg _⟩ rfl rfl _ _
      | lst h' l' => walk_at "kw"; exact ⟨_, rfl, by simp⟩
    | lst h l => cases he with
      | int i' => walk_at "kw"; exact ⟨_, rfl, by simp⟩
      | str s' => walk_at "kw"; exact ⟨_, rfl, by simp⟩
      | tup h' l' => walk_at "kw"; exact ⟨_, rfl, by simp⟩
      | lst h' l' => walk_at "ks"; walk_at "ks"; walk_at "ks"; walk_at "ks"; exact core _ _ h h' l l' (.lst _) (.lst _) (fun _ => rfl) (fun _ => rfl) ⟨T.lst.inj, congrArg _⟩ rfl rfl _ _
/-! ### places of a lasso -/
def atL (xs ys : List T) (n : Nat) : T := if n < xs.length then xs.getD n .non else ys.getD ((n - xs.length) % ys.length) .non
theorem getD_of {xs : List T} {n : Nat} {t : T} (e : xs[n]? = some t) : xs.getD n .non = t := by rw [List.getD_eq_getElem?_getD, e]; rfl
theorem atL_mem {xs ys : List T} {n : Nat} (h : 0 < ys.length) : atL xs ys n ∈ xs ++ ys := by
  unfold atL
  by_cases c : n < xs.length
  · rw [if_pos c]
    exact List.mem_append_left _ (List.mem_of_getElem? (i := n) (by rw [List.getElem?_eq_getElem c, List.getD_eq_getElem?_getD, List.getElem?_eq_getElem c]; rfl))
  · rw [if_neg c]
    have l := Nat.mod_lt (n - xs.length) h
    exact List.mem_append_right _ (List.mem_of_getElem? (i := (n - xs.length) % ys.length) (by rw [List.getElem?_eq_getElem l, List.getD_eq_getElem?_getD, List.getElem?_eq_getElem l]; rfl))
def AtF (F : List T → Option T) : Prop := ∀ (xs ys : List T) (n : Nat), 0 < ys.length → F [.lst xs, .lst ys, .int n] = some (atL xs ys n)
theorem at_core {xs ys : List T} {n : Nat} (hy : 0 < ys.length) (c : ¬ (n : Int) < xs.length) : Ok (atI ys (((n : Int) - xs.length) % ys.length)) fun v => v = atL xs ys n := by
  have e : ((n : Int) - xs.length) % ys.length = (((n - xs.length) % ys.length : Nat) : Int) := by
    rw [Int.natCast_emod, Int.natCast_sub (by omega)]
  have l := Nat.mod_lt (n - xs.length) hy
  rw [e]
  refine ok_at (by omega) (by omega) fun t q => ?_
  rw [Int.toNat_natCast] at q
  unfold atL
  rw [if_neg (by omega), getD_of q]
theorem at_F : AtF U_law_at := fun xs ys n hy => by
  refine eq_ok (k_fun rfl ?_)
  unfold S_law_at
  walk_at "kw"
  refine w_ifE (fun c => ?_) fun c => ?_
  · have c := of_decide_eq_true c
    refine ok_at (by omega) c fun t q => ?_
    rw [Int.toNat_natCast] at q
    unfold atL
    rw [if_pos (by omega), getD_of q]
  · have c := of_decide_eq_false c
    exact ⟨by omega, at_core hy c⟩
theorem stateAt_F : AtF Ustate_at := fun xs ys n hy => by
  refine eq_ok (k_fun rfl ?_)
  unfold Sstate_at
  walk_at "kw"
  refine w_ifE (fun c => ?_) fun c => ?_
  · have c := of_decide_eq_true c
    refine ok_at (by omega) c fun t q => ?_
    rw [Int.toNat_natCast] at q
    unfold atL
    rw [if_pos (by omega), getD_of q]
  · have c := of_decide_eq_false c
    exact ⟨by omega, at_core hy c⟩
def rotL (ys : List T) (r : Nat) : List T := ys.drop r ++ ys.take r
theorem rotL_len {ys : List T} {r : Nat} (h : r ≤ ys.length) : (rotL ys r).length = ys.length := by
  unfold rotL; rw [List.length_append, List.length_drop, List.length_take]; omega
theorem rotL_mem {ys : List T} {r : Nat} {t : T} (h : t ∈ rotL ys r) : t ∈ ys := by
  unfold rotL at h
  rcases List.mem_append.mp h with q | q
  · exact List.mem_of_mem_drop q
  · exact List.mem_of_mem_take q
/-- what stands at a place of a loop that was turned -/
theorem rotL_get {ys : List T} {r n : Nat} (h : r < ys.length) (hn : n < ys.length) : (rotL ys r).getD n .non = ys.getD ((n + r) % ys.length) .non := by
  unfold rotL
  rw [List.getD_eq_getElem?_getD, List.getD_eq_getElem?_getD]
  by_cases c : n < ys.length - r
  · rw [List.getElem?_append_left (by rw [List.length_drop]; omega), List.getElem?_drop, Nat.mod_eq_of_lt (by omega), Nat.add_comm]
  · rw [List.getElem?_append_right (by rw [List.length_drop]; omega), List.length_drop, List.getElem?_take_of_lt (by omega)]
    have : (n + r) % ys.length = n - (ys.length - r) := by
      rw [show n + r = (n - (ys.length - r)) + ys.length from by omega, Nat.add_mod_right, Nat.mod_eq_of_lt (by omega)]
    rw [this]
def RotF (F : List T → Option T) : Prop := ∀ (ys : List T) (c : Int), 0 < ys.length → ys.length ≤ 1000000 → F [.lst ys, .int c] = some (.lst (rotL ys (c % ys.length).toNat))
theorem rot_F : RotF Urotated := fun ys c hy hl => by
  refine eq_ok (k_fun rfl ?_)
  unfold Srotated
  walk_at "kw"
  have h0 := Int.emod_nonneg c (b := (ys.length : Int)) (by omega)
  have h1 := Int.emod_lt_of_pos c (b := (ys.length : Int)) (by omega)
  obtain ⟨r, hr⟩ : ∃ r : Nat, c % (ys.length : Int) = r := ⟨(c % (ys.length : Int)).toNat, by omega⟩
  rw [hr] at h1 ⊢
  rw [cut_from, cut_to, List.length_drop, List.length_take]
  refine ⟨by omega, by omega, ?_⟩
  rw [Int.toNat_natCast]; rfl
def SpansF (F : List T → Option T) : Prop := ∀ c : Int, ∃ a b : Nat, F [.int c] = some (.lst [.int a, .int b]) ∧ a ≤ 24 ∧ 1 ≤ b ∧ b ≤ 16
theorem spans_F : SpansF U_law_spans := fun c => by
  have key : Ok (U_law_spans [.int c]) fun v => ∃ a b : Nat, v = .lst [.int a, .int b] ∧ a ≤ 24 ∧ 1 ≤ b ∧ b ≤ 16 := by
    refine k_fun rfl ?_
    unfold S_law_spans
    walk_at "kw"
    refine w_ifE (fun _ => ?_) fun _ => ?_
    · exact ⟨(c / 240 % 25).toNat, (1 + c / 6000 % 16).toNat, by rw [Int.toNat_of_nonneg (by omega), Int.toNat_of_nonneg (by omega)], by omega, by omega, by omega⟩
    · exact ⟨(c % 6).toNat, (1 + c / 6 % 5).toNat, by rw [Int.toNat_of_nonneg (by omega), Int.toNat_of_nonneg (by omega)], by omega, by omega, by omega⟩
  obtain ⟨v, q, a, b, rfl, p⟩ := key.eq
  exact ⟨a, b, q, p⟩
def ItemsF (F : List T → Option T) : Prop := ∀ (ns : List Int) (i : Int) (a b : Nat), 0 ≤ i → a + b ≤ 1000 → ∃ ts : List T, F [scT ns, .int i, .lst [.int a, .int b]] = some (.lst ts) ∧ ts.length = a + b ∧ ∀ t ∈ ts, Itm t
theorem items_F {Fc Fd Fi : List T → Option T} (cell : CellF Fc) (draws : DrawsF Fd) (item : ∀ d s g : Int, 0 ≤ d → ∃ t, Fi [.int d, .int s, .int g] = some t ∧ Itm t) : ItemsF (U_law_items Fc Fd Fi) := fun ns i a b h0 hab => by
  obtain ⟨xs, q, hl, hx⟩ := draws ns i ((a : Int) + b) h0 ⟨by omega, by omega⟩
  have key : Ok (U_law_items Fc Fd Fi [scT ns, .int i, .lst [.int a, .int b]]) fun v => ∃ ts : List T, v = .lst ts ∧ ts.length = a + b ∧ ∀ t ∈ ts, Itm t := by
    refine k_fun rfl ?_
    unfold S_law_items
    walk_at "ks"
    rw [ok_eq (cell ns 0 (by decide))]
    walk_at "kw"
    rw [ok_eq (cell ns 1 (by decide))]
    walk_at "kw"
    rw [ok_eq q]
    walk_at "kw"
    generalize celO ns 0 % 4 = s
    generalize celO ns 1 % (1000000000000000000 - 2) = g
    refine ⟨by rw [List.length_map]; omega, ?_⟩
    have hg : ∀ x ∈ xs.map T.int, ∃ t, (fCB Fi (fCons (fVar 5) (fCons (fVar 3) (fCons (fVar 4) fNil)))) ([some (scT ns), some (.int i), some (.lst [.int a, .int b]), some (.int s), some (.int g), some x]) = some t ∧ Itm t := fun x hxm => by
      obtain ⟨d, hd, rfl⟩ := List.mem_map.mp hxm
      exact item d s g (hx d hd).1
    have : ∃ us : List T, lcT 5 fYes (fCB Fi (fCons (fVar 5) (fCons (fVar 3) (fCons (fVar 4) fNil)))) [some (scT ns), some (.int i), some (.lst [.int a, .int b]), some (.int s), some (.int g), none] (xs.map T.int) = some us ∧ us.length = (xs.map T.int).length ∧ ∀ t ∈ us, Itm t := by
      revert hg
      generalize xs.map T.int = zs
      intro hg
      clear hx hl q
      induction zs with
      | nil => exact ⟨[], rfl, rfl, fun t h => nomatch h⟩
      | cons z zs ih =>
        obtain ⟨us, u1, u2, u3⟩ := ih fun x hx => hg x (List.mem_cons_of_mem _ hx)
        obtain ⟨t, t1, t2⟩ := hg z List.mem_cons_self
        refine ⟨t :: us, ?_, by rw [List.length_cons, List.length_cons, u2], fun x hx => ?_⟩
        · simp only [lcT, List.set_cons_succ, List.set_cons_zero, t1, u1, fYes, Option.bind, if_true, Option.map_some]
        · rcases List.mem_cons.mp hx with rfl | h
          · exact t2
          · exact u3 x h
    obtain ⟨us, u1, u2, u3⟩ := this
    rw [ok_eq u1]
    exact ⟨us, rfl, by rw [u2, List.length_map, hl]; omega, u3⟩
  obtain ⟨v, q, ts, rfl, p⟩ := key.eq
  exact ⟨ts, q, p⟩
/-! ### the rest from a place on -/
def sufL (xs ys : List T) (n : Nat) : List T × List T := if n ≤ xs.length then (xs.drop n, ys) else ([], rotL ys ((n - xs.length) % ys.length))
def SufF (F : List T → Option T) : Prop := ∀ (xs ys : List T) (n : Nat), 0 < ys.length → ys.length ≤ 1000000 → F [.lst xs, .lst ys, .int n] = some (.tup [.lst (sufL xs ys n).1, .lst (sufL xs ys n).2])
theorem emod_nat {a b : Nat} : ((a : Int) % (b : Int)) = ((a % b : Nat) : Int) := rfl
theorem suf_F {F : List T → Option T} (rot : RotF F) : SufF (Usuffix F) := fun xs ys n hy hl => by
  refine eq_ok (k_fun rfl ?_)
  unfold Ssuffix
  walk_at "kw"
  unfold sufL
  refine w_ifE (fun c => ?_) fun c => ?_
  · have c := of_decide_eq_true c
    rw [cut_from, if_pos (by omega)]
  · have c := of_decide_eq_false c
    rw [ok_eq (rot ys _ hy hl), if_neg (by omega)]
    have : ((n : Int) - xs.length) = ((n - xs.length : Nat) : Int) := by omega
    rw [this, emod_nat, Int.toNat_natCast]
theorem rest_F : SufF U_law_rest := fun xs ys n hy hl => by
  refine eq_ok (k_fun rfl ?_)
  unfold S_law_rest
  walk_at "kw"
  unfold sufL
  refine w_ifE (fun c => ?_) fun c => ?_
  · have c := of_decide_eq_true c
    rw [cut_from, if_pos (by omega)]
  · have c := of_decide_eq_false c
    have : ((n : Int) - xs.length) = ((n - xs.length : Nat) : Int) := by omega
    rw [this, emod_nat, cut_from, cut_to, if_neg (by omega)]
    have l := Nat.mod_lt (n - xs.length) hy
    refine ⟨by omega, by rw [List.length_drop, List.length_take]; omega, rfl⟩
theorem sufL_mem {xs ys : List T} {n : Nat} {t : T} (h : t ∈ (sufL xs ys n).1 ∨ t ∈ (sufL xs ys n).2) : t ∈ xs ++ ys := by
  unfold sufL at h
  by_cases c : n ≤ xs.length
  · rw [if_pos c] at h
    rcases h with h | h
    · exact List.mem_append_left _ (List.mem_of_mem_drop h)
    · exact List.mem_append_right _ h
  · rw [if_neg c] at h
    rcases h with h | h
    · cases h
    · exact List.mem_append_right _ (rotL_mem h)
theorem sufL_len {xs ys : List T} {n : Nat} (hy : 0 < ys.length) : (sufL xs ys n).1.length ≤ xs.length ∧ (sufL xs ys n).2.length = ys.length := by
  unfold sufL
  by_cases c : n ≤ xs.length
  · rw [if_pos c]; exact ⟨by rw [List.length_drop]; omega, rfl⟩
  · rw [if_neg c]
    exact ⟨by simp, rotL_len (Nat.le_of_lt (Nat.mod_lt _ hy))⟩
/-- a list of items is plain -/
theorem pl_items {ts : List T} (h : ∀ t ∈ ts, Itm t) (l : ts.length ≤ 1000000) : Pl 2 (.lst ts) := .lst (fun t ht => (h t ht).pl) l
theorem same_true {F : Nat → List T → Option T} (s : SameF F) {k j : Nat} {a : T} (h : Pl j a) (l : j + 1 ≤ k) : F k [a, a] = some (.bl true) := by
  obtain ⟨b, q, hb⟩ := s j (k - j - 1) a a h h
  rw [show k - j - 1 + j + 1 = k from by omega] at q
  rw [q, hb.mpr rfl]
theorem pl2 {j : Nat} {a b : T} (h1 : Pl j a) (h2 : Pl j b) : Pl (j + 1) (.lst [a, b]) ∧ Pl (j + 1) (.tup [a, b]) := by
  have h : ∀ x ∈ [a, b], Pl j x := fun x hx => by
    simp only [List.mem_cons, List.not_mem_nil, or_false] at hx
    rcases hx with rfl | rfl
    · exact h1
    · exact h2
  exact ⟨.lst h (by simp), .tup h (by simp)⟩
end LA
namespace GR
open PySem L2 Mi Fu LA
local macro_rules | `(tactic| walk_at "kw") => `(tactic| try simp (decide := true) only [Fu.k_c, Fu.k_var, Fu.k_op, Fu.k_un, Fu.k_nil, Fu.k_cons, Fu.k_star, Fu.k_tup, Fu.k_lst, Fu.k_cb, Fu.k_cbF, Fu.flatT_i, Fu.flatT_s, Fu.flatT_b, Fu.flatT_n, Fu.k_test, Fu.asB_bl, Fu.asI_int, Fu.k_not, Fu.k_and, Fu.k_or, Fu.k_yes, Fu.k_notV, Fu.k_andV, Fu.k_orV, Fu.k_if, Fu.k_oN, Fu.k_oS, Fu.k_sl, Fu.k_chain, Fu.k_isi, Fu.asS_str, Fu.k_kd, Fu.k_kin, Fu.k_lc, Fu.k_seq, Fu.k_r1, Fu.k_r2, Fu.s_next, Fu.s_seq, Fu.s_set, Fu.s_own, Fu.s_asg, Fu.s_drop, Fu.s_ret, Fu.s_retN, Fu.s_brk, Fu.s_cnt, Fu.s_if, Fu.s_aug, Fu.k_gNm, Fu.k_gNil, Fu.k_gCons, Fu.k_gTp, Fu.asL_lst, Fu.asTp_tup, Fu.p_var, Fu.k_pth, Fu.p_ix, Fu.p_cm, id, Fu.s_app, Fu.s_pop, Fu.s_popD, Fu.s_rev, Fu.s_clr, Fu.s_put, Fu.s_callP, Fu.s_mvP, Fu.k_cbP, Fu.asP_mk, Fu.k_lcP, Fu.k_en, Fu.k_rv, Fu.k_zp, Fu.lstO_l, Fu.lstO_f, Fu.bOpT_bb, Fu.k_fld, Fu.asO_obj, Fu.s_for, Fu.s_while, Fu.ok_some, Fu.ok_ite, Fu.wipeT,
  Fu.addT_ii, Fu.addT_ll, Fu.addT_ss, Fu.addT_tt, Fu.catT_ll, Fu.subT_ii, Fu.mulT_ii, Fu.mulT_li, Fu.repT_li, Fu.fdivT_ii, Fu.modT_ii, Fu.powT_ii, Fu.negT_i, Fu.ltT_ii, Fu.leT_ii, Fu.gtT_ii, Fu.geT_ii, Fu.eqST_ii, Fu.eqST_ss, Fu.eqST_bb, Fu.eqT_ii, Fu.eqT_ss, Fu.eqT_bb, Fu.ok_oBl, Fu.ok_oNb, Fu.isNT_n, Fu.isNT_i, Fu.isNT_l, Fu.isNT_t, Fu.isNT_b, Fu.isNT_s, Fu.lenT_l, Fu.lenT_t, Fu.lenT_f, Fu.itemsT_l, Fu.itemsT_t, Fu.itemsT_f, Fu.lstT_l, Fu.lstT_t, Fu.lstT_f, Fu.tupT_l, Fu.tupT_t, Fu.ixT_l, Fu.ixT_t, Fu.ixT_f, Fu.intT_i, Fu.absT_i, Fu.max2T_i, Fu.min2T_i, Fu.slT_l, Fu.slLT_l, Fu.tyT_i, Fu.tyT_s, Fu.tyT_b, Fu.tyT_t, Fu.tyT_l, Fu.tyT_f, Fu.tyT_n,
  List.getElem?_cons_zero, List.getElem?_cons_succ, List.getD_cons_zero, List.getD_cons_succ, List.set_cons_zero, List.set_cons_succ, List.map_cons, List.map_nil, List.replicate, List.append_nil, List.cons_append, List.nil_append, List.length_cons, List.length_nil, Nat.reduceAdd, Nat.reduceSub, Nat.reduceLT, Nat.reduceLeDiff, Nat.zero_add, Int.reduceToNat, Int.reducePow, Int.reduceNeg, Mi.mulC_r, Mi.atI_0, Mi.atI_1, Mi.atI_2,
  subTy, decide_true, decide_false, Bool.or_self, Bool.or_true, Bool.true_or, Bool.or_false, Bool.false_or, Bool.and_true, Bool.true_and, Bool.and_false, Bool.false_and, Bool.and_self, Bool.not_true, Bool.not_false, Bool.false_eq_true, Bool.true_eq_false, true_and, and_true, and_self, if_true, if_false, ite_true, ite_false])
local macro_rules | `(tactic| walk_at "k1") => `(tactic| try simp (decide := true) only [Fu.k_c, Fu.k_var, Fu.k_op, Fu.k_un, Fu.k_nil, Fu.k_cons, Fu.k_star, Fu.k_tup, Fu.k_lst, Fu.k_cb, Fu.k_cbF, Fu.flatT_i, Fu.flatT_s, Fu.flatT_b, Fu.flatT_n, Fu.k_test, Fu.asB_bl, Fu.asI_int, Fu.k_not, Fu.k_and, Fu.k_or, Fu.k_yes, Fu.k_notV, Fu.k_andV, Fu.k_orV, Fu.k_if, Fu.k_oN, Fu.k_oS, Fu.k_sl, Fu.k_chain, Fu.k_isi, Fu.asS_str, Fu.k_kd, Fu.k_kin, Fu.k_lc, Fu.k_seq, Fu.k_r1, Fu.k_r2, Fu.s_next, Fu.s_set, Fu.s_own, Fu.s_asg, Fu.s_drop, Fu.s_ret, Fu.s_retN, Fu.s_brk, Fu.s_cnt, Fu.s_if, Fu.s_aug, Fu.k_gNm, Fu.k_gNil, Fu.k_gCons, Fu.k_gTp, Fu.asL_lst, Fu.asTp_tup, Fu.p_var, Fu.k_pth, Fu.p_ix, Fu.p_cm, id, Fu.s_app, Fu.s_pop, Fu.s_popD, Fu.s_rev, Fu.s_clr, Fu.s_put, Fu.s_callP, Fu.s_mvP, Fu.k_cbP, Fu.asP_mk, Fu.k_lcP, Fu.k_en, Fu.k_rv, Fu.k_zp, Fu.lstO_l, Fu.lstO_f, Fu.bOpT_bb, Fu.k_fld, Fu.asO_obj, Fu.s_for, Fu.s_while, Fu.ok_some, Fu.ok_ite, Fu.wipeT,
  Fu.addT_ii, Fu.addT_ll, Fu.addT_ss, Fu.addT_tt, Fu.catT_ll, Fu.subT_ii, Fu.mulT_ii, Fu.mulT_li, Fu.repT_li, Fu.fdivT_ii, Fu.modT_ii, Fu.powT_ii, Fu.negT_i, Fu.ltT_ii, Fu.leT_ii, Fu.gtT_ii, Fu.geT_ii, Fu.eqST_ii, Fu.eqST_ss, Fu.eqST_bb, Fu.eqT_ii, Fu.eqT_ss, Fu.eqT_bb, Fu.ok_oBl, Fu.ok_oNb, Fu.isNT_n, Fu.isNT_i, Fu.isNT_l, Fu.isNT_t, Fu.isNT_b, Fu.isNT_s, Fu.lenT_l, Fu.lenT_t, Fu.lenT_f, Fu.itemsT_l, Fu.itemsT_t, Fu.itemsT_f, Fu.lstT_l, Fu.lstT_t, Fu.lstT_f, Fu.tupT_l, Fu.tupT_t, Fu.ixT_l, Fu.ixT_t, Fu.ixT_f, Fu.intT_i, Fu.absT_i, Fu.max2T_i, Fu.min2T_i, Fu.slT_l, Fu.slLT_l, Fu.tyT_i, Fu.tyT_s, Fu.tyT_b, Fu.tyT_t, Fu.tyT_l, Fu.tyT_f, Fu.tyT_n,
  List.getElem?_cons_zero, List.getElem?_cons_succ, List.getD_cons_zero, List.getD_cons_succ, List.set_cons_zero, List.set_cons_succ, List.map_cons, List.map_nil, List.replicate, List.append_nil, List.cons_append, List.nil_append, List.length_cons, List.length_nil, Nat.reduceAdd, Nat.reduceSub, Nat.reduceLT, Nat.reduceLeDiff, Nat.zero_add, Int.reduceToNat, Int.reducePow, Int.reduceNeg, Mi.mulC_r, Mi.atI_0, Mi.atI_1, Mi.atI_2,
  subTy, decide_true, decide_false, Bool.or_self, Bool.or_true, Bool.true_or, Bool.or_false, Bool.false_or, Bool.and_true, Bool.true_and, Bool.and_false, Bool.false_and, Bool.and_self, Bool.not_true, Bool.not_false, Bool.false_eq_true, Bool.true_eq_false, true_and, and_true, and_self, if_true, if_false, ite_true, ite_false])
local macro_rules | `(tactic| walk_at "ks") => `(tactic| (rw [Fu.s_seq]; walk_at "k1"))
-- slots of _law_cell: 0 script 1 k
def S_law_cell : FS :=
  (fSeqS (fIfS (fTest (fOp ltT (fVar 1) (fCB lenT (fCons (fVar 0) fNil))))
      (fRet (fCB intT (fCons (fOp ixT (fVar 0) (fVar 1)) fNil)))
      fNext)
      (fRet (fC (.int 0))))
abbrev U_law_cell : List T → Option T := funT false 2 2 (S_law_cell)
-- slots of _law_draws: 0 script 1 place 2 count 3 base 4 cell 5 out 6 mixed 7 k 8 rest 9 again
def S_law_draws (F_law_cell : List T → Option T) : FS :=
  (fSeqS (fSet (fCB F_law_cell (fCons (fVar 0) (fCons (fVar 1) fNil))) 4)
      (fSeqS (fOwn (fLst fNil) 5)
      (fSeqS (fIfS (fTest (fOp geT (fVar 4) (fOp powT (fC (.int 10)) (fC (.int 18)))))
      (fSeqS (fSet (fOp subT (fVar 4) (fOp powT (fC (.int 10)) (fC (.int 18)))) 8)
      (fSeqS (fFor (fR1 (fVar 2)) (gtNm 7)
      (fSeqS (fApp 5 (pVar 5) (fOp modT (fCB intT (fCons (fVar 8) fNil)) (fVar 3)))
      (fSet (fOp fdivT (fVar 8) (fVar 3)) 8)))
      (fRet (fVar 5))))
      fNext)
      (fSeqS (fSet (fOp modT (fCB intT (fCons (fOp addT (fOp mulT (fVar 4) (fC (.int 48271))) (fOp mulT (fVar 1) (fC (.int 69621)))) fNil)) (fC (.int 2147483647))) 6)
      (fSeqS (fFor (fR1 (fVar 2)) (gtNm 7)
      (fSeqS (fSet (fOp modT (fCB intT (fCons (fOp addT (fOp addT (fOp mulT (fVar 6) (fC (.int 16807))) (fOp mulT (fVar 7) (fC (.int 48271)))) (fC (.int 12345))) fNil)) (fC (.int 2147483647))) 6)
      (fSeqS (fSet (fOp modT (fCB intT (fCons (fOp addT (fOp mulT (fVar 6) (fVar 6)) (fOp mulT (fVar 6) (fC (.int 69621)))) fNil)) (fC (.int 2147483629))) 9)
      (fApp 5 (pVar 5) (fOp modT (fCB intT (fCons (fOp fdivT (fVar 9) (fC (.int 16))) fNil)) (fVar 3))))))
      (fRet (fVar 5)))))))
abbrev U_law_draws (F_law_cell : List T → Option T) : List T → Option T := funT true 4 10 (S_law_draws F_law_cell)
-- slots of _law_graph: 0 script 1 sizes 2 size 3 many 4 draws 5 after 6 v 7 w
def S_law_graph (F_law_draws : List T → Option T) : FS :=
  (fSeqS (fSet (fOp addT (fC (.int 1)) (fOp modT (fCB intT (fCons (fOp ixT (fVar 1) (fC (.int 1))) fNil)) (fC (.int 6)))) 2)
      (fSeqS (fIfS (fTest (fOp (oBl eqST) (fOp modT (fCB intT (fCons (fOp ixT (fVar 1) (fC (.int 0))) fNil)) (fC (.int 8))) (fC (.int 7))))
      (fSet (fOp addT (fC (.int 7)) (fOp modT (fCB intT (fCons (fOp ixT (fVar 1) (fC (.int 1))) fNil)) (fC (.int 6)))) 2)
      fNext)
      (fSeqS (fIfS (fTest (fOp (oBl eqST) (fOp modT (fCB intT (fCons (fOp ixT (fVar 1) (fC (.int 0))) fNil)) (fC (.int 24))) (fC (.int 6))))
      (fSet (fC (.int 0)) 2)
      fNext)
      (fSeqS (fSet (fOp ixT (fLst (fCons (fC (.int 1)) (fCons (fC (.int 2)) (fCons (fC (.int 2)) (fCons (fC (.int 3)) (fCons (fC (.int 4)) (fCons (fC (.int 7)) fNil))))))) (fOp modT (fCB intT (fCons (fOp ixT (fVar 1) (fC (.int 2))) fNil)) (fC (.int 6)))) 3)
      (fSeqS (fIfS (fTest (fOp gtT (fVar 2) (fC (.int 6))))
      (fSet (fOp addT (fC (.int 1)) (fOp fdivT (fVar 3) (fC (.int 4)))) 3)
      fNext)
      (fSeqS (fSet (fCB F_law_draws (fCons (fVar 0) (fCons (fC (.int 1)) (fCons (fOp mulT (fVar 2) (fVar 2)) (fCons (fC (.int 12)) fNil))))) 4)
      (fSeqS (fOwn (fLst fNil) 5)
      (fSeqS (fFor (fR1 (fVar 2)) (gtNm 6)
      (fApp 5 (pVar 5) (fLc (fR1 (fVar 2)) 7 (fTest (fOp ltT (fOp ixT (fVar 4) (fOp addT (fOp mulT (fVar 6) (fVar 2)) (fVar 7))) (fVar 3))) (fVar 7) [7])))
      (fRet (fVar 5))))))))))
abbrev U_law_graph (F_law_draws : List T → Option T) : List T → Option T := funT true 2 8 (S_law_graph F_law_draws)
-- slots of _law_long_graph: 0 script 1 sizes 2 size 3 step 4 draws 5 after 6 v 7 near
def S_law_long_graph (F_law_draws : List T → Option T) : FS :=
  (fSeqS (fSet (fOp addT (fC (.int 20)) (fOp modT (fCB intT (fCons (fOp ixT (fVar 1) (fC (.int 1))) fNil)) (fC (.int 41)))) 2)
      (fSeqS (fSet (fOp subT (fC (.int 1)) (fOp mulT (fC (.int 2)) (fOp modT (fCB intT (fCons (fOp ixT (fVar 1) (fC (.int 3))) fNil)) (fC (.int 2))))) 3)
      (fSeqS (fSet (fCB F_law_draws (fCons (fVar 0) (fCons (fC (.int 1)) (fCons (fVar 2) (fCons (fC (.int 240)) fNil))))) 4)
      (fSeqS (fOwn (fLst fNil) 5)
      (fSeqS (fFor (fR1 (fVar 2)) (gtNm 6)
      (fSeqS (fOwn (fLst fNil) 7)
      (fSeqS (fIfS (fAnd (fTest (fOp ltT (fOp modT (fCB intT (fCons (fOp ixT (fVar 4) (fVar 6)) fNil)) (fC (.int 4))) (fC (.int 2)))) (fTest (fOp ltT (fOp fdivT (fOp ixT (fVar 4) (fVar 6)) (fC (.int 4))) (fVar 2))))
      (fApp 7 (pVar 7) (fOp fdivT (fOp ixT (fVar 4) (fVar 6)) (fC (.int 4))))
      fNext)
      (fSeqS (fIfS (fAnd (fTest (fOp gtT (fOp modT (fCB intT (fCons (fOp ixT (fVar 4) (fVar 6)) fNil)) (fC (.int 4))) (fC (.int 0)))) (fAnd (fTest (fChain leT ltT (fC (.int 0)) (fOp addT (fVar 6) (fVar 3)) (fVar 2))) (fTest (fOp (memDT true) (fOp addT (fVar 6) (fVar 3)) (fVar 7)))))
      (fApp 7 (pVar 7) (fOp addT (fVar 6) (fVar 3)))
      fNext)
      (fApp 5 (pVar 5) (fCB sortT (fCons (fVar 7) fNil)))))))
      (fRet (fVar 5)))))))
abbrev U_law_long_graph (F_law_draws : List T → Option T) : List T → Option T := funT true 2 8 (S_law_long_graph F_law_draws)
-- slots of _law_chosen: 0 script 1 place 2 size 3 share 4 draws 5 v
def S_law_chosen (F_law_draws : List T → Option T) : FS :=
  (fSeqS (fSet (fCB F_law_draws (fCons (fVar 0) (fCons (fVar 1) (fCons (fVar 2) (fCons (fC (.int 12)) fNil))))) 4)
      (fRet (fLc (fR1 (fVar 2)) 5 (fTest (fOp ltT (fOp ixT (fVar 4) (fVar 5)) (fVar 3))) (fVar 5) [5])))
abbrev U_law_chosen (F_law_draws : List T → Option T) : List T → Option T := funT true 4 6 (S_law_chosen F_law_draws)
-- slots of _law_turned: 0 nodes 1 kind
def S_law_turned : FS :=
  (fSeqS (fIfS (fTest (fOp (oBl eqST) (fOp modT (fCB intT (fCons (fVar 1) fNil)) (fC (.int 4))) (fC (.int 2))))
      (fRet (fUn lrevT (fVar 0)))
      fNext)
      (fSeqS (fIfS (fTest (fOp (oBl eqST) (fOp modT (fCB intT (fCons (fVar 1) fNil)) (fC (.int 4))) (fC (.int 3))))
      (fRet (fOp catT (fOp addT (fSl slT (fVar 0) (foSome (fC (.int 1))) foNone) (fVar 0)) (fSl slT (fVar 0) foNone (foSome (fC (.int 1))))))
      fNext)
      (fRet (fCB lstT (fCons (fVar 0) fNil)))))
abbrev U_law_turned : List T → Option T := funT true 2 2 (S_law_turned)
-- slots of _law_starts: 0 script 1 place 2 size 3 roll 4 starts 5 one
def S_law_starts (F_law_chosen : List T → Option T) : FS :=
  (fSeqS (fOwn (fCB F_law_chosen (fCons (fVar 0) (fCons (fVar 1) (fCons (fVar 2) (fCons (fOp ixT (fLst (fCons (fC (.int 1)) (fCons (fC (.int 2)) (fCons (fC (.int 4)) (fCons (fC (.int 12)) fNil))))) (fOp modT (fCB intT (fCons (fVar 3) fNil)) (fC (.int 4)))) fNil))))) 4)
      (fSeqS (fIfS (fAnd (fTest (fOp gtT (fVar 2) (fC (.int 0)))) (fTest (fOp gtT (fOp modT (fCB intT (fCons (fOp fdivT (fVar 3) (fC (.int 4))) fNil)) (fC (.int 6))) (fC (.int 0)))))
      (fSeqS (fSet (fOp modT (fCB intT (fCons (fOp fdivT (fVar 3) (fC (.int 24))) fNil)) (fVar 2)) 5)
      (fIfS (fTest (fOp (memDT true) (fVar 5) (fVar 4)))
      (fApp 4 (pVar 4) (fVar 5))
      fNext))
      fNext)
      (fRet (fVar 4))))
abbrev U_law_starts (F_law_chosen : List T → Option T) : List T → Option T := funT true 4 6 (S_law_starts F_law_chosen)
-- slots of _law_is_integer: 0 actual
def S_law_is_integer : FS :=
  (fRet (fAndV (fIsi Ty.int (fVar 0)) (fNotV (fIsi Ty.bool (fVar 0)))))
abbrev U_law_is_integer : List T → Option T := funT false 1 1 (S_law_is_integer)
-- slots of _law_copy: 0 rows 1 row
def S_law_copy : FS :=
  (fRet (fLc (fSeq (fVar 0)) 1 fYes (fCB lstT (fCons (fVar 1) fNil)) [1]))
abbrev U_law_copy : List T → Option T := funT true 1 2 (S_law_copy)
-- slots of distances: 0 after 1 starts 2 found 3 start 4 queue 5 done 6 node 7 ahead
def Sdistances (M : Nat) : FS :=
  (fSeqS (fOwn (fOp repT (fLst (fCons (fC .non) fNil)) (fCB lenT (fCons (fVar 0) fNil))) 2)
      (fSeqS (fFor (fSeq (fVar 1)) (gtNm 3)
      (fPut 2 (pVar 2) (fVar 3) (fC (.int 0))))
      (fSeqS (fOwn (fUn ssetT (fVar 1)) 4)
      (fSeqS (fSet (fC (.int 0)) 5)
      (fSeqS (fWhile M (fTest (fOp ltT (fVar 5) (fCB lenT (fCons (fVar 4) fNil))))
      (fSeqS (fSet (fOp ixT (fVar 4) (fVar 5)) 6)
      (fSeqS (fAugI 5 (· + ·) (fC (.int 1)))
      (fFor (fSeq (fOp ixT (fVar 0) (fVar 6))) (gtNm 7)
      (fIfS (fTest (fOp (oBl isNT) (fOp ixT (fVar 2) (fVar 7)) (fC .non)))
      (fSeqS (fPut 2 (pVar 2) (fVar 7) (fOp addT (fOp ixT (fVar 2) (fVar 6)) (fC (.int 1))))
      (fApp 4 (pVar 4) (fVar 7)))
      fNext)))))
      (fRet (fVar 2)))))))
abbrev Udistances (M : Nat) : List T → Option T := funT true 2 8 (Sdistances M)
/-! ### drawn numbers -/
theorem gcell_F : CellF GR.U_law_cell := fun ns i h0 => by
  refine eq_ok (k_fun rfl ?_)
  unfold GR.S_law_cell scT
  walk_at "kw"
  rw [List.length_map]
  refine w_ifE (fun c => ?_) fun c => ?_
  · have c := of_decide_eq_true c
    refine ok_at h0 (by rw [List.length_map]; exact c) fun t e => ?_
    rw [List.getElem?_map] at e
    unfold celO
    rw [List.getD_eq_getElem?_getD]
    cases q : ns[i.toNat]? with
    | none => rw [q] at e; cases e
    | some x => rw [q] at e; cases e; walk_at "kw"; rfl
  · have c := of_decide_eq_false c
    unfold celO
    rw [List.getD_eq_getElem?_getD, List.getElem?_eq_none (by omega)]; rfl
def DrawF (F : List T → Option T) : Prop := ∀ (ns : List Int) (place count base : Int), 0 ≤ place → 0 ≤ count ∧ count ≤ 5000 → 0 < base ∧ base < 1073741824 → ∃ xs : List Int, F [scT ns, .int place, .int count, .int base] = some (.lst (xs.map T.int)) ∧ xs.length = count.toNat ∧ ∀ x ∈ xs, 0 ≤ x ∧ x < base
theorem draw_F {F : List T → Option T} (cell : CellF F) : DrawF (GR.U_law_draws F) := fun ns place count base h0 hc hb => by
  have key : Ok (GR.U_law_draws F [scT ns, .int place, .int count, .int base]) fun v => ∃ xs : List Int, v = .lst (xs.map T.int) ∧ xs.length = count.toNat ∧ ∀ x ∈ xs, 0 ≤ x ∧ x < base := by
    refine k_fun rfl ?_
    unfold GR.S_law_draws
    walk_at "ks"
    rw [ok_eq (cell ns place h0)]
    walk_at "ks"; walk_at "ks"
    generalize celO ns place = c
    have hmod : ∀ z : Int, 0 ≤ z % base ∧ z % base < base := fun z => ⟨Int.emod_nonneg _ (by omega), Int.emod_lt_of_pos _ hb.1⟩
    have fin : ∀ (i : Nat) (xs : List Int), xs.length = i → i < count.toNat → (∀ x ∈ xs, 0 ≤ x ∧ x < base) → ∀ y : Int, 0 ≤ y ∧ y < base → (xs.map T.int).length < 16777216 ∧ (xs ++ [y]).length = i + 1 ∧ (∀ x ∈ xs ++ [y], 0 ≤ x ∧ x < base) := fun i xs hl hi hx y hy => by
      refine ⟨by rw [List.length_map]; omega, by rw [List.length_append, hl]; rfl, fun x h => ?_⟩
      rcases List.mem_append.mp h with h | h
      · exact hx x h
      · have e : x = y := by simpa using h
        rw [e]; exact hy
    refine w_ifE (fun _ => ?_) fun _ => ?_
    · walk_at "ks"; walk_at "ks"
      refine ⟨by omega, ?_⟩
      refine for_rng (fun i e' => ∃ (rest : Int) (o7 : Option T) (xs : List Int), e' = [some (scT ns), some (.int place), some (.int count), some (.int base), some (.int c), some (.lst (xs.map T.int)), none, o7, some (.int rest), none] ∧ xs.length = i ∧ ∀ x ∈ xs, 0 ≤ x ∧ x < base) ⟨_, none, [], rfl, rfl, fun x hx => nomatch hx⟩ ?_ ?_
      · rintro i _ hi ⟨rest, o7, xs, rfl, hl, hx⟩
        walk_at "k1"; walk_at "ks"
        refine ⟨hb.1, ?_⟩
        obtain ⟨f0, f1, f2⟩ := fin i xs hl hi hx (rest % base) (hmod _)
        refine ⟨f0, ?_⟩
        walk_at "k1"
        refine ⟨hb, ?_⟩
        exact ⟨_, _, xs ++ [rest % base], by rw [List.map_append]; rfl, f1, f2⟩
      · rintro _ ⟨rest, o7, xs, rfl, hl, hx⟩
        walk_at "kw"
        exact ⟨xs, rfl, hl, hx⟩
    · walk_at "ks"; walk_at "ks"
      refine ⟨by omega, ?_⟩
      refine for_rng (fun i e' => ∃ (mx : Int) (o7 o9 : Option T) (xs : List Int), e' = [some (scT ns), some (.int place), some (.int count), some (.int base), some (.int c), some (.lst (xs.map T.int)), some (.int mx), o7, none, o9] ∧ (0 ≤ mx ∧ mx < 2147483647) ∧ xs.length = i ∧ ∀ x ∈ xs, 0 ≤ x ∧ x < base) ⟨_, none, none, [], rfl, by omega, rfl, fun x hx => nomatch hx⟩ ?_ ?_
      · rintro i _ hi ⟨mx, o7, o9, xs, rfl, hm, hl, hx⟩
        walk_at "k1"; walk_at "ks"
        generalize hq : (mx * 16807 + (0 + (i : Int)) * 48271 + 12345) % 2147483647 = q
        have hq2 : 0 ≤ q ∧ q < 2147483647 := by omega
        walk_at "ks"
        refine ⟨.inl ⟨by omega, by omega⟩, ?_⟩
        generalize hq3 : (q * q + q * 69621) % 2147483629 = q3
        walk_at "k1"
        refine ⟨hb.1, ?_⟩
        obtain ⟨f0, f1, f2⟩ := fin i xs hl hi hx (q3 / 16 % base) (hmod _)
        exact ⟨f0, _, _, _, xs ++ [q3 / 16 % base], by rw [List.map_append]; rfl, hq2, f1, f2⟩
      · rintro _ ⟨mx, o7, o9, xs, rfl, hm, hl, hx⟩
        walk_at "kw"
        exact ⟨xs, rfl, hl, hx⟩
  obtain ⟨v, q, xs, rfl, p⟩ := key.eq
  exact ⟨xs, q, p⟩
/-! ### graphs -/
def rowI (r : List Int) : T := .lst (r.map T.int)
def grT (g : List (List Int)) : T := .lst (g.map rowI)
structure Gr (n : Nat) (g : List (List Int)) : Prop where
  len : g.length = n
  nd : ∀ r ∈ g, ∀ x ∈ r, 0 ≤ x ∧ x < (n : Int)
  sz : ∀ r ∈ g, r.length ≤ 100
  le : n ≤ 60
def rI (n : Nat) : List Int := (List.range n).map fun i => ((i : Nat) : Int)
theorem rng_rI {n : Nat} : rngT 0 n = (rI n).map T.int := by
  unfold rngT rI; rw [List.map_map]; exact List.map_congr_left fun i _ => by show T.int (0 + (i : Int)) = _; rw [Int.zero_add]; rfl
theorem rI_len {n : Nat} : (rI n).length = n := by unfold rI; rw [List.length_map, List.length_range]
theorem rI_mem {n : Nat} {x : Int} : x ∈ rI n ↔ 0 ≤ x ∧ x < n := by
  unfold rI
  rw [List.mem_map]
  constructor
  · rintro ⟨i, hi, rfl⟩; have := List.mem_range.mp hi; omega
  · rintro ⟨h0, h1⟩; exact ⟨x.toNat, List.mem_range.mpr (by omega), by omega⟩
theorem at_int {zs : List Int} {z : Int} (h0 : 0 ≤ z) (h : z < zs.length) : atI (zs.map T.int) z = some (.int (zs.getD z.toNat 0)) := by
  refine atI_ge h0 ?_
  rw [List.getElem?_map, List.getElem?_eq_getElem (by omega), List.getD_eq_getElem?_getD, List.getElem?_eq_getElem (by omega)]; rfl
theorem getD_mem' {zs : List Int} {i : Nat} (h : i < zs.length) : zs.getD i 0 ∈ zs := by
  rw [List.getD_eq_getElem?_getD, List.getElem?_eq_getElem h]; exact List.getElem_mem h
/-- the drawn sizes -/
structure Szs (zs : List Int) : Prop where
  len : zs.length = 8
  nn : ∀ z ∈ zs, 0 ≤ z
theorem Szs.at_ {zs : List Int} (s : Szs zs) {k : Int} (h0 : 0 ≤ k) (h : k < 8) : ∃ z : Int, atI (zs.map T.int) k = some (.int z) ∧ 0 ≤ z :=
  ⟨_, at_int h0 (by rw [s.len]; exact h), s.nn _ (getD_mem' (by rw [s.len]; omega))⟩
def GraphF (F : List T → Option T) : Prop := ∀ (ns zs : List Int), Szs zs → ∃ (n : Nat) (g : List (List Int)), F [scT ns, .lst (zs.map T.int)] = some (grT g) ∧ Gr n g
theorem filter_I {n : Nat} {p : T → Bool} : ((rI n).map T.int).filter p = ((rI n).filter fun z => p (.int z)).map T.int := by
  rw [List.filter_map]; rfl
theorem gr_app {n i : Nat} {g : List (List Int)} {r : List Int} (hg : g.length = i ∧ ∀ r ∈ g, (∀ x ∈ r, 0 ≤ x ∧ x < (n : Int)) ∧ r.length ≤ 100) (hr : (∀ x ∈ r, 0 ≤ x ∧ x < (n : Int)) ∧ r.length ≤ 100) : (g ++ [r]).length = i + 1 ∧ ∀ r' ∈ g ++ [r], (∀ x ∈ r', 0 ≤ x ∧ x < (n : Int)) ∧ r'.length ≤ 100 := by
  refine ⟨by rw [List.length_append, hg.1]; rfl, fun r' h => ?_⟩
  rcases List.mem_append.mp h with h | h
  · exact hg.2 r' h
  · rw [List.mem_singleton.mp h]; exact hr
theorem graph_F {F : List T → Option T} (dr : DrawF F) : GraphF (GR.U_law_graph F) := fun ns zs hz => by
  have key : Ok (GR.U_law_graph F [scT ns, .lst (zs.map T.int)]) fun v => ∃ (n : Nat) (g : List (List Int)), v = grT g ∧ Gr n g := by
    obtain ⟨z0, e0, h0⟩ := hz.at_ (k := 0) (by decide) (by decide)
    obtain ⟨z1, e1, h1⟩ := hz.at_ (k := 1) (by decide) (by decide)
    obtain ⟨z2, e2, h2⟩ := hz.at_ (k := 2) (by decide) (by decide)
    refine k_fun rfl ?_
    unfold GR.S_law_graph
    walk_at "ks"
    rw [ok_eq e1]
    walk_at "k1"
    refine n_cutF (fun e' => ∃ n : Nat, n ≤ 12 ∧ e' = [some (scT ns), some (.lst (zs.map T.int)), some (.int n), none, none, none, none, none]) ?_ ?_
    · walk_at "k1"
      rw [ok_eq e0]
      walk_at "k1"
      refine w_ifE (fun _ => ?_) fun _ => ?_
      · rw [ok_eq e1]
        walk_at "k1"
        exact ⟨(7 + z1 % 6).toNat, by omega, by rw [Int.toNat_of_nonneg (by omega)]⟩
      · exact ⟨(1 + z1 % 6).toNat, by omega, by rw [Int.toNat_of_nonneg (by omega)]⟩
    rintro _ ⟨n, hn, rfl⟩
    refine n_cutF (fun e' => ∃ n : Nat, n ≤ 12 ∧ e' = [some (scT ns), some (.lst (zs.map T.int)), some (.int n), none, none, none, none, none]) ?_ ?_
    · walk_at "k1"
      rw [ok_eq e0]
      walk_at "k1"
      exact w_ifE (fun _ => ⟨0, by omega, rfl⟩) fun _ => ⟨n, hn, rfl⟩
    clear hn n
    rintro _ ⟨n, hn, rfl⟩
    walk_at "ks"
    rw [ok_eq e2]
    walk_at "k1"
    refine ok_at (by omega) (by show z2 % 6 < 6; omega) fun t ht => ?_
    have : ∃ m : Int, t = .int m := by
      have := List.mem_of_getElem? ht
      simp only [List.mem_cons, List.not_mem_nil, or_false] at this
      rcases this with rfl | rfl | rfl | rfl | rfl | rfl <;> exact ⟨_, rfl⟩
    obtain ⟨m, rfl⟩ := this
    refine n_cutF (fun e' => ∃ m : Int, e' = [some (scT ns), some (.lst (zs.map T.int)), some (.int n), some (.int m), none, none, none, none]) ?_ ?_
    · walk_at "k1"
      exact w_ifE (fun _ => ⟨_, rfl⟩) fun _ => ⟨_, rfl⟩
    clear ht m
    rintro _ ⟨m, rfl⟩
    walk_at "ks"
    refine ⟨.inl ⟨by omega, by omega⟩, ?_⟩
    have hnn : (n : Int) * n ≤ 144 := by
      have : n * n ≤ 12 * 12 := Nat.mul_le_mul hn hn
      have e : ((n * n : Nat) : Int) = (n : Int) * n := Int.natCast_mul n n
      omega
    have hnn0 : (0 : Int) ≤ (n : Int) * n := Int.mul_nonneg (by omega) (by omega)
    obtain ⟨ds, q, hl, hd⟩ := dr ns 1 ((n : Int) * n) 12 (by decide) ⟨hnn0, by omega⟩ (by decide)
    rw [ok_eq q]
    walk_at "ks"; walk_at "ks"
    refine ⟨by omega, ?_⟩
    refine for_rng (fun i e' => ∃ (o6 : Option T) (g : List (List Int)), e' = [some (scT ns), some (.lst (zs.map T.int)), some (.int n), some (.int m), some (.lst (ds.map T.int)), some (grT g), o6, none] ∧ g.length = i ∧ ∀ r ∈ g, (∀ x ∈ r, 0 ≤ x ∧ x < (n : Int)) ∧ r.length ≤ 100) ⟨none, [], rfl, rfl, fun r h => nomatch h⟩ ?_ ?_
    · rintro i _ hi ⟨o6, g, rfl, hg⟩
      have hi : i < n := by omega
      walk_at "k1"
      unfold grT
      walk_at "k1"
      rw [rng_rI, Int.toNat_natCast]
      refine ⟨by omega, by rw [List.length_map, rI_len]; omega, ?_⟩
      rw [ok_eq (lc_ok (fun t => match t with | .int w => decide (ds.getD ((0 + (i : Int)) * n + w).toNat 0 < m) | _ => false) id _ (fun x hx => ?_) fun x hx _ => rfl)]
      · rw [List.map_id, filter_I]
        refine ⟨by rw [List.length_map]; omega, _, g ++ [_], by rw [List.map_append]; rfl, gr_app hg ⟨fun x h => rI_mem.mp (List.mem_filter.mp h).1, Nat.le_trans (List.length_filter_le _ _) (by rw [rI_len]; omega)⟩⟩
      · obtain ⟨w, hw, rfl⟩ := List.mem_map.mp hx
        obtain ⟨w0, w1⟩ := rI_mem.mp hw
        refine eq_ok ?_
        walk_at "k1"
        have hb : (i : Int) * n + w < (n : Int) * n := by
          have : ((i : Int) + 1) * n ≤ (n : Int) * n := Int.mul_le_mul_of_nonneg_right (by omega) (by omega)
          have e : ((i : Int) + 1) * n = (i : Int) * n + n := by rw [Int.add_mul, Int.one_mul]
          omega
        have hb0 : 0 ≤ (i : Int) * n := Int.mul_nonneg (by omega) (by omega)
        rw [Int.zero_add]
        refine ⟨.inl ⟨by omega, by omega⟩, ?_⟩
        rw [ok_eq (at_int (by omega) (by rw [hl]; omega))]
        walk_at "k1"
    · rintro _ ⟨o6, g, rfl, hg⟩
      walk_at "kw"
      refine ⟨n, g, rfl, ⟨by rw [hg.1, Int.toNat_natCast], fun r h => (hg.2 r h).1, fun r h => (hg.2 r h).2, by omega⟩⟩
  obtain ⟨v, q, n, g, rfl, p⟩ := key.eq
  exact ⟨n, g, q, p⟩
theorem lgraph_F {F : List T → Option T} (dr : DrawF F) : GraphF (GR.U_law_long_graph F) := fun ns zs hz => by
  have key : Ok (GR.U_law_long_graph F [scT ns, .lst (zs.map T.int)]) fun v => ∃ (n : Nat) (g : List (List Int)), v = grT g ∧ Gr n g := by
    obtain ⟨z1, e1, h1⟩ := hz.at_ (k := 1) (by decide) (by decide)
    obtain ⟨z3, e3, h3⟩ := hz.at_ (k := 3) (by decide) (by decide)
    refine k_fun rfl ?_
    unfold GR.S_law_long_graph
    walk_at "ks"
    rw [ok_eq e1]
    walk_at "k1"; walk_at "ks"
    rw [ok_eq e3]
    walk_at "k1"
    obtain ⟨n, en, hn⟩ : ∃ n : Nat, 20 + z1 % 41 = (n : Int) ∧ n ≤ 60 := ⟨(20 + z1 % 41).toNat, by omega, by omega⟩
    rw [en]
    refine ⟨.inl ⟨by omega, by omega⟩, ?_⟩
    generalize hst : 1 - 2 * (z3 % 2) = st
    walk_at "ks"
    obtain ⟨ds, q, hl, hd⟩ := dr ns 1 n 240 (by decide) (by omega) (by decide)
    rw [ok_eq q]
    walk_at "ks"; walk_at "ks"
    refine ⟨by omega, ?_⟩
    refine for_rng (fun i e' => ∃ (o6 o7 : Option T) (g : List (List Int)), e' = [some (scT ns), some (.lst (zs.map T.int)), some (.int n), some (.int st), some (.lst (ds.map T.int)), some (grT g), o6, o7] ∧ g.length = i ∧ ∀ r ∈ g, (∀ x ∈ r, 0 ≤ x ∧ x < (n : Int)) ∧ r.length ≤ 100) ⟨none, none, [], rfl, rfl, fun r h => nomatch h⟩ ?_ ?_
    · rintro i _ hi ⟨o6, o7, g, rfl, hg⟩
      have hi : i < n := by omega
      obtain ⟨d, hda, hd0⟩ : ∃ d : Int, atI (ds.map T.int) (0 + (i : Int)) = some (.int d) ∧ 0 ≤ d := ⟨_, at_int (by omega) (by omega), (hd _ (getD_mem' (by omega))).1⟩
      walk_at "k1"; walk_at "ks"
      refine n_cutF (fun e' => ∃ xs : List Int, e' = [some (scT ns), some (.lst (zs.map T.int)), some (.int n), some (.int st), some (.lst (ds.map T.int)), some (grT g), some (.int (0 + (i : Int))), some (.lst (xs.map T.int))] ∧ (∀ x ∈ xs, 0 ≤ x ∧ x < (n : Int)) ∧ xs.length ≤ 1) ?_ ?_
      · walk_at "k1"
        rw [ok_eq hda]
        walk_at "k1"
        refine w_ifE (fun _ => ?_) fun _ => ⟨[], rfl, fun x h => (nomatch h), by decide⟩
        rw [ok_eq hda]
        walk_at "k1"
        refine w_ifE (fun c => ?_) fun _ => ⟨[], rfl, fun x h => (nomatch h), by decide⟩
        rw [ok_eq hda]
        walk_at "k1"
        have c := of_decide_eq_true c
        refine ⟨[d / 4], rfl, fun x h => ?_, Nat.le_refl _⟩
        rw [List.mem_singleton.mp h]; omega
      rintro _ ⟨xs, rfl, hx, hxl⟩
      refine n_cutF (fun e' => ∃ xs : List Int, e' = [some (scT ns), some (.lst (zs.map T.int)), some (.int n), some (.int st), some (.lst (ds.map T.int)), some (grT g), some (.int (0 + (i : Int))), some (.lst (xs.map T.int))] ∧ (∀ x ∈ xs, 0 ≤ x ∧ x < (n : Int)) ∧ xs.length ≤ 2) ?_ ?_
      · have keep : ∃ ys : List Int, [some (scT ns), some (.lst (zs.map T.int)), some (.int n), some (.int st), some (.lst (ds.map T.int)), some (grT g), some (T.int (0 + (i : Int))), some (.lst (xs.map T.int))] = [some (scT ns), some (.lst (zs.map T.int)), some (.int n), some (.int st), some (.lst (ds.map T.int)), some (grT g), some (.int (0 + (i : Int))), some (.lst (ys.map T.int))] ∧ (∀ x ∈ ys, 0 ≤ x ∧ x < (n : Int)) ∧ ys.length ≤ 2 := ⟨xs, rfl, hx, by omega⟩
        walk_at "k1"
        rw [ok_eq hda]
        walk_at "k1"
        refine w_ifE (fun _ => ?_) fun _ => keep
        refine w_ifE (fun c1 => ?_) fun _ => keep
        refine w_ifE (fun c2 => ?_) fun _ => keep
        rw [ok_eq mem_ints]
        walk_at "k1"
        refine w_ifE (fun _ => ?_) fun _ => keep
        have c1 := of_decide_eq_true c1
        have c2 := of_decide_eq_true c2
        refine ⟨by rw [List.length_map]; omega, xs ++ [_], by rw [List.map_append]; rfl, fun x h => ?_, by rw [List.length_append]; exact Nat.add_le_add_right hxl 1⟩
        rcases List.mem_append.mp h with h | h
        · exact hx x h
        · rw [List.mem_singleton.mp h]; exact ⟨c1, c2⟩
      rintro _ ⟨xs, rfl, hx, hxl⟩
      walk_at "kw"
      rw [ok_eq sortT_l]
      unfold grT
      walk_at "k1"
      refine ⟨by rw [List.length_map]; omega, _, _, g ++ [_], by rw [List.map_append]; rfl, gr_app hg ⟨fun x h => hx x ((sortI_perm xs).mem_iff.mp h), by rw [(sortI_perm xs).length_eq]; omega⟩⟩
    · rintro _ ⟨o6, o7, g, rfl, hg⟩
      walk_at "kw"
      refine ⟨n, g, rfl, ⟨by rw [hg.1, Int.toNat_natCast], fun r h => (hg.2 r h).1, fun r h => (hg.2 r h).2, by omega⟩⟩
  obtain ⟨v, q, n, g, rfl, p⟩ := key.eq
  exact ⟨n, g, q, p⟩
/-! ### nodes -/
def ChosenF (F : List T → Option T) : Prop := ∀ (ns : List Int) (place share : Int) (n : Nat), 0 ≤ place → n ≤ 60 → ∃ xs : List Int, F [scT ns, .int place, .int n, .int share] = some (rowI xs) ∧ (∀ x ∈ xs, 0 ≤ x ∧ x < (n : Int)) ∧ xs.length ≤ n
theorem chosen_F {F : List T → Option T} (dr : DrawF F) : ChosenF (GR.U_law_chosen F) := fun ns place share n hp hn => by
  have key : Ok (GR.U_law_chosen F [scT ns, .int place, .int n, .int share]) fun v => ∃ xs : List Int, v = rowI xs ∧ (∀ x ∈ xs, 0 ≤ x ∧ x < (n : Int)) ∧ xs.length ≤ n := by
    refine k_fun rfl ?_
    unfold GR.S_law_chosen
    walk_at "ks"
    obtain ⟨ds, q, hl, hd⟩ := dr ns place n 12 hp (by omega) (by decide)
    rw [ok_eq q]
    walk_at "k1"
    rw [rng_rI, Int.toNat_natCast]
    refine ⟨by omega, by rw [List.length_map, rI_len]; omega, ?_⟩
    rw [ok_eq (lc_ok (fun t => match t with | .int w => decide (ds.getD w.toNat 0 < share) | _ => false) id _ (fun x hx => ?_) fun x hx _ => rfl)]
    · rw [List.map_id, filter_I]
      exact ⟨_, rfl, fun x h => rI_mem.mp (List.mem_filter.mp h).1, Nat.le_trans (List.length_filter_le _ _) (by rw [rI_len]; omega)⟩
    · obtain ⟨w, hw, rfl⟩ := List.mem_map.mp hx
      obtain ⟨w0, w1⟩ := rI_mem.mp hw
      refine eq_ok ?_
      walk_at "k1"
      rw [ok_eq (at_int (by omega) (by omega))]
      walk_at "k1"
  obtain ⟨v, q, xs, rfl, p⟩ := key.eq
  exact ⟨xs, q, p⟩
def TurnedF (F : List T → Option T) : Prop := ∀ (xs : List Int) (kind : Int), xs.length ≤ 1000 → ∃ ys : List Int, F [rowI xs, .int kind] = some (rowI ys) ∧ (∀ z, z ∈ ys ↔ z ∈ xs) ∧ ys.length ≤ 3 * xs.length
theorem turned_F : TurnedF GR.U_law_turned := fun xs kind hl => by
  have key : Ok (GR.U_law_turned [rowI xs, .int kind]) fun v => ∃ ys : List Int, v = rowI ys ∧ (∀ z, z ∈ ys ↔ z ∈ xs) ∧ ys.length ≤ 3 * xs.length := by
    refine k_fun rfl ?_
    unfold GR.S_law_turned rowI
    walk_at "kw"
    refine w_ifE (fun _ => ?_) fun _ => w_ifE (fun _ => ?_) fun _ => ⟨xs, rfl, fun z => Iff.rfl, by omega⟩
    · rw [ok_eq lrevT_l]
      exact ⟨xs.reverse, by rw [List.map_reverse], fun z => List.mem_reverse, by rw [List.length_reverse]; omega⟩
    · rw [show (1 : Int) = ((1 : Nat) : Int) from rfl, cut_from, cut_to]
      have l1 : (xs.map T.int).length = xs.length := List.length_map _
      refine ⟨by rw [List.length_drop]; omega, by rw [List.length_append, List.length_drop, List.length_take]; omega, xs.drop 1 ++ xs ++ xs.take 1, by rw [List.map_append, List.map_append, List.map_drop, List.map_take], fun z => ?_, by rw [List.length_append, List.length_append, List.length_drop, List.length_take]; omega⟩
      constructor
      · intro h
        rcases List.mem_append.mp h with h | h
        · rcases List.mem_append.mp h with h | h
          · exact List.mem_of_mem_drop h
          · exact h
        · exact List.mem_of_mem_take h
      · intro h; exact List.mem_append_left _ (List.mem_append_right _ h)
  obtain ⟨v, q, ys, rfl, p⟩ := key.eq
  exact ⟨ys, q, p⟩
def StartsF (F : List T → Option T) : Prop := ∀ (ns : List Int) (place roll : Int) (n : Nat), 0 ≤ place → n ≤ 60 → ∃ xs : List Int, F [scT ns, .int place, .int n, .int roll] = some (rowI xs) ∧ (∀ x ∈ xs, 0 ≤ x ∧ x < (n : Int)) ∧ xs.length ≤ n + 1
theorem starts_F {F : List T → Option T} (ch : ChosenF F) : StartsF (GR.U_law_starts F) := fun ns place roll n hp hn => by
  have key : Ok (GR.U_law_starts F [scT ns, .int place, .int n, .int roll]) fun v => ∃ xs : List Int, v = rowI xs ∧ (∀ x ∈ xs, 0 ≤ x ∧ x < (n : Int)) ∧ xs.length ≤ n + 1 := by
    refine k_fun rfl ?_
    unfold GR.S_law_starts
    walk_at "ks"
    refine ok_at (by omega) (by show roll % 4 < 4; omega) fun t ht => ?_
    have : ∃ m : Int, t = .int m := by
      have := List.mem_of_getElem? ht
      simp only [List.mem_cons, List.not_mem_nil, or_false] at this
      rcases this with rfl | rfl | rfl | rfl <;> exact ⟨_, rfl⟩
    obtain ⟨m, rfl⟩ := this
    obtain ⟨xs, q, hx, hl⟩ := ch ns place m n hp hn
    rw [ok_eq q]
    walk_at "k1"
    refine n_cutF (fun e' => ∃ (xs : List Int) (o5 : Option T), e' = [some (scT ns), some (.int place), some (.int n), some (.int roll), some (rowI xs), o5] ∧ (∀ x ∈ xs, 0 ≤ x ∧ x < (n : Int)) ∧ xs.length ≤ n + 1) ?_ ?_
    · walk_at "k1"
      refine w_ifE (fun c0 => ?_) fun _ => ⟨xs, none, rfl, hx, by omega⟩
      have c0 := of_decide_eq_true c0
      refine w_ifE (fun _ => ?_) fun _ => ⟨xs, none, rfl, hx, by omega⟩
      walk_at "ks"
      refine ⟨by omega, ?_⟩
      have z0 := Int.emod_nonneg (roll / 24) (b := (n : Int)) (by omega)
      have z1 := Int.emod_lt_of_pos (roll / 24) (b := (n : Int)) (by omega)
      generalize roll / 24 % (n : Int) = one at z0 z1
      unfold rowI
      walk_at "k1"
      rw [ok_eq mem_ints]
      walk_at "k1"
      refine w_ifE (fun _ => ?_) fun _ => ⟨xs, _, rfl, hx, by omega⟩
      refine ⟨by rw [List.length_map]; omega, xs ++ [one], _, by rw [List.map_append]; rfl, fun x h => ?_, by rw [List.length_append]; exact Nat.add_le_add_right hl 1⟩
      rcases List.mem_append.mp h with h | h
      · exact hx x h
      · rw [List.mem_singleton.mp h]; exact ⟨z0, z1⟩
    · rintro _ ⟨xs, o5, rfl, hx, hl⟩
      walk_at "kw"
      exact ⟨xs, rfl, hx, hl⟩
  obtain ⟨v, q, xs, rfl, p⟩ := key.eq
  exact ⟨xs, q, p⟩
def CopyF (F : List T → Option T) : Prop := ∀ g : List (List Int), g.length ≤ 100000 → F [grT g] = some (grT g)
theorem copy_F : CopyF GR.U_law_copy := fun g hl => by
  refine eq_ok (k_fun rfl ?_)
  unfold GR.S_law_copy grT
  walk_at "k1"
  refine ⟨by rw [List.length_map]; omega, ?_⟩
  rw [ok_eq (lc_map id _ fun x hx => ?_)]
  · rw [List.map_id]
  · obtain ⟨r, hr, rfl⟩ := List.mem_map.mp hx
    refine eq_ok ?_
    unfold rowI
    walk_at "k1"
/-- a graph of any size that occurs -/
structure Gw (n : Nat) (g : List (List Int)) : Prop where
  len : g.length = n
  nd : ∀ r ∈ g, ∀ x ∈ r, 0 ≤ x ∧ x < (n : Int)
  le : n ≤ 2000
theorem Gr.w {n : Nat} {g : List (List Int)} (h : Gr n g) : Gw n g := ⟨h.len, h.nd, by have := h.le; omega⟩
/-! ### distances -/
def optT : Option Int → T
  | none => .non
  | some d => .int d
def foT (f : List (Option Int)) : T := .lst (f.map optT)
theorem at_f {f : List (Option Int)} {v : Int} {o : Option Int} (h0 : 0 ≤ v) (e : f[v.toNat]? = some o) : atI (f.map optT) v = some (optT o) := atI_ge h0 (by rw [List.getElem?_map, e]; rfl)
theorem at_g {g : List (List Int)} {v : Int} {r : List Int} (h0 : 0 ≤ v) (e : g[v.toNat]? = some r) : atI (g.map rowI) v = some (rowI r) := atI_ge h0 (by rw [List.getElem?_map, e]; rfl)
theorem ixN_I {n : Nat} {z : Int} (h0 : 0 ≤ z) (h : z < n) : ixN n z = some z.toNat := by
  have := ixN_of (n := n) (j := z.toNat) (by omega)
  rwa [show ((z.toNat : Nat) : Int) = z from by omega] at this
theorem nodup_le : ∀ (n : Nat) (xs : List Int), xs.Nodup → (∀ x ∈ xs, 0 ≤ x ∧ x < (n : Int)) → xs.length ≤ n
  | 0, xs, _, h => by
    cases xs with
    | nil => exact Nat.le_refl _
    | cons x r => have := h x List.mem_cons_self; omega
  | n + 1, xs, nd, h => by
    by_cases c : (n : Int) ∈ xs
    · have e := nodup_le n (xs.erase n) (nd.erase _) fun x hx => by
        have h1 := h x (List.mem_of_mem_erase hx)
        have h2 : x ≠ n := fun z => by subst z; exact nd.not_mem_erase hx
        omega
      rw [List.length_erase_of_mem c] at e
      omega
    · have := nodup_le n xs nd fun x hx => by
        have h1 := h x hx
        have h2 : x ≠ n := fun z => c (by rw [← z]; exact hx)
        omega
      omega
structure Bfs (n : Nat) (g : List (List Int)) (st : List Int) (f : List (Option Int)) (ps : List (Int × Int)) : Prop where
  len : f.length = n
  iff : ∀ v d : Int, (v, d) ∈ ps ↔ 0 ≤ v ∧ f[v.toNat]? = some (some d)
  nd : (ps.map (·.1)).Nodup
  nn : ∀ p ∈ ps, 0 ≤ p.2
  mono : ps.Pairwise fun p q => p.2 ≤ q.2
  zero : ∀ p ∈ ps, (p.2 = 0 ↔ p.1 ∈ st)
  start : ∀ v ∈ st, (v, 0) ∈ ps
  back : ∀ p ∈ ps, 0 < p.2 → ∃ u r, (u, p.2 - 1) ∈ ps ∧ g[u.toNat]? = some r ∧ p.1 ∈ r
theorem Bfs.rg {n : Nat} {g : List (List Int)} {st : List Int} {f : List (Option Int)} {ps : List (Int × Int)} (b : Bfs n g st f ps) : ∀ p ∈ ps, 0 ≤ p.1 ∧ p.1 < n := fun p hp => by
  obtain ⟨h0, h1⟩ := (b.iff p.1 p.2).mp hp
  have := (List.getElem?_eq_some_iff.mp h1).1
  have := b.len
  omega
theorem Bfs.le {n : Nat} {g : List (List Int)} {st : List Int} {f : List (Option Int)} {ps : List (Int × Int)} (b : Bfs n g st f ps) : ps.length ≤ n := by
  have := nodup_le n (ps.map (·.1)) b.nd fun x hx => by
    obtain ⟨p, hp, rfl⟩ := List.mem_map.mp hx
    exact b.rg p hp
  rwa [List.length_map] at this
theorem Bfs.add {n : Nat} {g : List (List Int)} {st : List Int} {f : List (Option Int)} {ps : List (Int × Int)} (b : Bfs n g st f ps) {a v d : Int} {r : List Int} (ha : 0 ≤ a ∧ a < n) (hn : f[a.toNat]? = some none) (hv : (v, d) ∈ ps) (hr : g[v.toNat]? = some r) (har : a ∈ r) (hd : ∀ p ∈ ps, p.2 ≤ d + 1) :
    Bfs n g st (f.set a.toNat (some (d + 1))) (ps ++ [(a, d + 1)]) := by
  have d0 : 0 ≤ d := b.nn _ hv
  have na : ∀ d', (a, d') ∉ ps := fun d' z => by
    have := ((b.iff a d').mp z).2
    rw [hn] at this; cases this
  have al : a.toNat < f.length := (List.getElem?_eq_some_iff.mp hn).1
  refine ⟨by rw [List.length_set]; exact b.len, fun u e => ?_, ?_, fun p hp => ?_, ?_, fun p hp => ?_, fun u hu => List.mem_append_left _ (b.start u hu), fun p hp h => ?_⟩
  · rw [List.mem_append, List.mem_singleton, b.iff]
    by_cases c : u = a
    · subst c
      rw [List.getElem?_set_self al]
      constructor
      · rintro (⟨_, z⟩ | z)
        · rw [hn] at z; cases z
        · cases z; exact ⟨ha.1, rfl⟩
      · rintro ⟨_, z⟩
        cases z; exact .inr rfl
    · constructor
      · rintro (⟨h0, z⟩ | z)
        · exact ⟨h0, by rw [List.getElem?_set_ne (by omega)]; exact z⟩
        · cases z; exact absurd rfl c
      · rintro ⟨h0, z⟩
        rw [List.getElem?_set_ne (by omega)] at z
        exact .inl ⟨h0, z⟩
  · rw [List.map_append, List.nodup_append]
    refine ⟨b.nd, by simp, fun x hx y hy z => ?_⟩
    obtain ⟨p, hp, rfl⟩ := List.mem_map.mp hx
    rw [List.map_singleton, List.mem_singleton] at hy
    subst hy
    exact na p.2 (by rw [← z]; exact hp)
  · rcases List.mem_append.mp hp with h | h
    · exact b.nn p h
    · rw [List.mem_singleton.mp h]; show 0 ≤ d + 1; omega
  · rw [List.pairwise_append]
    refine ⟨b.mono, List.pairwise_singleton _ _, fun p hp q hq => ?_⟩
    rw [List.mem_singleton.mp hq]; exact hd p hp
  · rcases List.mem_append.mp hp with h | h
    · exact b.zero p h
    · rw [List.mem_singleton.mp h]
      exact ⟨fun z => by have z : d + 1 = 0 := z; omega, fun z => absurd (b.start a z) (na 0)⟩
  · rcases List.mem_append.mp hp with hp | hp
    · obtain ⟨u, r', h1, h2⟩ := b.back p hp h
      exact ⟨u, r', List.mem_append_left _ h1, h2⟩
    · rw [List.mem_singleton.mp hp]
      exact ⟨v, r, by show (v, d + 1 - 1) ∈ _; rw [show d + 1 - 1 = d from by omega]; exact List.mem_append_left _ hv, hr, har⟩
def Dn (g : List (List Int)) (ps : List (Int × Int)) (p : Int × Int) : Prop := ∀ r, g[p.1.toNat]? = some r → ∀ a ∈ r, ∃ d', d' ≤ p.2 + 1 ∧ (a, d') ∈ ps
structure Dist (n : Nat) (g : List (List Int)) (st : List Int) (f : List (Option Int)) : Prop where
  len : f.length = n
  nn : ∀ (v : Nat) (d : Int), f[v]? = some (some d) → 0 ≤ d
  zero : ∀ v : Nat, v < n → (f[v]? = some (some 0) ↔ (v : Int) ∈ st)
  succ : ∀ (v : Nat) (d : Int) r, f[v]? = some (some d) → g[v]? = some r → ∀ a ∈ r, ∃ d', d' ≤ d + 1 ∧ f[a.toNat]? = some (some d')
  back : ∀ (v : Nat) (d : Int), f[v]? = some (some d) → 0 < d → ∃ (u : Nat) (r : List Int), u < n ∧ f[u]? = some (some (d - 1)) ∧ g[u]? = some r ∧ (v : Int) ∈ r
theorem bfs_dist {n : Nat} {g : List (List Int)} {st : List Int} {f : List (Option Int)} {ps : List (Int × Int)} (b : Bfs n g st f ps) (hg : Gw n g) (hd : ∀ p ∈ ps, Dn g ps p) : Dist n g st f := by
  have mem : ∀ (v : Nat) (d : Int), f[v]? = some (some d) → ((v : Int), d) ∈ ps := fun v d e => (b.iff v d).mpr ⟨by omega, by rw [Int.toNat_natCast]; exact e⟩
  refine ⟨b.len, fun v d e => b.nn _ (mem v d e), fun v hv => ⟨fun e => (b.zero _ (mem v 0 e)).mp rfl, fun h => ?_⟩, fun v d r e hr a ha => ?_, fun v d e h => ?_⟩
  · have := ((b.iff v 0).mp (b.start v h)).2
    rwa [Int.toNat_natCast] at this
  · obtain ⟨d', h1, h2⟩ := hd _ (mem v d e) r (by show g[(v : Int).toNat]? = _; rw [Int.toNat_natCast]; exact hr) a ha
    exact ⟨d', h1, ((b.iff a d').mp h2).2⟩
  · obtain ⟨u, r, h1, h2, h3⟩ := b.back _ (mem v d e) h
    have rg := b.rg _ h1
    exact ⟨u.toNat, r, by omega, ((b.iff u _).mp h1).2, h2, h3⟩
theorem set_get {α : Type} {f : List α} {i j : Nat} {x : α} (h : i < f.length) : (f.set i x)[j]? = if i = j then some x else f[j]? := by
  by_cases c : i = j
  · rw [if_pos c, ← c, List.getElem?_set_self h]
  · rw [if_neg c, List.getElem?_set_ne c]
/-- what the first loop leaves -/
theorem bfs_0 {n : Nat} {g : List (List Int)} {st : List Int} {f : List (Option Int)} (hs : ∀ x ∈ st, 0 ≤ x ∧ x < (n : Int)) (hl : f.length = n) (hf : ∀ v : Nat, v < n → f[v]? = some (if (v : Int) ∈ st then some 0 else none)) : Bfs n g st f ((ssortI st).map fun v => (v, 0)) := by
  have mm : ∀ v d : Int, (v, d) ∈ ((ssortI st).map fun v => (v, (0 : Int))) ↔ v ∈ st ∧ d = 0 := fun v d => by
    rw [List.mem_map]
    constructor
    · rintro ⟨a, ha, e⟩; cases e; exact ⟨ssortI_mem.mp ha, rfl⟩
    · rintro ⟨h1, rfl⟩; exact ⟨v, ssortI_mem.mpr h1, rfl⟩
  have em : ((ssortI st).map fun v => (v, (0 : Int))).map (·.1) = ssortI st := by rw [List.map_map]; exact List.map_id _
  refine ⟨hl, fun v d => ?_, ?_, fun p hp => ?_, ?_, fun p hp => ?_, fun v hv => (mm v 0).mpr ⟨hv, rfl⟩, fun p hp h => ?_⟩
  · rw [mm]
    constructor
    · rintro ⟨h1, rfl⟩
      obtain ⟨h2, h3⟩ := hs v h1
      refine ⟨h2, ?_⟩
      rw [hf v.toNat (by omega), show ((v.toNat : Nat) : Int) = v from by omega, if_pos h1]
    · rintro ⟨h0, e⟩
      have l := (List.getElem?_eq_some_iff.mp e).1
      rw [hf v.toNat (by omega), show ((v.toNat : Nat) : Int) = v from by omega] at e
      by_cases c : v ∈ st
      · rw [if_pos c] at e; cases e; exact ⟨c, rfl⟩
      · rw [if_neg c] at e; cases e
  · rw [em]; exact (ssortI_strict st).imp fun z => by omega
  · obtain ⟨a, _, rfl⟩ := List.mem_map.mp hp; exact Int.le_refl _
  · exact List.pairwise_map.mpr ((ssortI_strict st).imp fun _ => Int.le_refl _)
  · obtain ⟨a, ha, rfl⟩ := List.mem_map.mp hp; exact ⟨fun _ => ssortI_mem.mp ha, fun _ => rfl⟩
  · obtain ⟨a, _, rfl⟩ := List.mem_map.mp hp; exact absurd h (by show ¬ (0 : Int) < 0; omega)
theorem rep_non : ∀ n : Nat, (List.replicate n [T.non]).flatten = (List.replicate n (none : Option Int)).map optT
  | 0 => rfl
  | n + 1 => by rw [List.replicate_succ, List.flatten_cons, rep_non n]; rfl
theorem at_fn {f : List (Option Int)} {v : Int} (h0 : 0 ≤ v) (e : f[v.toNat]? = some none) : atI (f.map optT) v = some .non := at_f h0 e
theorem at_fs {f : List (Option Int)} {v d : Int} (h0 : 0 ≤ v) (e : f[v.toNat]? = some (some d)) : atI (f.map optT) v = some (.int d) := at_f h0 e
theorem at_gi {g : List (List Int)} {v : Int} {r : List Int} (h0 : 0 ≤ v) (e : g[v.toNat]? = some r) : atI (g.map rowI) v = some (.lst (r.map T.int)) := at_g h0 e
def DistW (F : List T → Option T) : Prop := ∀ (n : Nat) (g : List (List Int)) (st : List Int), Gw n g → (∀ x ∈ st, 0 ≤ x ∧ x < (n : Int)) → st.length ≤ 1000 → (dedI st).length < 64 → ∃ f, F [grT g, rowI st] = some (foT f) ∧ Dist n g st f
theorem distW_F : DistW (GR.Udistances 1000000) := fun n g st hg hs hl hdd => by
  have key : Ok (GR.Udistances 1000000 [grT g, rowI st]) fun v => ∃ f, v = foT f ∧ Dist n g st f := by
    have gl := hg.len
    have gle := hg.le
    refine k_fun rfl ?_
    unfold GR.Sdistances grT rowI
    walk_at "ks"
    rw [List.length_map, gl, Int.toNat_natCast]
    refine ⟨by omega, ?_⟩
    rw [rep_non]
    walk_at "k1"
    refine n_cutF (fun e' => ∃ (f : List (Option Int)) (o3 : Option T), e' = [some (.lst (g.map rowI)), some (.lst (st.map T.int)), some (foT f), o3, none, none, none, none] ∧ f.length = n ∧ ∀ v : Nat, v < n → f[v]? = some (if (v : Int) ∈ st then some 0 else none)) ?_ ?_
    · walk_at "k1"
      refine for_inv (fun i e' => ∃ (f : List (Option Int)) (o3 : Option T), e' = [some (.lst (g.map rowI)), some (.lst (st.map T.int)), some (foT f), o3, none, none, none, none] ∧ f.length = n ∧ ∀ v : Nat, v < n → f[v]? = some (if (v : Int) ∈ st.take i then some 0 else none)) ⟨_, _, rfl, by rw [List.length_replicate], fun v hv => by rw [List.getElem?_replicate, if_pos hv]; rfl⟩ ?_ ?_
      · rintro i x _ hx ⟨f, o3, rfl, hf, hv⟩
        rw [List.getElem?_map] at hx
        obtain ⟨s, es, rfl⟩ := Option.map_eq_some_iff.mp hx
        obtain ⟨s0, s1⟩ := hs s (List.mem_of_getElem? es)
        unfold foT
        walk_at "k1"
        rw [List.length_map, ixN_I s0 (by rw [hf]; exact s1)]
        walk_at "k1"
        refine ⟨f.set s.toNat (some 0), _, by rw [List.map_set]; rfl, by rw [List.length_set]; exact hf, fun v hvn => ?_⟩
        rw [set_get (by omega)]
        have li := (List.getElem?_eq_some_iff.mp es)
        have et : st.take (i + 1) = st.take i ++ [s] := by rw [List.take_succ, es]; rfl
        by_cases c : s.toNat = v
        · rw [if_pos c, if_pos (by rw [et]; exact List.mem_append_right _ (by rw [show (v : Int) = s from by omega]; exact List.mem_cons_self))]
        · rw [if_neg c, hv v hvn, et]
          have : (v : Int) ∈ st.take i ++ [s] ↔ (v : Int) ∈ st.take i := by
            rw [List.mem_append, List.mem_singleton]
            exact ⟨fun h => h.elim id fun z => absurd (by omega) c, .inl⟩
          simp only [this]
      · rintro _ ⟨f, o3, rfl, hf, hv⟩
        refine ⟨f, o3, rfl, hf, fun v hvn => ?_⟩
        have := hv v hvn
        rwa [List.length_map, List.take_length] at this
    rintro _ ⟨f, o3, rfl, hf, hv⟩
    have b0 := bfs_0 (g := g) hs hf hv
    walk_at "ks"
    rw [ok_eq (ssetT_l ⟨by omega, hdd⟩)]
    walk_at "k1"; walk_at "ks"
    have eq0 : (ssortI st).map T.int = (((ssortI st).map fun v => (v, (0 : Int))).map (·.1)).map T.int := by rw [List.map_map, List.map_map]; rfl
    rw [eq0]
    have hb0 : ∀ q, ((ssortI st).map fun v => (v, (0 : Int)))[0]? = some q → ∀ p ∈ ((ssortI st).map fun v => (v, (0 : Int))), p.2 ≤ q.2 + 1 := fun q hq p hp => by
      obtain ⟨a, _, rfl⟩ := List.mem_map.mp hp
      have := b0.nn q (List.mem_of_getElem? hq)
      show (0 : Int) ≤ _; omega
    generalize ((ssortI st).map fun v => (v, (0 : Int))) = ps0 at b0 hb0 ⊢
    rw [s_seq, s_while]
    refine while_inv (fun m e' => ∃ (f : List (Option Int)) (ps : List (Int × Int)) (k : Nat) (o6 o7 : Option T), e' = [some (.lst (g.map rowI)), some (.lst (st.map T.int)), some (foT f), o3, some (.lst ((ps.map (·.1)).map T.int)), some (.int k), o6, o7] ∧ m = n - k ∧ Bfs n g st f ps ∧ k ≤ ps.length ∧ (∀ j p, j < k → ps[j]? = some p → Dn g ps p) ∧ ∀ q, ps[k]? = some q → ∀ p ∈ ps, p.2 ≤ q.2 + 1) ?_ _ (n - 0) _ (by omega) ⟨f, ps0, 0, none, none, rfl, rfl, b0, Nat.zero_le _, fun j p h => by omega, hb0⟩
    rintro m _ ⟨f, ps, k, o6, o7, rfl, hm, b, hk, hd, hbd⟩
    walk_at "k1"
    rw [List.length_map, List.length_map]
    have ple := b.le
    by_cases c : k < ps.length
    · rw [if_pos (decide_eq_true (show (k : Int) < ps.length by omega))]
      obtain ⟨⟨v, d⟩, ek⟩ : ∃ p, ps[k]? = some p := ⟨_, List.getElem?_eq_getElem c⟩
      have vin := List.mem_of_getElem? ek
      have rg := b.rg _ vin
      have v0 : 0 ≤ v := rg.1
      have v1 : v < n := rg.2
      have fv := ((b.iff v d).mp vin).2
      obtain ⟨r, er⟩ : ∃ r, g[v.toNat]? = some r := ⟨_, List.getElem?_eq_getElem (by omega)⟩
      have rin := List.mem_of_getElem? er
      have ea : atI ((ps.map (·.1)).map T.int) (k : Int) = some (.int v) := atI_ge (by omega) (by rw [Int.toNat_natCast, List.getElem?_map, List.getElem?_map, ek]; rfl)
      walk_at "ks"
      rw [ok_eq ea]
      walk_at "k1"; walk_at "ks"
      rw [ok_eq (at_gi v0 er)]
      walk_at "k1"
      refine for_inv (fun i e' => ∃ (f' : List (Option Int)) (new : List (Int × Int)) (o7 : Option T), e' = [some (.lst (g.map rowI)), some (.lst (st.map T.int)), some (foT f'), o3, some (.lst (((ps ++ new).map (·.1)).map T.int)), some (.int ((k : Int) + 1)), some (.int v), o7] ∧ Bfs n g st f' (ps ++ new) ∧ (∀ p ∈ ps ++ new, p.2 ≤ d + 1) ∧ ∀ a ∈ r.take i, ∃ d', d' ≤ d + 1 ∧ (a, d') ∈ ps ++ new) ⟨f, [], o7, by rw [List.append_nil], by rw [List.append_nil]; exact b, by rw [List.append_nil]; exact hbd _ ek, fun a h => by simp at h⟩ ?_ ?_
      · rintro i x _ hx ⟨f', new, o7, rfl, b', hb', ht⟩
        rw [List.getElem?_map] at hx
        obtain ⟨a, ea', rfl⟩ := Option.map_eq_some_iff.mp hx
        have ain := List.mem_of_getElem? ea'
        obtain ⟨a0, a1⟩ := hg.nd r rin a ain
        have fl := b'.len
        have vin' : (v, d) ∈ ps ++ new := List.mem_append_left _ vin
        have fv' := ((b'.iff v d).mp vin').2
        have et : r.take (i + 1) = r.take i ++ [a] := by rw [List.take_succ, ea']; rfl
        obtain ⟨o, eo⟩ : ∃ o, f'[a.toNat]? = some o := ⟨_, List.getElem?_eq_getElem (by omega)⟩
        unfold foT
        walk_at "k1"
        cases o with
        | none =>
          rw [ok_eq (at_fn a0 eo)]
          walk_at "ks"
          rw [ok_eq (at_fs v0 fv')]
          walk_at "k1"
          rw [List.length_map, ixN_I a0 (by omega)]
          walk_at "k1"
          have ple' := b'.le
          refine ⟨by rw [List.length_map, List.length_map]; omega, f'.set a.toNat (some (d + 1)), new ++ [(a, d + 1)], some (.int a), ?_, ?_, fun p hp => ?_, fun a' ha' => ?_⟩
          · rw [List.map_set, ← List.append_assoc, List.map_append (l₁ := ps ++ new), List.map_append (l₁ := (ps ++ new).map _)]; rfl
          · rw [← List.append_assoc]
            exact b'.add ⟨a0, a1⟩ eo vin' er ain hb'
          · rw [← List.append_assoc] at hp
            rcases List.mem_append.mp hp with h | h
            · exact hb' p h
            · rw [List.mem_singleton.mp h]; exact Int.le_refl _
          · rw [et] at ha'
            rw [← List.append_assoc]
            rcases List.mem_append.mp ha' with h | h
            · obtain ⟨d', h1, h2⟩ := ht a' h
              exact ⟨d', h1, List.mem_append_left _ h2⟩
            · rw [List.mem_singleton.mp h]
              exact ⟨d + 1, Int.le_refl _, List.mem_append_right _ (List.mem_singleton.mpr rfl)⟩
        | some e =>
          rw [ok_eq (at_fs a0 eo)]
          walk_at "k1"
          have ain' := (b'.iff a e).mpr ⟨a0, eo⟩
          refine ⟨f', new, _, rfl, b', hb', fun a' ha' => ?_⟩
          rw [et] at ha'
          rcases List.mem_append.mp ha' with h | h
          · exact ht a' h
          · rw [List.mem_singleton.mp h]
            exact ⟨e, hb' _ ain', ain'⟩
      · rintro _ ⟨f', new, o7, rfl, b', hb', ht⟩
        rw [List.length_map, List.take_length] at ht
        have kl : k < (ps ++ new).length := by rw [List.length_append]; omega
        have ek' : (ps ++ new)[k]? = some (v, d) := by rw [List.getElem?_append_left c]; exact ek
        refine ⟨n - (k + 1), by omega, f', ps ++ new, k + 1, _, _, by rw [Int.natCast_add]; rfl, rfl, b', by omega, fun j p hj hp => ?_, fun q hq p hp => ?_⟩
        · by_cases z : j < k
          · rw [List.getElem?_append_left (by omega)] at hp
            intro r' hr' a' ha'
            obtain ⟨d', h1, h2⟩ := hd j p z hp r' hr' a' ha'
            exact ⟨d', h1, List.mem_append_left _ h2⟩
          · have : j = k := by omega
            subst this
            rw [ek'] at hp; cases hp
            intro r' hr' a' ha'
            rw [er] at hr'; cases hr'
            exact ht a' ha'
        · have h1 := hb' p hp
          have h2 : d ≤ q.2 := by
            obtain ⟨l2, e2⟩ := List.getElem?_eq_some_iff.mp hq
            obtain ⟨l1, e1⟩ := List.getElem?_eq_some_iff.mp ek'
            have := List.pairwise_iff_getElem.mp b'.mono k (k + 1) l1 l2 (by omega)
            rw [e1, e2] at this
            exact this
          omega
    · rw [if_neg (fun z => c (by have := of_decide_eq_true z; omega))]
      walk_at "kw"
      exact ⟨f, rfl, bfs_dist b hg fun p hp => by
        obtain ⟨j, hj⟩ := List.getElem?_of_mem hp
        have := (List.getElem?_eq_some_iff.mp hj).1
        exact hd j p (by omega) hj⟩
  obtain ⟨v, q, f, rfl, p⟩ := key.eq
  exact ⟨f, q, p⟩
theorem ded_le {n : Nat} {st : List Int} (hs : ∀ x ∈ st, 0 ≤ x ∧ x < (n : Int)) : (dedI st).length ≤ n := nodup_le n (dedI st) (dedI_nodup st) fun x hx => hs x (dedI_mem.mp hx)
def DistF (F : List T → Option T) : Prop := ∀ (n : Nat) (g : List (List Int)) (st : List Int), Gr n g → (∀ x ∈ st, 0 ≤ x ∧ x < (n : Int)) → st.length ≤ 1000 → ∃ f, F [grT g, rowI st] = some (foT f) ∧ Dist n g st f
theorem dist_F : DistF (GR.Udistances 1000000) := fun n g st hg hs hl => distW_F n g st hg.w hs hl (by have := ded_le hs; have := hg.le; omega)
-- slots of reachable: 0 after 1 starts 2 found 3 node 4 distance
def Sreachable (Fdistances : List T → Option T) : FS :=
  (fSeqS (fSet (fCB Fdistances (fCons (fVar 0) (fCons (fVar 1) fNil))) 2)
      (fRet (fLcP (fEn (fVar 2)) (.tp (.cons (.nm 3) (.cons (.nm 4) .nil))) (fTest (fOp (oNb isNT) (fVar 4) (fC .non))) (fVar 3) [3, 4])))
abbrev Ureachable (Fdistances : List T → Option T) : List T → Option T := funT true 2 5 (Sreachable Fdistances)
-- slots of _law_is_nodes: 0 actual 1 size 2 node
def S_law_is_nodes (F_law_is_integer : List T → Option T) : FS :=
  (fSeqS (fIfS (fNot (fTest (fIsi Ty.list (fVar 0))))
      (fRet (fC (.bl false)))
      fNext)
      (fSeqS (fFor (fSeq (fVar 0)) (gtNm 2)
      (fIfS (fOr (fNot (fTest (fCB F_law_is_integer (fCons (fVar 2) fNil)))) (fOr (fTest (fOp ltT (fVar 2) (fC (.int 0)))) (fTest (fOp geT (fVar 2) (fVar 1)))))
      (fRet (fC (.bl false)))
      fNext))
      (fRet (fC (.bl true)))))
abbrev U_law_is_nodes (F_law_is_integer : List T → Option T) : List T → Option T := funT false 2 3 (S_law_is_nodes F_law_is_integer)
-- slots of _law_reach: 0 after 1 starts 2 found 3 node 4 k
def S_law_reach : FS :=
  (fSeqS (fOwn (fLst fNil) 2)
      (fSeqS (fFor (fSeq (fVar 1)) (gtNm 3)
      (fIfS (fTest (fOp (memDT true) (fVar 3) (fVar 2)))
      (fApp 2 (pVar 2) (fVar 3))
      fNext))
      (fSeqS (fFor (fR1 (fCB lenT (fCons (fVar 0) fNil))) (gtNm 4)
      (fIfS (fTest (fOp ltT (fVar 4) (fCB lenT (fCons (fVar 2) fNil))))
      (fFor (fSeq (fOp ixT (fVar 0) (fOp ixT (fVar 2) (fVar 4)))) (gtNm 3)
      (fIfS (fTest (fOp (memDT true) (fVar 3) (fVar 2)))
      (fApp 2 (pVar 2) (fVar 3))
      fNext))
      fNext))
      (fRet (fCB sortT (fCons (fVar 2) fNil))))))
abbrev U_law_reach : List T → Option T := funT true 2 5 (S_law_reach)
/-- what is reached: the least set that holds the starts and is closed -/
structure Rch (n : Nat) (g : List (List Int)) (st : List Int) (R : Int → Prop) : Prop where
  rg : ∀ v, R v → 0 ≤ v ∧ v < (n : Int)
  ini : ∀ x ∈ st, R x
  cl : ∀ v r, R v → g[v.toNat]? = some r → ∀ a ∈ r, R a
  le : ∀ C : Int → Prop, (∀ x ∈ st, C x) → (∀ v r, C v → 0 ≤ v → v < (n : Int) → g[v.toNat]? = some r → ∀ a ∈ r, C a) → ∀ v, R v → C v
theorem Rch.eq {n : Nat} {g : List (List Int)} {st : List Int} {R S : Int → Prop} (h : Rch n g st R) (k : Rch n g st S) (v : Int) : R v ↔ S v :=
  ⟨h.le S k.ini (fun v r hv _ _ e a ha => k.cl v r hv e a ha) v, k.le R h.ini (fun v r hv _ _ e a ha => h.cl v r hv e a ha) v⟩
theorem Dist.rch {n : Nat} {g : List (List Int)} {st : List Int} {f : List (Option Int)} (d : Dist n g st f) (hg : Gw n g) (hs : ∀ x ∈ st, 0 ≤ x ∧ x < (n : Int)) : Rch n g st fun v => 0 ≤ v ∧ ∃ k, f[v.toNat]? = some (some k) := by
  refine ⟨fun v ⟨h0, k, e⟩ => ?_, fun x hx => ?_, fun v r ⟨h0, k, e⟩ er a ha => ?_, fun C c1 c2 v ⟨h0, k, e⟩ => ?_⟩
  · have := (List.getElem?_eq_some_iff.mp e).1
    rw [d.len] at this
    exact ⟨h0, by omega⟩
  · obtain ⟨h0, h1⟩ := hs x hx
    exact ⟨h0, 0, (d.zero x.toNat (by omega)).mpr (by rw [Int.toNat_of_nonneg h0]; exact hx)⟩
  · obtain ⟨k', _, e'⟩ := d.succ v.toNat k r e er a ha
    exact ⟨(hg.nd r (List.mem_of_getElem? er) a ha).1, k', e'⟩
  · have key : ∀ (m : Nat) (v : Nat) (k : Int), f[v]? = some (some k) → k.toNat = m → C (v : Int) := by
      intro m
      induction m with
      | zero =>
        intro v k e hk
        have := d.nn v k e
        have l := (List.getElem?_eq_some_iff.mp e).1
        rw [d.len] at l
        exact c1 _ ((d.zero v l).mp (by rw [e, show k = 0 from by omega]))
      | succ m ih =>
        intro v k e hk
        obtain ⟨u, r, ul, eu, er, hv⟩ := d.back v k e (by omega)
        exact c2 (u : Int) r (ih u (k - 1) eu (by omega)) (by omega) (by omega) (by rw [Int.toNat_natCast]; exact er) _ hv
    have := key k.toNat v.toNat k e rfl
    rwa [Int.toNat_of_nonneg h0] at this
theorem strict_ext : ∀ {xs ys : List Int}, xs.Pairwise (· < ·) → ys.Pairwise (· < ·) → (∀ v, v ∈ xs ↔ v ∈ ys) → xs = ys
  | [], [], _, _, _ => rfl
  | [], y :: ys, _, _, h => nomatch (h y).mpr List.mem_cons_self
  | x :: xs, [], _, _, h => nomatch (h x).mp List.mem_cons_self
  | x :: xs, y :: ys, hx, hy, h => by
    have hx' := List.pairwise_cons.mp hx
    have hy' := List.pairwise_cons.mp hy
    have e : x = y := by
      rcases List.mem_cons.mp ((h x).mp List.mem_cons_self) with a | a
      · exact a
      rcases List.mem_cons.mp ((h y).mpr List.mem_cons_self) with b | b
      · exact b.symm
      have := hy'.1 x a
      have := hx'.1 y b
      omega
    subst e
    rw [strict_ext hx'.2 hy'.2 fun v => ⟨fun m => ?_, fun m => ?_⟩]
    · rcases List.mem_cons.mp ((h v).mp (List.mem_cons_of_mem _ m)) with a | a
      · have := hx'.1 v m; omega
      · exact a
    · rcases List.mem_cons.mp ((h v).mpr (List.mem_cons_of_mem _ m)) with a | a
      · have := hy'.1 v m; omega
      · exact a
theorem sort_strict {xs : List Int} (h : xs.Nodup) : (sortI xs).Pairwise (· < ·) := by
  have nd : (sortI xs).Nodup := (sortI_perm xs).nodup_iff.mpr h
  have : (sortI xs).Pairwise fun a b => a ≤ b ∧ a ≠ b := List.pairwise_and_iff.mpr ⟨sortI_sorted xs, nd⟩
  exact this.imp fun h => by omega
def sel : Nat → List (Option Int) → List Int
  | _, [] => []
  | k, none :: f => sel (k + 1) f
  | k, some _ :: f => (k : Int) :: sel (k + 1) f
theorem sel_mem : ∀ {f : List (Option Int)} {k : Nat} {v : Int}, v ∈ sel k f ↔ (k : Int) ≤ v ∧ ∃ d, f[v.toNat - k]? = some (some d)
  | [], k, v => ⟨fun h => (nomatch h), fun ⟨_, d, e⟩ => by simp at e⟩
  | o :: f, k, v => by
    have step : (∃ d, (o :: f)[v.toNat - k]? = some (some d)) → (k : Int) < v → ∃ d, f[v.toNat - (k + 1)]? = some (some d) := fun ⟨d, e⟩ h => ⟨d, by rw [show v.toNat - k = (v.toNat - (k + 1)) + 1 from by omega, List.getElem?_cons_succ] at e; exact e⟩
    have back : (∃ d, f[v.toNat - (k + 1)]? = some (some d)) → (k : Int) < v → ∃ d, (o :: f)[v.toNat - k]? = some (some d) := fun ⟨d, e⟩ h => ⟨d, by rw [show v.toNat - k = (v.toNat - (k + 1)) + 1 from by omega, List.getElem?_cons_succ]; exact e⟩
    have zero : v = k → (o :: f)[v.toNat - k]? = some o := fun h => by rw [show v.toNat - k = 0 from by omega]; rfl
    cases o with
    | none =>
      show v ∈ sel (k + 1) f ↔ _
      rw [sel_mem]
      constructor
      · rintro ⟨h, e⟩; exact ⟨by omega, back e (by omega)⟩
      · rintro ⟨h, e⟩
        by_cases c : v = k
        · obtain ⟨d, e⟩ := e; rw [zero c] at e; cases e
        · exact ⟨by omega, step e (by omega)⟩
    | some x =>
      show v ∈ (k : Int) :: sel (k + 1) f ↔ _
      rw [List.mem_cons, sel_mem]
      constructor
      · rintro (h | ⟨h, e⟩)
        · exact ⟨by omega, x, zero h⟩
        · exact ⟨by omega, back e (by omega)⟩
      · rintro ⟨h, e⟩
        by_cases c : v = k
        · exact .inl c
        · exact .inr ⟨by omega, step e (by omega)⟩
theorem sel_strict : ∀ {f : List (Option Int)} {k : Nat}, (sel k f).Pairwise (· < ·)
  | [], k => List.Pairwise.nil
  | none :: f, k => sel_strict (f := f)
  | some x :: f, k => List.pairwise_cons.mpr ⟨fun v h => by have := (sel_mem.mp h).1; omega, sel_strict⟩
theorem en_sel {a b c : Option T} : ∀ (f : List (Option Int)) (k : Nat), lcTP (.tp (.cons (.nm 3) (.cons (.nm 4) .nil))) (fTest (fOp (oNb isNT) (fVar 4) (fC .non))) (fVar 3) [a, b, c, none, none] (enT k (f.map optT)) = some ((sel k f).map T.int)
  | [], k => rfl
  | none :: f, k => by
    have ih := en_sel (a := a) (b := b) (c := c) f (k + 1)
    show lcTP _ _ _ _ (enT (k + 1) (f.map optT)) = some ((sel (k + 1) f).map T.int)
    exact ih
  | some d :: f, k => by
    have ih := en_sel (a := a) (b := b) (c := c) f (k + 1)
    show ((lcTP _ _ _ _ (enT (k + 1) (f.map optT))).map (T.int (k : Int) :: ·)) = some (T.int (k : Int) :: (sel (k + 1) f).map T.int)
    rw [ih]; rfl
def ReachF (F : List T → Option T) : Prop := ∀ (n : Nat) (g : List (List Int)) (st : List Int), Gw n g → (∀ x ∈ st, 0 ≤ x ∧ x < (n : Int)) → st.length ≤ 1000 → (dedI st).length < 64 → ∃ xs, F [grT g, rowI st] = some (rowI xs) ∧ xs.Pairwise (· < ·) ∧ Rch n g st (· ∈ xs)
theorem reachable_F {F : List T → Option T} (di : DistW F) : ReachF (GR.Ureachable F) := fun n g st hg hs hl hd => by
  obtain ⟨f, q, d⟩ := di n g st hg hs hl hd
  refine ⟨sel 0 f, eq_ok ?_, sel_strict, ?_⟩
  · refine k_fun rfl ?_
    unfold GR.Sreachable
    walk_at "ks"
    rw [ok_eq q]
    unfold foT
    walk_at "k1"
    refine ⟨by rw [enT_len, List.length_map, d.len]; have := hg.le; omega, ?_⟩
    rw [ok_eq (en_sel f 0)]
    rfl
  · have r := d.rch hg hs
    have e : ∀ v, v ∈ sel 0 f ↔ (0 ≤ v ∧ ∃ k, f[v.toNat]? = some (some k)) := fun v => by rw [sel_mem]; exact Iff.rfl
    rw [show (fun v => v ∈ sel 0 f) = fun v => 0 ≤ v ∧ ∃ k, f[v.toNat]? = some (some k) from funext fun v => propext (e v)]
    exact r
def IsNodesF (F : List T → Option T) : Prop := ∀ (n : Nat) (xs : List Int), (∀ x ∈ xs, 0 ≤ x ∧ x < (n : Int)) → F [rowI xs, .int n] = some (.bl true)
theorem isNodes_F {F : List T → Option T} (hi : ∀ d : Int, F [.int d] = some (.bl true)) : IsNodesF (GR.U_law_is_nodes F) := fun n xs hx => by
  refine eq_ok ?_
  refine k_fun rfl ?_
  unfold GR.S_law_is_nodes rowI
  walk_at "ks"
  walk_at "ks"
  refine for_inv (fun i e' => ∃ o, e' = [some (.lst (xs.map T.int)), some (.int n), o]) ⟨_, rfl⟩ ?_ ?_
  · rintro i x _ e ⟨o, rfl⟩
    rw [List.getElem?_map] at e
    obtain ⟨s, es, rfl⟩ := Option.map_eq_some_iff.mp e
    obtain ⟨h0, h1⟩ := hx s (List.mem_of_getElem? es)
    walk_at "k1"
    rw [ok_eq (hi s)]
    walk_at "k1"
    rw [if_neg (by rw [decide_eq_true_eq]; omega), if_neg (by rw [decide_eq_true_eq]; omega)]
    exact ⟨_, rfl⟩
  · rintro _ ⟨o, rfl⟩
    walk_at "k1"
structure Fnd (n : Nat) (g : List (List Int)) (st fo : List Int) : Prop where
  nd : fo.Nodup
  rg : ∀ x ∈ fo, 0 ≤ x ∧ x < (n : Int)
  mn : ∀ C : Int → Prop, (∀ x ∈ st, C x) → (∀ v r, C v → 0 ≤ v → v < (n : Int) → g[v.toNat]? = some r → ∀ a ∈ r, C a) → ∀ v ∈ fo, C v
theorem Fnd.add {n : Nat} {g : List (List Int)} {st fo : List Int} (h : Fnd n g st fo) {a : Int} (hn : a ∉ fo) (hr : 0 ≤ a ∧ a < (n : Int)) (hc : ∀ C : Int → Prop, (∀ x ∈ st, C x) → (∀ v r, C v → 0 ≤ v → v < (n : Int) → g[v.toNat]? = some r → ∀ a ∈ r, C a) → C a) : Fnd n g st (fo ++ [a]) := by
  refine ⟨?_, fun x hx => ?_, fun C c1 c2 v hv => ?_⟩
  · rw [List.nodup_append]
    refine ⟨h.nd, List.nodup_cons.mpr ⟨List.not_mem_nil, List.nodup_nil⟩, fun x hx y hy e => ?_⟩
    rw [List.mem_singleton] at hy
    rw [e, hy] at hx
    exact hn hx
  · rcases List.mem_append.mp hx with m | m
    · exact h.rg x m
    · rw [List.mem_singleton.mp m]; exact hr
  · rcases List.mem_append.mp hv with m | m
    · exact h.mn C c1 c2 v m
    · rw [List.mem_singleton.mp m]; exact hc C c1 c2
theorem lreach_F : ∀ (n : Nat) (g : List (List Int)) (st : List Int), Gw n g → (∀ x ∈ st, 0 ≤ x ∧ x < (n : Int)) → ∃ xs, GR.U_law_reach [grT g, rowI st] = some (rowI xs) ∧ xs.Pairwise (· < ·) ∧ Rch n g st (· ∈ xs) := fun n g st hg hs => by
  have gl := hg.len
  have gle := hg.le
  have key : Ok (GR.U_law_reach [grT g, rowI st]) fun v => ∃ fo, v = rowI (sortI fo) ∧ fo.Nodup ∧ Rch n g st (· ∈ fo) := by
    refine k_fun rfl ?_
    unfold GR.S_law_reach grT rowI
    walk_at "ks"
    refine n_cutF (fun e' => ∃ (fo : List Int) (o3 : Option T), e' = [some (.lst (g.map rowI)), some (.lst (st.map T.int)), some (.lst (fo.map T.int)), o3, none] ∧ Fnd n g st fo ∧ ∀ x ∈ st, x ∈ fo) ?_ ?_
    · walk_at "k1"
      refine for_inv (fun i e' => ∃ (fo : List Int) (o3 : Option T), e' = [some (.lst (g.map rowI)), some (.lst (st.map T.int)), some (.lst (fo.map T.int)), o3, none] ∧ Fnd n g st fo ∧ ∀ x ∈ st.take i, x ∈ fo) ⟨[], _, rfl, ⟨List.nodup_nil, fun x h => (nomatch h), fun C _ _ v h => (nomatch h)⟩, fun x h => by simp at h⟩ ?_ ?_
      · rintro i x _ hx ⟨fo, o3, rfl, hf, hi⟩
        rw [List.getElem?_map] at hx
        obtain ⟨a, ea, rfl⟩ := Option.map_eq_some_iff.mp hx
        have ain := List.mem_of_getElem? ea
        have et : st.take (i + 1) = st.take i ++ [a] := by rw [List.take_succ, ea]; rfl
        have fle := nodup_le n fo hf.nd hf.rg
        walk_at "k1"
        rw [ok_eq mem_ints]
        walk_at "k1"
        by_cases c : a ∈ fo
        · rw [decide_eq_true c]
          walk_at "k1"
          refine ⟨fo, _, rfl, hf, fun x hx => ?_⟩
          rw [et] at hx
          rcases List.mem_append.mp hx with m | m
          · exact hi x m
          · rw [List.mem_singleton.mp m]; exact c
        · rw [decide_eq_false c]
          walk_at "k1"
          refine ⟨by rw [List.length_map]; omega, fo ++ [a], _, by rw [List.map_append]; rfl, hf.add c (hs a ain) fun C c1 _ => c1 a ain, fun x hx => ?_⟩
          rw [et] at hx
          rcases List.mem_append.mp hx with m | m
          · exact List.mem_append_left _ (hi x m)
          · exact List.mem_append_right _ m
      · rintro _ ⟨fo, o3, rfl, hf, hi⟩
        refine ⟨fo, o3, rfl, hf, ?_⟩
        rwa [List.length_map, List.take_length] at hi
    rintro _ ⟨fo, o3, rfl, hf, hi⟩
    walk_at "ks"
    rw [List.length_map, gl]
    refine ⟨by omega, ?_⟩
    refine for_inv (fun k e' => ∃ (fo : List Int) (o3 o4 : Option T), e' = [some (.lst (g.map rowI)), some (.lst (st.map T.int)), some (.lst (fo.map T.int)), o3, o4] ∧ Fnd n g st fo ∧ (∀ x ∈ st, x ∈ fo) ∧ ∀ j v r, j < k → fo[j]? = some v → g[v.toNat]? = some r → ∀ a ∈ r, a ∈ fo) ⟨fo, _, _, rfl, hf, hi, fun j v r h => by omega⟩ ?_ ?_
    · rintro k x _ hx ⟨fo, o3, o4, rfl, hf, hi, hk⟩
      obtain ⟨_, rfl⟩ := rngT_get hx
      rw [Int.zero_add]
      have fle := nodup_le n fo hf.nd hf.rg
      walk_at "k1"
      rw [List.length_map]
      by_cases c : k < fo.length
      · rw [if_pos (decide_eq_true (show (k : Int) < fo.length by omega))]
        obtain ⟨v, ev⟩ : ∃ v, fo[k]? = some v := ⟨_, List.getElem?_eq_getElem c⟩
        obtain ⟨v0, v1⟩ := hf.rg v (List.mem_of_getElem? ev)
        obtain ⟨r, er⟩ : ∃ r, g[v.toNat]? = some r := ⟨_, List.getElem?_eq_getElem (by omega)⟩
        have ea : atI (fo.map T.int) (k : Int) = some (.int v) := atI_ge (by omega) (by rw [Int.toNat_natCast, List.getElem?_map, ev]; rfl)
        rw [ok_eq ea]
        walk_at "k1"
        rw [ok_eq (at_gi v0 er)]
        walk_at "k1"
        refine for_inv (fun i e' => ∃ (new : List Int) (o3 : Option T), e' = [some (.lst (g.map rowI)), some (.lst (st.map T.int)), some (.lst ((fo ++ new).map T.int)), o3, some (.int k)] ∧ Fnd n g st (fo ++ new) ∧ ∀ a ∈ r.take i, a ∈ fo ++ new) ⟨[], _, by rw [List.append_nil], by rw [List.append_nil]; exact hf, fun x h => by simp at h⟩ ?_ ?_
        · rintro i x _ hx ⟨new, o3, rfl, hf', ht⟩
          rw [List.getElem?_map] at hx
          obtain ⟨a, ea', rfl⟩ := Option.map_eq_some_iff.mp hx
          have ain := List.mem_of_getElem? ea'
          have et : r.take (i + 1) = r.take i ++ [a] := by rw [List.take_succ, ea']; rfl
          have fle' := nodup_le n (fo ++ new) hf'.nd hf'.rg
          walk_at "k1"
          rw [ok_eq mem_ints]
          walk_at "k1"
          by_cases c' : a ∈ fo ++ new
          · rw [decide_eq_true c']
            walk_at "k1"
            refine ⟨new, _, rfl, hf', fun x hx => ?_⟩
            rw [et] at hx
            rcases List.mem_append.mp hx with m | m
            · exact ht x m
            · rw [List.mem_singleton.mp m]; exact c'
          · rw [decide_eq_false c']
            walk_at "k1"
            refine ⟨by rw [List.length_map]; omega, new ++ [a], some (.int a), ?_, ?_, fun x hx => ?_⟩
            · rw [← List.append_assoc, List.map_append (l₁ := fo ++ new)]; rfl
            · rw [← List.append_assoc]
              exact hf'.add c' (hg.nd r (List.mem_of_getElem? er) a ain) fun C c1 c2 => c2 v r (hf.mn C c1 c2 v (List.mem_of_getElem? ev)) v0 v1 er a ain
            · rw [et] at hx
              rw [← List.append_assoc]
              rcases List.mem_append.mp hx with m | m
              · exact List.mem_append_left _ (ht x m)
              · exact List.mem_append_right _ m
        · rintro _ ⟨new, o3, rfl, hf', ht⟩
          rw [List.length_map, List.take_length] at ht
          refine ⟨fo ++ new, _, _, rfl, hf', fun x hx => List.mem_append_left _ (hi x hx), fun j v' r' hj hv' hr' a ha => ?_⟩
          have jl : j < fo.length := by omega
          rw [List.getElem?_append_left jl] at hv'
          by_cases z : j < k
          · exact List.mem_append_left _ (hk j v' r' z hv' hr' a ha)
          · have : j = k := by omega
            subst this
            rw [ev] at hv'; cases hv'
            rw [er] at hr'; cases hr'
            exact ht a ha
      · rw [if_neg (fun z => c (by have := of_decide_eq_true z; omega))]
        exact ⟨fo, _, _, rfl, hf, hi, fun j v r hj hv => hk j v r (by have := (List.getElem?_eq_some_iff.mp hv).1; omega) hv⟩
    · rintro _ ⟨fo, o3, o4, rfl, hf, hi, hk⟩
      rw [rngT_len] at hk
      have fle := nodup_le n fo hf.nd hf.rg
      walk_at "k1"
      rw [ok_eq sortT_l]
      refine ⟨fo, rfl, hf.nd, hf.rg, hi, fun v r hv er a ha => ?_, fun C c1 c2 => hf.mn C c1 c2⟩
      obtain ⟨j, hj⟩ := List.getElem?_of_mem hv
      have jl := (List.getElem?_eq_some_iff.mp hj).1
      exact hk j v r (by omega) hj er a ha
  obtain ⟨v, q, fo, rfl, nd, rc⟩ := key.eq
  refine ⟨sortI fo, q, sort_strict nd, ?_⟩
  rw [show (fun v => v ∈ sortI fo) = fun v => v ∈ fo from funext fun v => propext (sortI_perm fo).mem_iff]
  exact rc
-- slots of _law_line: 0 script 1 draws 2 size 3 order 4 after 5 k 6 v
def S_law_line (F_law_draws : List T → Option T) : FS :=
  (fSeqS (fSet (fCB F_law_draws (fCons (fVar 0) (fCons (fC (.int 5)) (fCons (fC (.int 4)) (fCons (fC (.int 1000)) fNil))))) 1)
      (fSeqS (fSet (fOp addT (fC (.int 700)) (fOp modT (fCB intT (fCons (fOp ixT (fVar 1) (fC (.int 0))) fNil)) (fC (.int 801)))) 2)
      (fSeqS (fSet (fLc (fR1 (fVar 2)) 5 fYes (fOp modT (fCB intT (fCons (fOp addT (fOp mulT (fOp ixT (fVar 1) (fC (.int 1))) (fC (.int 2))) (fVar 5)) fNil)) (fVar 2)) [5]) 3)
      (fSeqS (fIfS (fTest (fOp (oBl eqST) (fOp modT (fCB intT (fCons (fOp ixT (fVar 1) (fC (.int 2))) fNil)) (fC (.int 2))) (fC (.int 1))))
      (fSet (fUn lrevT (fVar 3)) 3)
      fNext)
      (fSeqS (fOwn (fLc (fR1 (fVar 2)) 6 fYes (fLst fNil) [6]) 4)
      (fSeqS (fFor (fR2 (fC (.int 1)) (fVar 2)) (gtNm 5)
      (fApp 4 (pIx (pVar 4) (fOp ixT (fVar 3) (fOp subT (fVar 5) (fC (.int 1))))) (fOp ixT (fVar 3) (fVar 5))))
      (fSeqS (fIfS (fTest (fOp (oBl eqST) (fOp modT (fCB intT (fCons (fOp fdivT (fOp ixT (fVar 1) (fC (.int 2))) (fC (.int 2))) fNil)) (fC (.int 2))) (fC (.int 1))))
      (fApp 4 (pIx (pVar 4) (fOp ixT (fVar 3) (fOp subT (fVar 2) (fC (.int 1))))) (fOp ixT (fVar 3) (fC (.int 0))))
      fNext)
      (fRet (fLst (fCons (fVar 4) (fCons (fVar 3) fNil)))))))))))
abbrev U_law_line (F_law_draws : List T → Option T) : List T → Option T := funT false 1 7 (S_law_line F_law_draws)
/-- a long line of nodes, or a ring -/
structure Line (n : Nat) (g : List (List Int)) (os : List Int) (w : Bool) : Prop where
  n1 : 1 ≤ n ∧ n ≤ 1501
  ol : os.length = n
  nd : os.Nodup
  rg : ∀ v ∈ os, 0 ≤ v ∧ v < (n : Int)
  gl : g.length = n
  nx : ∀ j v, os[j]? = some v → j + 1 < n → ∃ z, os[j + 1]? = some z ∧ g[v.toNat]? = some [z]
  last : ∀ v, os[n - 1]? = some v → ∃ z, os[0]? = some z ∧ g[v.toNat]? = some (if w then [z] else [])
theorem nodup_all {n : Nat} {os : List Int} (nd : os.Nodup) (rg : ∀ v ∈ os, 0 ≤ v ∧ v < (n : Int)) (ol : os.length = n) {v : Int} (h : 0 ≤ v ∧ v < (n : Int)) : v ∈ os := by
  by_cases c : v ∈ os
  · exact c
  · have := nodup_le n (v :: os) (List.nodup_cons.mpr ⟨c, nd⟩) fun x hx => (List.mem_cons.mp hx).elim (fun e => by rw [e]; exact h) (rg x)
    rw [List.length_cons] at this
    omega
theorem Line.row {n : Nat} {g : List (List Int)} {os : List Int} {w : Bool} (L : Line n g os w) {r : List Int} (hr : r ∈ g) : ∃ (j : Nat) (v : Int), j < n ∧ os[j]? = some v ∧ g[v.toNat]? = some r := by
  obtain ⟨i, hi⟩ := List.getElem?_of_mem hr
  have il := (List.getElem?_eq_some_iff.mp hi).1
  have gl := L.gl
  have m := nodup_all L.nd L.rg L.ol (v := (i : Int)) ⟨by omega, by omega⟩
  obtain ⟨j, hj⟩ := List.getElem?_of_mem m
  have jl := (List.getElem?_eq_some_iff.mp hj).1
  rw [L.ol] at jl
  exact ⟨j, i, jl, hj, by rw [Int.toNat_natCast]; exact hi⟩
theorem Line.gw {n : Nat} {g : List (List Int)} {os : List Int} {w : Bool} (L : Line n g os w) : Gw n g := by
  refine ⟨L.gl, fun r hr x hx => ?_, by have := L.n1.2; omega⟩
  obtain ⟨j, v, jn, ej, eg⟩ := L.row hr
  by_cases c : j + 1 < n
  · obtain ⟨z, ez, eg'⟩ := L.nx j v ej c
    rw [eg] at eg'; cases eg'
    rw [List.mem_singleton.mp hx]
    exact L.rg z (List.mem_of_getElem? ez)
  · obtain ⟨z, ez, eg'⟩ := L.last v (by rw [show n - 1 = j from by omega]; exact ej)
    rw [eg] at eg'
    cases w with
    | true => cases eg'; rw [List.mem_singleton.mp hx]; exact L.rg z (List.mem_of_getElem? ez)
    | false => cases eg'; exact (nomatch hx)
theorem Line.on {n : Nat} {g : List (List Int)} {os : List Int} {w : Bool} (L : Line n g os w) {s : Int} {R : Int → Prop} (h : Rch n g [s] R) {k : Nat} {u : Int} (ek : os[k]? = some u) (hu : R u) : ∀ (m : Nat) v, os[k + m]? = some v → R v := by
  intro m
  induction m with
  | zero => intro v e; rw [Nat.add_zero, ek] at e; cases e; exact hu
  | succ m ih =>
    intro v e
    have l := (List.getElem?_eq_some_iff.mp e).1
    have ol := L.ol
    obtain ⟨u', eu'⟩ : ∃ u', os[k + m]? = some u' := ⟨_, List.getElem?_eq_getElem (by omega)⟩
    obtain ⟨z, ez, eg⟩ := L.nx (k + m) u' eu' (by omega)
    rw [show k + (m + 1) = k + m + 1 from rfl] at e
    rw [e] at ez; cases ez
    exact h.cl u' _ (ih u' eu') eg v (List.mem_singleton.mpr rfl)
theorem Line.reach {n : Nat} {g : List (List Int)} {os : List Int} {w : Bool} (L : Line n g os w) {s : Int} {R : Int → Prop} {k : Nat} (ek : os[k]? = some s) (h : Rch n g [s] R) (v : Int) : R v ↔ if w = true then 0 ≤ v ∧ v < (n : Int) else v ∈ os.drop k := by
  have ol := L.ol
  have n1 := L.n1.1
  have hs : R s := h.ini s (List.mem_singleton.mpr rfl)
  have kl := (List.getElem?_eq_some_iff.mp ek).1
  cases w with
  | false =>
    rw [if_neg (by decide)]
    constructor
    · intro hv
      have := h.le (fun v => ∃ j : Nat, k ≤ j ∧ os[j]? = some v) (fun x hx => ⟨k, Nat.le_refl _, by rw [List.mem_singleton.mp hx]; exact ek⟩) (fun v r ⟨j, hj, ej⟩ _ _ er a ha => by
        have jl := (List.getElem?_eq_some_iff.mp ej).1
        by_cases c : j + 1 < n
        · obtain ⟨z, ez, eg⟩ := L.nx j v ej c
          rw [er] at eg; cases eg
          exact ⟨j + 1, by omega, by rw [List.mem_singleton.mp ha]; exact ez⟩
        · obtain ⟨z, ez, eg⟩ := L.last v (by rw [show n - 1 = j from by omega]; exact ej)
          rw [er] at eg; cases eg
          exact (nomatch ha)) v hv
      obtain ⟨j, hj, ej⟩ := this
      refine List.mem_of_getElem? (i := j - k) ?_
      rw [List.getElem?_drop, show k + (j - k) = j from by omega]; exact ej
    · intro hv
      obtain ⟨m, em⟩ := List.getElem?_of_mem hv
      rw [List.getElem?_drop] at em
      exact L.on h ek hs m v em
  | true =>
    rw [if_pos rfl]
    constructor
    · exact h.rg v
    · intro hv
      obtain ⟨u, eu⟩ : ∃ u, os[n - 1]? = some u := ⟨_, List.getElem?_eq_getElem (by omega)⟩
      have hu : R u := L.on h ek hs (n - 1 - k) u (by rw [show k + (n - 1 - k) = n - 1 from by omega]; exact eu)
      obtain ⟨z, ez, eg⟩ := L.last u eu
      rw [if_pos rfl] at eg
      have hz : R z := h.cl u _ hu eg z (List.mem_singleton.mpr rfl)
      obtain ⟨j, ej⟩ := List.getElem?_of_mem (nodup_all L.nd L.rg L.ol hv)
      exact L.on h ez hz j v (by rw [Nat.zero_add]; exact ej)
theorem rot_nodup {n : Nat} {b : Int} : ((rI n).map fun k => (b + k) % (n : Int)).Nodup := by
  refine List.Pairwise.map _ (R := fun i j => 0 ≤ i ∧ i < j ∧ j < (n : Int)) (fun i j ⟨h0, h1, h2⟩ e => ?_) ?_
  · have := Int.emod_eq_emod_iff_emod_sub_eq_zero.mp e.symm
    rw [show b + j - (b + i) = j - i from by omega, Int.emod_eq_of_lt (by omega) (by omega)] at this
    omega
  · unfold rI
    refine List.pairwise_map.mpr ?_
    refine List.Pairwise.imp_of_mem (R := (· < ·)) (fun ha hb h => ?_) List.pairwise_lt_range
    rw [List.mem_range] at ha hb
    omega
theorem at_g2 {os : List Int} {j : Nat} {v : Int} (e : os[j]? = some v) : atI (os.map T.int) (j : Int) = some (.int v) := atI_ge (by omega) (by rw [Int.toNat_natCast, List.getElem?_map, e]; rfl)
def LineF (F : List T → Option T) : Prop := ∀ ns : List Int, ∃ (n : Nat) (g : List (List Int)) (os : List Int) (w : Bool), F [scT ns] = some (.lst [grT g, rowI os]) ∧ Line n g os w
theorem line_F {F : List T → Option T} (dr : DrawF F) : LineF (GR.U_law_line F) := fun ns => by
  have key : Ok (GR.U_law_line F [scT ns]) fun v => ∃ (n : Nat) (g : List (List Int)) (os : List Int) (w : Bool), v = .lst [grT g, rowI os] ∧ Line n g os w := by
    refine k_fun rfl ?_
    obtain ⟨zs, q, zl, zr⟩ := dr ns 5 4 1000 (by decide) (by decide) (by decide)
    have zl : zs.length = 4 := zl
    match zs, zl with
    | [d0, d1, d2, d3], _ =>
    have h0 := zr d0 (by simp)
    have h1 := zr d1 (by simp)
    unfold GR.S_law_line
    walk_at "ks"
    rw [ok_eq q]
    walk_at "k1"; walk_at "ks"
    have a0 : atI [T.int d0, T.int d1, T.int d2, T.int d3] 0 = some (.int d0) := rfl
    have a1 : atI [T.int d0, T.int d1, T.int d2, T.int d3] 1 = some (.int d1) := rfl
    have a2 : atI [T.int d0, T.int d1, T.int d2, T.int d3] 2 = some (.int d2) := rfl
    have m0 := Int.emod_nonneg d0 (b := 801) (by decide)
    have m1 := Int.emod_lt_of_pos d0 (b := 801) (by decide)
    obtain ⟨n, hn⟩ : ∃ n : Nat, 700 + d0 % 801 = (n : Int) := ⟨(700 + d0 % 801).toNat, by omega⟩
    have n1 : 1 ≤ n ∧ n ≤ 1501 := by omega
    have np : (0 : Int) < n := by omega
    rw [hn]
    walk_at "k1"; walk_at "ks"
    refine ⟨by omega, by rw [rngT_len]; omega, ?_⟩
    rw [ok_eq (lc_map (fun t => match t with | .int z => .int ((d1 * 2 + z) % (n : Int)) | _ => .non) _ fun x hx => ?_)]
    rotate_left
    · obtain ⟨i, _, rfl⟩ := rngT_mem hx
      refine eq_ok ?_
      rw [Int.zero_add]
      walk_at "k1"
      exact np
    have e1 : (rngT 0 (n : Int).toNat).map (fun t => match t with | .int z => .int ((d1 * 2 + z) % (n : Int)) | _ => .non) = ((rI n).map fun k => (d1 * 2 + k) % (n : Int)).map T.int := by
      rw [Int.toNat_natCast, rng_rI, List.map_map, List.map_map]; rfl
    rw [e1]
    have nd0 := rot_nodup (n := n) (b := d1 * 2)
    have rg0 : ∀ v ∈ (rI n).map (fun k => (d1 * 2 + k) % (n : Int)), 0 ≤ v ∧ v < (n : Int) := fun v hv => by
      obtain ⟨k, _, rfl⟩ := List.mem_map.mp hv
      exact ⟨Int.emod_nonneg _ (by omega), Int.emod_lt_of_pos _ np⟩
    have ol0 : ((rI n).map fun k => (d1 * 2 + k) % (n : Int)).length = n := by rw [List.length_map, rI_len]
    generalize ((rI n).map fun k => (d1 * 2 + k) % (n : Int)) = os0 at nd0 rg0 ol0 ⊢
    refine n_cutF (fun e' => ∃ os : List Int, e' = [some (scT ns), some (.lst [.int d0, .int d1, .int d2, .int d3]), some (.int n), some (.lst (os.map T.int)), none, none, none] ∧ os.Nodup ∧ (∀ v ∈ os, 0 ≤ v ∧ v < (n : Int)) ∧ os.length = n) ?_ ?_
    · walk_at "k1"
      refine w_ifE (fun _ => ?_) fun _ => ⟨os0, rfl, nd0, rg0, ol0⟩
      rw [ok_eq lrevT_l]
      refine ⟨os0.reverse, by rw [List.map_reverse], (List.reverse_perm os0).nodup_iff.mpr nd0, fun v hv => rg0 v (List.mem_reverse.mp hv), by rw [List.length_reverse]; exact ol0⟩
    rintro _ ⟨os, rfl, nd, rg, ol⟩
    walk_at "ks"
    refine ⟨by omega, by rw [rngT_len]; omega, ?_⟩
    rw [ok_eq (lc_map (fun _ => .lst []) _ fun x hx => rfl)]
    have e2 : (rngT 0 (n : Int).toNat).map (fun _ => T.lst []) = (List.replicate n ([] : List Int)).map rowI := by
      rw [List.map_replicate]
      exact List.eq_replicate_iff.mpr ⟨by rw [List.length_map, rngT_len, Int.toNat_natCast], fun b hb => by obtain ⟨_, _, rfl⟩ := List.mem_map.mp hb; rfl⟩
    rw [e2]
    refine n_cutF (fun e' => ∃ (g : List (List Int)) (o5 : Option T), e' = [some (scT ns), some (.lst [.int d0, .int d1, .int d2, .int d3]), some (.int n), some (.lst (os.map T.int)), some (.lst (g.map rowI)), o5, none] ∧ g.length = n ∧ ∀ (j : Nat) (v : Int), os[j]? = some v → g[v.toNat]? = some (os[j + 1]?).toList) ?_ ?_
    · walk_at "k1"
      refine ⟨by omega, ?_⟩
      refine for_inv (fun i e' => ∃ (g : List (List Int)) (o5 : Option T), e' = [some (scT ns), some (.lst [.int d0, .int d1, .int d2, .int d3]), some (.int n), some (.lst (os.map T.int)), some (.lst (g.map rowI)), o5, none] ∧ g.length = n ∧ ∀ (j : Nat) (v : Int), os[j]? = some v → g[v.toNat]? = some (if j < i then (os[j + 1]?).toList else [])) ⟨_, _, rfl, List.length_replicate, fun j v e => by
        have := rg v (List.mem_of_getElem? e)
        rw [List.getElem?_replicate, if_pos (by omega)]; rfl⟩ ?_ ?_
      · rintro i x _ hx ⟨g, o5, rfl, gl, hg⟩
        obtain ⟨il, rfl⟩ := rngT_get hx
        obtain ⟨u, eu⟩ : ∃ u, os[i]? = some u := ⟨_, List.getElem?_eq_getElem (by omega)⟩
        obtain ⟨z, ez⟩ : ∃ z, os[i + 1]? = some z := ⟨_, List.getElem?_eq_getElem (by omega)⟩
        obtain ⟨u0, u1⟩ := rg u (List.mem_of_getElem? eu)
        have gu := hg i u eu
        rw [if_neg (Nat.lt_irrefl _)] at gu
        have lu : ixN (g.map rowI).length u = some u.toNat := ixN_I u0 (by rw [List.length_map, gl]; exact u1)
        have eg : (g.map rowI)[u.toNat]? = some (.lst []) := by rw [List.getElem?_map, gu]; rfl
        walk_at "k1"
        rw [show (1 + (i : Int) - 1) = i from by omega, ok_eq (at_g2 eu)]
        walk_at "k1"
        rw [ok_eq lu, ok_eq eg]
        walk_at "k1"
        rw [show (1 + (i : Int)) = ((i + 1 : Nat) : Int) from by omega, ok_eq (at_g2 ez)]
        walk_at "k1"
        refine ⟨g.set u.toNat [z], _, by rw [List.map_set]; rfl, by rw [List.length_set]; exact gl, fun j v e => ?_⟩
        rw [set_get (by omega)]
        by_cases c : u.toNat = v.toNat
        · have v0 := (rg v (List.mem_of_getElem? e)).1
          have : v = u := by omega
          subst this
          have ji : j = i := List.getElem?_inj (List.getElem?_eq_some_iff.mp e).1 nd |>.mp (by rw [e, eu])
          subst ji
          rw [if_pos c, if_pos (Nat.lt_succ_self _), ez]; rfl
        · have ji : j ≠ i := fun z => by subst z; rw [e] at eu; cases eu; exact c rfl
          rw [if_neg c, hg j v e]
          by_cases z : j < i
          · rw [if_pos z, if_pos (by omega)]
          · rw [if_neg z, if_neg (by omega)]
      · rintro _ ⟨g, o5, rfl, gl, hg⟩
        refine ⟨g, o5, rfl, gl, fun j v e => ?_⟩
        have jl := (List.getElem?_eq_some_iff.mp e).1
        rw [hg j v e, rngT_len]
        by_cases c : j < ((n : Int) - 1).toNat
        · rw [if_pos c]
        · rw [if_neg c, List.getElem?_eq_none (by omega)]; rfl
    rintro _ ⟨g, o5, rfl, gl, hg⟩
    have ini : ∀ w : Bool, (w = false) → Line n g os w := fun w hw => by
      subst hw
      refine ⟨n1, ol, nd, rg, gl, fun j v e h => ?_, fun v e => ?_⟩
      · obtain ⟨z, ez⟩ : ∃ z, os[j + 1]? = some z := ⟨_, List.getElem?_eq_getElem (by omega)⟩
        exact ⟨z, ez, by rw [hg j v e, ez]; rfl⟩
      · obtain ⟨z, ez⟩ : ∃ z, os[0]? = some z := ⟨_, List.getElem?_eq_getElem (by omega)⟩
        exact ⟨z, ez, by rw [hg _ v e, List.getElem?_eq_none (by omega)]; rfl⟩
    have L0 := ini false rfl
    refine n_cutF (fun e' => ∃ (g : List (List Int)) (w : Bool), e' = [some (scT ns), some (.lst [.int d0, .int d1, .int d2, .int d3]), some (.int n), some (.lst (os.map T.int)), some (.lst (g.map rowI)), o5, none] ∧ Line n g os w) ?_ ?_
    · walk_at "k1"
      refine w_ifE (fun _ => ?_) fun _ => ⟨g, false, rfl, L0⟩
      obtain ⟨u, eu⟩ : ∃ u, os[n - 1]? = some u := ⟨_, List.getElem?_eq_getElem (by omega)⟩
      obtain ⟨z, ez⟩ : ∃ z, os[0]? = some z := ⟨_, List.getElem?_eq_getElem (by omega)⟩
      obtain ⟨u0, u1⟩ := rg u (List.mem_of_getElem? eu)
      have gu : g[u.toNat]? = some [] := by rw [hg _ u eu, List.getElem?_eq_none (by omega)]; rfl
      have lu : ixN (g.map rowI).length u = some u.toNat := ixN_I u0 (by rw [List.length_map, gl]; exact u1)
      have eg : (g.map rowI)[u.toNat]? = some (.lst []) := by rw [List.getElem?_map, gu]; rfl
      rw [show ((n : Int) - 1) = ((n - 1 : Nat) : Int) from by omega, ok_eq (at_g2 eu)]
      walk_at "k1"
      rw [ok_eq lu, ok_eq eg]
      walk_at "k1"
      rw [ok_eq (show atI (os.map T.int) 0 = some (.int z) from at_g2 (j := 0) ez)]
      walk_at "k1"
      refine ⟨g.set u.toNat [z], true, by rw [List.map_set]; rfl, n1, ol, nd, rg, by rw [List.length_set]; exact gl, fun j v e h => ?_, fun v e => ?_⟩
      · obtain ⟨z', ez', eg'⟩ := L0.nx j v e h
        refine ⟨z', ez', ?_⟩
        rw [set_get (by omega), if_neg fun c => ?_]
        · exact eg'
        · have v0 := (rg v (List.mem_of_getElem? e)).1
          have : v = u := by omega
          subst this
          have ji : j = n - 1 := List.getElem?_inj (List.getElem?_eq_some_iff.mp e).1 nd |>.mp (by rw [e, eu])
          omega
      · rw [eu] at e; cases e
        exact ⟨z, ez, by rw [set_get (by omega), if_pos rfl]; rfl⟩
    rintro _ ⟨g, w, rfl, L⟩
    walk_at "k1"
    exact ⟨n, g, os, w, rfl, L⟩
  obtain ⟨v, q, n, g, os, w, rfl, h⟩ := key.eq
  exact ⟨n, g, os, w, q, h⟩
end GR
namespace K32
open PySem L2 Mi
def top (i : Nat) : Stmt := PySem.Challenge.pw_lassoproof_k32_shortest_path.main.body.getD i (.Pass ⟨0, 0, 0, 0⟩)
-- PROGRAM
def b_0 (Φ : Nat → List D → DH → Res D) (M : Nat) : SM :=
  (sSeq (sAsg (mDc (iSeq (mVar 2)) (.nm 10) mYes (mVar 10) (mC (.bl true)) [10]) (gNm 3))
      (sSeq (sFor (iSeq (mVar 1)) (gNm 4)
      (sIf (mTest (mDIn false (mVar 4) (mVar 3)))
      (sRet (mLst (aCons (mVar 4) aNil)))
      sNext))
      (sSeq (sAsg (mDc (iSeq (mVar 1)) (.nm 4) mYes (mVar 4) (mC .non) [4]) (gNm 5))
      (sSeq (sAsg (mCB dkeysD (aCons (mVar 5) aNil)) (gNm 6))
      (sSeq (sAsg (mC (.int 0)) (gNm 7))
      (sSeq (sWhile M (mTest (mOp ltD (mVar 7) (mCB lenD (aCons (mVar 6) aNil))))
      (sSeq (sAsg (mOp ixD (mVar 6) (mVar 7)) (gNm 8))
      (sSeq (sAug 7 addI (mC (.int 1)))
      (sFor (iSeq (mOp ixD (mVar 0) (mVar 8))) (gNm 9)
      (sIf (mTest (mDIn true (mVar 9) (mVar 5)))
      (sSeq (Mi.sDPut (mVar 8) (mVar 5) (mVar 9))
      (sSeq (sIf (mTest (mDIn false (mVar 9) (mVar 3)))
      (sRet (mCB (Φ 1) (aCons (mVar 9) (aCons (mVar 5) aNil))))
      sNext)
      (sDrop (mMt "list" appD (mVar 6) (aCons (mVar 9) aNil)))))
      sNext)))))
      (sRet (mC .non))))))))
def b_1 (Φ : Nat → List D → DH → Res D) (M : Nat) : SM :=
  (sSeq (sAsg (mLst aNil) (gNm 2))
      (sSeq (sAsg (mVar 0) (gNm 3))
      (sSeq (sWhile M (mTest (mOp ntND (mVar 3) (mC .non)))
      (sSeq (sDrop (mMt "list" appD (mVar 2) (aCons (mVar 3) aNil)))
      (sAsg (mDGet (mVar 1) (mVar 3)) (gNm 3))))
      (sSeq (sDrop (mMt "list" revD (mVar 2) aNil))
      (sRet (mVar 2))))))
def b_2 (Φ : Nat → List D → DH → Res D) (M : Nat) : SM :=
  (sSeq (sIf (mTest (mOp ltD (mVar 1) (mCB lenD (aCons (mVar 0) aNil))))
      (sRet (mCB intD (aCons (mOp ixD (mVar 0) (mVar 1)) aNil)))
      sNext)
      (sRet (mC (.int 0))))
def b_3 (Φ : Nat → List D → DH → Res D) (M : Nat) : SM :=
  (sSeq (sAsg (mCB (Φ 2) (aCons (mVar 0) (aCons (mVar 1) aNil))) (gNm 4))
      (sSeq (sAsg (mLst aNil) (gNm 5))
      (sSeq (sIf (mTest (mOp geD (mVar 4) (mOp powD (mC (.int 10)) (mC (.int 18)))))
      (sSeq (sAsg (mOp subD (mVar 4) (mOp powD (mC (.int 10)) (mC (.int 18)))) (gNm 8))
      (sSeq (sFor (iR1 (mVar 2)) (gNm 7)
      (sSeq (sDrop (mMt "list" appD (mVar 5) (aCons (mOp modD (mCB intD (aCons (mVar 8) aNil)) (mVar 3)) aNil)))
      (sAsg (mOp fdivD (mVar 8) (mVar 3)) (gNm 8))))
      (sRet (mVar 5))))
      sNext)
      (sSeq (sAsg (mOp modD (mCB intD (aCons (mOp addD (mOp mulD (mVar 4) (mC (.int 48271))) (mOp mulD (mVar 1) (mC (.int 69621)))) aNil)) (mC (.int 2147483647))) (gNm 6))
      (sSeq (sFor (iR1 (mVar 2)) (gNm 7)
      (sSeq (sAsg (mOp modD (mCB intD (aCons (mOp addD (mOp addD (mOp mulD (mVar 6) (mC (.int 16807))) (mOp mulD (mVar 7) (mC (.int 48271)))) (mC (.int 12345))) aNil)) (mC (.int 2147483647))) (gNm 6))
      (sSeq (sAsg (mOp modD (mCB intD (aCons (mOp addD (mOp mulD (mVar 6) (mVar 6)) (mOp mulD (mVar 6) (mC (.int 69621)))) aNil)) (mC (.int 2147483629))) (gNm 9))
      (sDrop (mMt "list" appD (mVar 5) (aCons (mOp modD (mCB intD (aCons (mOp fdivD (mVar 9) (mC (.int 16))) aNil)) (mVar 3)) aNil))))))
      (sRet (mVar 5)))))))
def b_4 (Φ : Nat → List D → DH → Res D) (M : Nat) : SM :=
  (sSeq (sAsg (mOp addD (mC (.int 1)) (mOp modD (mCB intD (aCons (mOp ixD (mVar 1) (mC (.int 1))) aNil)) (mC (.int 6)))) (gNm 2))
      (sSeq (sIf (mTest (mOp eqD (mOp modD (mCB intD (aCons (mOp ixD (mVar 1) (mC (.int 0))) aNil)) (mC (.int 8))) (mC (.int 7))))
      (sAsg (mOp addD (mC (.int 7)) (mOp modD (mCB intD (aCons (mOp ixD (mVar 1) (mC (.int 1))) aNil)) (mC (.int 6)))) (gNm 2))
      sNext)
      (sSeq (sIf (mTest (mOp eqD (mOp modD (mCB intD (aCons (mOp ixD (mVar 1) (mC (.int 0))) aNil)) (mC (.int 24))) (mC (.int 6))))
      (sAsg (mC (.int 0)) (gNm 2))
      sNext)
      (sSeq (sAsg (mOp ixD (mLst (aCons (mC (.int 1)) (aCons (mC (.int 2)) (aCons (mC (.int 2)) (aCons (mC (.int 3)) (aCons (mC (.int 4)) (aCons (mC (.int 7)) aNil))))))) (mOp modD (mCB intD (aCons (mOp ixD (mVar 1) (mC (.int 2))) aNil)) (mC (.int 6)))) (gNm 3))
      (sSeq (sIf (mTest (mOp gtD (mVar 2) (mC (.int 6))))
      (sAsg (mOp addD (mC (.int 1)) (mOp fdivD (mVar 3) (mC (.int 4)))) (gNm 3))
      sNext)
      (sSeq (sAsg (mCB (Φ 3) (aCons (mVar 0) (aCons (mC (.int 1)) (aCons (mOp mulD (mVar 2) (mVar 2)) (aCons (mC (.int 12)) aNil))))) (gNm 4))
      (sSeq (sAsg (mLst aNil) (gNm 5))
      (sSeq (sFor (iR1 (mVar 2)) (gNm 6)
      (sDrop (mMt "list" appD (mVar 5) (aCons (mLc (iR1 (mVar 2)) 7 (mTest (mOp ltD (mOp ixD (mVar 4) (mOp addD (mOp mulD (mVar 6) (mVar 2)) (mVar 7))) (mVar 3))) (mVar 7) [7]) aNil))))
      (sRet (mVar 5))))))))))
def b_5 (Φ : Nat → List D → DH → Res D) (M : Nat) : SM :=
  (sSeq (sAsg (mOp addD (mC (.int 20)) (mOp modD (mCB intD (aCons (mOp ixD (mVar 1) (mC (.int 1))) aNil)) (mC (.int 41)))) (gNm 2))
      (sSeq (sAsg (mOp subD (mC (.int 1)) (mOp mulD (mC (.int 2)) (mOp modD (mCB intD (aCons (mOp ixD (mVar 1) (mC (.int 3))) aNil)) (mC (.int 2))))) (gNm 3))
      (sSeq (sAsg (mCB (Φ 3) (aCons (mVar 0) (aCons (mC (.int 1)) (aCons (mVar 2) (aCons (mC (.int 240)) aNil))))) (gNm 4))
      (sSeq (sAsg (mLst aNil) (gNm 5))
      (sSeq (sFor (iR1 (mVar 2)) (gNm 6)
      (sSeq (sAsg (mLst aNil) (gNm 7))
      (sSeq (sIf (mAnd (mTest (mOp ltD (mOp modD (mCB intD (aCons (mOp ixD (mVar 4) (mVar 6)) aNil)) (mC (.int 4))) (mC (.int 2)))) (mTest (mOp ltD (mOp fdivD (mOp ixD (mVar 4) (mVar 6)) (mC (.int 4))) (mVar 2))))
      (sDrop (mMt "list" appD (mVar 7) (aCons (mOp fdivD (mOp ixD (mVar 4) (mVar 6)) (mC (.int 4))) aNil)))
      sNext)
      (sSeq (sIf (mAnd (mTest (mOp gtD (mOp modD (mCB intD (aCons (mOp ixD (mVar 4) (mVar 6)) aNil)) (mC (.int 4))) (mC (.int 0)))) (mAnd (mTest (mChain leD ltD (mC (.int 0)) (mOp addD (mVar 6) (mVar 3)) (mVar 2))) (mTest (mOp (inDD true) (mOp addD (mVar 6) (mVar 3)) (mVar 7)))))
      (sDrop (mMt "list" appD (mVar 7) (aCons (mOp addD (mVar 6) (mVar 3)) aNil)))
      sNext)
      (sDrop (mMt "list" appD (mVar 5) (aCons (mCB sortD (aCons (mVar 7) aNil)) aNil)))))))
      (sRet (mVar 5)))))))
def b_6 (Φ : Nat → List D → DH → Res D) (M : Nat) : SM :=
  (sSeq (sAsg (mCB (Φ 3) (aCons (mVar 0) (aCons (mVar 1) (aCons (mVar 2) (aCons (mC (.int 12)) aNil))))) (gNm 4))
      (sRet (mLc (iR1 (mVar 2)) 5 (mTest (mOp ltD (mOp ixD (mVar 4) (mVar 5)) (mVar 3))) (mVar 5) [5])))
def b_7 (Φ : Nat → List D → DH → Res D) (M : Nat) : SM :=
  (sSeq (sIf (mTest (mOp eqD (mOp modD (mCB intD (aCons (mVar 1) aNil)) (mC (.int 4))) (mC (.int 2))))
      (sRet (mUn lrevD (mVar 0)))
      sNext)
      (sSeq (sIf (mTest (mOp eqD (mOp modD (mCB intD (aCons (mVar 1) aNil)) (mC (.int 4))) (mC (.int 3))))
      (sRet (mOp addD (mOp addD (mSl slD (mVar 0) (oSome (mC (.int 1))) oNone) (mVar 0)) (mSl slD (mVar 0) oNone (oSome (mC (.int 1))))))
      sNext)
      (sRet (mCB lstD (aCons (mVar 0) aNil)))))
def b_8 (Φ : Nat → List D → DH → Res D) (M : Nat) : SM :=
  (sSeq (sAsg (mCB (Φ 6) (aCons (mVar 0) (aCons (mVar 1) (aCons (mVar 2) (aCons (mOp ixD (mLst (aCons (mC (.int 1)) (aCons (mC (.int 2)) (aCons (mC (.int 4)) (aCons (mC (.int 12)) aNil))))) (mOp modD (mCB intD (aCons (mVar 3) aNil)) (mC (.int 4)))) aNil))))) (gNm 4))
      (sSeq (sIf (mAnd (mTest (mOp gtD (mVar 2) (mC (.int 0)))) (mTest (mOp gtD (mOp modD (mCB intD (aCons (mOp fdivD (mVar 3) (mC (.int 4))) aNil)) (mC (.int 6))) (mC (.int 0)))))
      (sSeq (sAsg (mOp modD (mCB intD (aCons (mOp fdivD (mVar 3) (mC (.int 24))) aNil)) (mVar 2)) (gNm 5))
      (sIf (mTest (mOp (inDD true) (mVar 5) (mVar 4)))
      (sDrop (mMt "list" appD (mVar 4) (aCons (mVar 5) aNil)))
      sNext))
      sNext)
      (sRet (mVar 4))))
def b_9 (Φ : Nat → List D → DH → Res D) (M : Nat) : SM :=
  (sRet (mAndV (mIsi Ty.int (mVar 0)) (mNotV (mIsi Ty.bool (mVar 0)))))
def b_10 (Φ : Nat → List D → DH → Res D) (M : Nat) : SM :=
  (sSeq (sIf (mNot (mTest (mIsi Ty.list (mVar 0))))
      (sRet (mC (.bl false)))
      sNext)
      (sSeq (sFor (iSeq (mVar 0)) (gNm 2)
      (sIf (mOr (mNot (mTest (mCB (Φ 9) (aCons (mVar 2) aNil)))) (mOr (mTest (mOp ltD (mVar 2) (mC (.int 0)))) (mTest (mOp geD (mVar 2) (mVar 1)))))
      (sRet (mC (.bl false)))
      sNext))
      (sRet (mC (.bl true)))))
def b_11 (Φ : Nat → List D → DH → Res D) (M : Nat) : SM :=
  (sSeq (sFor (iR2 (mC (.int 1)) (mCB lenD (aCons (mVar 1) aNil))) (gNm 2)
      (sIf (mTest (mOp (inDD true) (mOp ixD (mVar 1) (mVar 2)) (mOp ixD (mVar 0) (mOp ixD (mVar 1) (mOp subD (mVar 2) (mC (.int 1)))))))
      (sRet (mC (.bl false)))
      sNext))
      (sRet (mC (.bl true))))
def b_12 (Φ : Nat → List D → DH → Res D) (M : Nat) : SM :=
  (sSeq (sFor (iSeq (mVar 0)) (gNm 2)
      (sIf (mTest (mOp (inDD false) (mVar 2) (mVar 1)))
      (sRet (mC (.bl true)))
      sNext))
      (sRet (mC (.bl false))))
def b_13 (Φ : Nat → List D → DH → Res D) (M : Nat) : SM :=
  (sRet (mLc (iSeq (mVar 0)) 1 mYes (mCB lstD (aCons (mVar 1) aNil)) [1]))
def b_14 (Φ : Nat → List D → DH → Res D) (M : Nat) : SM :=
  (sSeq (sAsg (mLst aNil) (gNm 3))
      (sSeq (sAsg (mLst aNil) (gNm 4))
      (sSeq (sFor (iSeq (mVar 1)) (gNm 5)
      (sIf (mTest (mOp (inDD true) (mVar 5) (mVar 3)))
      (sSeq (sDrop (mMt "list" appD (mVar 3) (aCons (mVar 5) aNil)))
      (sDrop (mMt "list" appD (mVar 4) (aCons (mVar 5) aNil))))
      sNext))
      (sSeq (sFor (iR1 (mCB lenD (aCons (mVar 0) aNil))) (gNm 6)
      (sSeq (sIf (mTest (mCB (Φ 12) (aCons (mVar 4) (aCons (mVar 2) aNil))))
      (sRet (mOp addD (mVar 6) (mC (.int 1))))
      sNext)
      (sSeq (sAsg (mLst aNil) (gNm 7))
      (sSeq (sFor (iSeq (mVar 4)) (gNm 8)
      (sFor (iSeq (mOp ixD (mVar 0) (mVar 8))) (gNm 5)
      (sIf (mTest (mOp (inDD true) (mVar 5) (mVar 3)))
      (sSeq (sDrop (mMt "list" appD (mVar 3) (aCons (mVar 5) aNil)))
      (sDrop (mMt "list" appD (mVar 7) (aCons (mVar 5) aNil))))
      sNext)))
      (sAsg (mVar 7) (gNm 4))))))
      (sRet (mC (.int 0)))))))
def b_15 (Φ : Nat → List D → DH → Res D) (M : Nat) : SM :=
  (sSeq (sAsg (mCB (Φ 3) (aCons (mVar 0) (aCons (mC (.int 0)) (aCons (mC (.int 8)) (aCons (mC (.int 840)) aNil))))) (gNm 1))
      (sSeq (sAsg (mCB (Φ 4) (aCons (mVar 0) (aCons (mVar 1) aNil))) (gNm 2))
      (sSeq (sIf (mTest (mOp eqD (mOp modD (mCB intD (aCons (mOp ixD (mVar 1) (mC (.int 0))) aNil)) (mC (.int 8))) (mC (.int 5))))
      (sAsg (mCB (Φ 5) (aCons (mVar 0) (aCons (mVar 1) aNil))) (gNm 2))
      sNext)
      (sSeq (sAsg (mCB (Φ 7) (aCons (mCB (Φ 8) (aCons (mVar 0) (aCons (mC (.int 2)) (aCons (mCB lenD (aCons (mVar 2) aNil)) (aCons (mOp ixD (mVar 1) (mC (.int 4))) aNil))))) (aCons (mOp ixD (mVar 1) (mC (.int 5))) aNil))) (gNm 3))
      (sSeq (sAsg (mCB (Φ 7) (aCons (mCB (Φ 8) (aCons (mVar 0) (aCons (mC (.int 3)) (aCons (mCB lenD (aCons (mVar 2) aNil)) (aCons (mOp ixD (mVar 1) (mC (.int 6))) aNil))))) (aCons (mOp ixD (mVar 1) (mC (.int 7))) aNil))) (gNm 4))
      (sSeq (sAsg (mLst (aCons (mCB (Φ 13) (aCons (mVar 2) aNil)) (aCons (mCB lstD (aCons (mVar 3) aNil)) (aCons (mCB lstD (aCons (mVar 4) aNil)) aNil)))) (gNm 5))
      (sSeq (sAsg (mCB (Φ 0) (aCons (mOp ixD (mVar 5) (mC (.int 0))) (aCons (mOp ixD (mVar 5) (mC (.int 1))) (aCons (mOp ixD (mVar 5) (mC (.int 2))) aNil)))) (gNm 6))
      (sSeq (sAsg (mCB (Φ 14) (aCons (mVar 2) (aCons (mVar 3) (aCons (mVar 4) aNil)))) (gNm 7))
      (sSeq (sIf (mTest (mOp eqD (mVar 7) (mC (.int 0))))
      (sRet (mAndV (mOp isND (mVar 6) (mC .non)) (mAndV (mOp eqDD (mOp ixD (mVar 5) (mC (.int 0))) (mVar 2)) (mAndV (mOp eqDD (mOp ixD (mVar 5) (mC (.int 1))) (mVar 3)) (mOp eqDD (mOp ixD (mVar 5) (mC (.int 2))) (mVar 4))))))
      sNext)
      (sSeq (sIf (mOr (mNot (mTest (mCB (Φ 10) (aCons (mVar 6) (aCons (mCB lenD (aCons (mVar 2) aNil)) aNil))))) (mTest (mOp neDD (mCB lenD (aCons (mVar 6) aNil)) (mVar 7))))
      (sRet (mC (.bl false)))
      sNext)
      (sSeq (sIf (mOr (mTest (mOp (inDD true) (mOp ixD (mVar 6) (mC (.int 0))) (mVar 3))) (mOr (mTest (mOp (inDD true) (mOp ixD (mVar 6) (mOp subD (mVar 7) (mC (.int 1)))) (mVar 4))) (mNot (mTest (mCB (Φ 11) (aCons (mVar 2) (aCons (mVar 6) aNil)))))))
      (sRet (mC (.bl false)))
      sNext)
      (sSeq (sDrop (mMt "list" appD (mVar 6) (aCons (mUn negD (mC (.int 1))) aNil)))
      (sRet (mAndV (mOp eqDD (mOp ixD (mVar 5) (mC (.int 0))) (mVar 2)) (mAndV (mOp eqDD (mOp ixD (mVar 5) (mC (.int 1))) (mVar 3)) (mOp eqDD (mOp ixD (mVar 5) (mC (.int 2))) (mVar 4)))))))))))))))))
def fnB (M : Nat) (Φ : Nat → List D → DH → Res D) : Nat → List D → DH → Res D
  | 0 => runF 3 11 (b_0 Φ M)
  | 1 => runF 2 4 (b_1 Φ M)
  | 2 => runF 2 2 (b_2 Φ M)
  | 3 => runF 4 10 (b_3 Φ M)
  | 4 => runF 2 8 (b_4 Φ M)
  | 5 => runF 2 8 (b_5 Φ M)
  | 6 => runF 4 6 (b_6 Φ M)
  | 7 => runF 2 2 (b_7 Φ M)
  | 8 => runF 4 6 (b_8 Φ M)
  | 9 => runF 1 1 (b_9 Φ M)
  | 10 => runF 2 3 (b_10 Φ M)
  | 11 => runF 2 3 (b_11 Φ M)
  | 12 => runF 2 3 (b_12 Φ M)
  | 13 => runF 1 2 (b_13 Φ M)
  | 14 => runF 3 9 (b_14 Φ M)
  | 15 => runF 1 8 (b_15 Φ M)
  | _ => fun _ _ => .no
def fn (M : Nat) : Nat → Nat → List D → DH → Res D
  | 0 => fun _ _ _ => .no
  | k + 1 => fnB M (fn M k)
theorem e_0 {M k : Nat} {xs : List D} {h : DH} : fn M (k + 1) 0 xs h = runF 3 11 (b_0 (fn M k) M) xs h := rfl
theorem e_1 {M k : Nat} {xs : List D} {h : DH} : fn M (k + 1) 1 xs h = runF 2 4 (b_1 (fn M k) M) xs h := rfl
theorem e_2 {M k : Nat} {xs : List D} {h : DH} : fn M (k + 1) 2 xs h = runF 2 2 (b_2 (fn M k) M) xs h := rfl
theorem e_3 {M k : Nat} {xs : List D} {h : DH} : fn M (k + 1) 3 xs h = runF 4 10 (b_3 (fn M k) M) xs h := rfl
theorem e_4 {M k : Nat} {xs : List D} {h : DH} : fn M (k + 1) 4 xs h = runF 2 8 (b_4 (fn M k) M) xs h := rfl
theorem e_5 {M k : Nat} {xs : List D} {h : DH} : fn M (k + 1) 5 xs h = runF 2 8 (b_5 (fn M k) M) xs h := rfl
theorem e_6 {M k : Nat} {xs : List D} {h : DH} : fn M (k + 1) 6 xs h = runF 4 6 (b_6 (fn M k) M) xs h := rfl
theorem e_7 {M k : Nat} {xs : List D} {h : DH} : fn M (k + 1) 7 xs h = runF 2 2 (b_7 (fn M k) M) xs h := rfl
theorem e_8 {M k : Nat} {xs : List D} {h : DH} : fn M (k + 1) 8 xs h = runF 4 6 (b_8 (fn M k) M) xs h := rfl
theorem e_9 {M k : Nat} {xs : List D} {h : DH} : fn M (k + 1) 9 xs h = runF 1 1 (b_9 (fn M k) M) xs h := rfl
theorem e_10 {M k : Nat} {xs : List D} {h : DH} : fn M (k + 1) 10 xs h = runF 2 3 (b_10 (fn M k) M) xs h := rfl
theorem e_11 {M k : Nat} {xs : List D} {h : DH} : fn M (k + 1) 11 xs h = runF 2 3 (b_11 (fn M k) M) xs h := rfl
theorem e_12 {M k : Nat} {xs : List D} {h : DH} : fn M (k + 1) 12 xs h = runF 2 3 (b_12 (fn M k) M) xs h := rfl
theorem e_13 {M k : Nat} {xs : List D} {h : DH} : fn M (k + 1) 13 xs h = runF 1 2 (b_13 (fn M k) M) xs h := rfl
theorem e_14 {M k : Nat} {xs : List D} {h : DH} : fn M (k + 1) 14 xs h = runF 3 9 (b_14 (fn M k) M) xs h := rfl
theorem e_15 {M k : Nat} {xs : List D} {h : DH} : fn M (k + 1) 15 xs h = runF 1 8 (b_15 (fn M k) M) xs h := rfl
-- slots: 0 shortest_path: after starts goals wanted start before queue done node ahead goal; 1 path_to: goal before path node; 2 _law_cell: script k; 3 _law_draws: script place count base cell out mixed k rest again; 4 _law_graph: script sizes size many draws after v w; 5 _law_long_graph: script sizes size step draws after v near; 6 _law_chosen: script place size share draws v; 7 _law_turned: nodes kind; 8 _law_starts: script place size roll starts one; 9 _law_is_integer: actual; 10 _law_is_nodes: actual size node; 11 _law_is_walk: after walk k; 12 _law_meets: one other node; 13 _law_copy: rows row; 14 _law_least: after starts goals seen layer node k fresh v; 15 law: script sizes after starts goals passed actual least
-- END
theorem fn_len_0 {M k : Nat} : ∀ xs h, fn M k 0 xs h ≠ .no → xs.length = 3 := by
  intro xs h e
  cases k with
  | zero => exact absurd rfl e
  | succ k => exact runF_len e
theorem fn_len_1 {M k : Nat} : ∀ xs h, fn M k 1 xs h ≠ .no → xs.length = 2 := by
  intro xs h e
  cases k with
  | zero => exact absurd rfl e
  | succ k => exact runF_len e
theorem fn_len_2 {M k : Nat} : ∀ xs h, fn M k 2 xs h ≠ .no → xs.length = 2 := by
  intro xs h e
  cases k with
  | zero => exact absurd rfl e
  | succ k => exact runF_len e
theorem fn_len_3 {M k : Nat} : ∀ xs h, fn M k 3 xs h ≠ .no → xs.length = 4 := by
  intro xs h e
  cases k with
  | zero => exact absurd rfl e
  | succ k => exact runF_len e
theorem fn_len_4 {M k : Nat} : ∀ xs h, fn M k 4 xs h ≠ .no → xs.length = 2 := by
  intro xs h e
  cases k with
  | zero => exact absurd rfl e
  | succ k => exact runF_len e
theorem fn_len_5 {M k : Nat} : ∀ xs h, fn M k 5 xs h ≠ .no → xs.length = 2 := by
  intro xs h e
  cases k with
  | zero => exact absurd rfl e
  | succ k => exact runF_len e
theorem fn_len_6 {M k : Nat} : ∀ xs h, fn M k 6 xs h ≠ .no → xs.length = 4 := by
  intro xs h e
  cases k with
  | zero => exact absurd rfl e
  | succ k => exact runF_len e
theorem fn_len_7 {M k : Nat} : ∀ xs h, fn M k 7 xs h ≠ .no → xs.length = 2 := by
  intro xs h e
  cases k with
  | zero => exact absurd rfl e
  | succ k => exact runF_len e
theorem fn_len_8 {M k : Nat} : ∀ xs h, fn M k 8 xs h ≠ .no → xs.length = 4 := by
  intro xs h e
  cases k with
  | zero => exact absurd rfl e
  | succ k => exact runF_len e
theorem fn_len_9 {M k : Nat} : ∀ xs h, fn M k 9 xs h ≠ .no → xs.length = 1 := by
  intro xs h e
  cases k with
  | zero => exact absurd rfl e
  | succ k => exact runF_len e
theorem fn_len_10 {M k : Nat} : ∀ xs h, fn M k 10 xs h ≠ .no → xs.length = 2 := by
  intro xs h e
  cases k with
  | zero => exact absurd rfl e
  | succ k => exact runF_len e
theorem fn_len_11 {M k : Nat} : ∀ xs h, fn M k 11 xs h ≠ .no → xs.length = 2 := by
  intro xs h e
  cases k with
  | zero => exact absurd rfl e
  | succ k => exact runF_len e
theorem fn_len_12 {M k : Nat} : ∀ xs h, fn M k 12 xs h ≠ .no → xs.length = 2 := by
  intro xs h e
  cases k with
  | zero => exact absurd rfl e
  | succ k => exact runF_len e
theorem fn_len_13 {M k : Nat} : ∀ xs h, fn M k 13 xs h ≠ .no → xs.length = 1 := by
  intro xs h e
  cases k with
  | zero => exact absurd rfl e
  | succ k => exact runF_len e
theorem fn_len_14 {M k : Nat} : ∀ xs h, fn M k 14 xs h ≠ .no → xs.length = 3 := by
  intro xs h e
  cases k with
  | zero => exact absurd rfl e
  | succ k => exact runF_len e
theorem fn_len_15 {M k : Nat} : ∀ xs h, fn M k 15 xs h ≠ .no → xs.length = 1 := by
  intro xs h e
  cases k with
  | zero => exact absurd rfl e
  | succ k => exact runF_len e
abbrev N_0 : List Str := ["after", "starts", "goals", "wanted", "start", "before", "queue", "done", "node", "ahead", "goal"]
theorem sc_0 : FnScope N_0 ["after", "starts", "goals"] (defScope (top 1)) := ⟨rfl, rfl, rfl, by decide +kernel, rfl, by decide +kernel, by decide +kernel⟩
abbrev N_1 : List Str := ["goal", "before", "path", "node"]
theorem sc_1 : FnScope N_1 ["goal", "before"] (defScope (top 2)) := ⟨rfl, rfl, rfl, by decide +kernel, rfl, by decide +kernel, by decide +kernel⟩
abbrev N_2 : List Str := ["script", "k"]
theorem sc_2 : FnScope N_2 ["script", "k"] (defScope (top 4)) := ⟨rfl, rfl, rfl, by decide +kernel, rfl, by decide +kernel, by decide +kernel⟩
abbrev N_3 : List Str := ["script", "place", "count", "base", "cell", "out", "mixed", "k", "rest", "again"]
theorem sc_3 : FnScope N_3 ["script", "place", "count", "base"] (defScope (top 5)) := ⟨rfl, rfl, rfl, by decide +kernel, rfl, by decide +kernel, by decide +kernel⟩
abbrev N_4 : List Str := ["script", "sizes", "size", "many", "draws", "after", "v", "w"]
theorem sc_4 : FnScope N_4 ["script", "sizes"] (defScope (top 6)) := ⟨rfl, rfl, rfl, by decide +kernel, rfl, by decide +kernel, by decide +kernel⟩
abbrev N_5 : List Str := ["script", "sizes", "size", "step", "draws", "after", "v", "near"]
theorem sc_5 : FnScope N_5 ["script", "sizes"] (defScope (top 7)) := ⟨rfl, rfl, rfl, by decide +kernel, rfl, by decide +kernel, by decide +kernel⟩
abbrev N_6 : List Str := ["script", "place", "size", "share", "draws", "v"]
theorem sc_6 : FnScope N_6 ["script", "place", "size", "share"] (defScope (top 8)) := ⟨rfl, rfl, rfl, by decide +kernel, rfl, by decide +kernel, by decide +kernel⟩
abbrev N_7 : List Str := ["nodes", "kind"]
theorem sc_7 : FnScope N_7 ["nodes", "kind"] (defScope (top 9)) := ⟨rfl, rfl, rfl, by decide +kernel, rfl, by decide +kernel, by decide +kernel⟩
abbrev N_8 : List Str := ["script", "place", "size", "roll", "starts", "one"]
theorem sc_8 : FnScope N_8 ["script", "place", "size", "roll"] (defScope (top 10)) := ⟨rfl, rfl, rfl, by decide +kernel, rfl, by decide +kernel, by decide +kernel⟩
abbrev N_9 : List Str := ["actual"]
theorem sc_9 : FnScope N_9 ["actual"] (defScope (top 11)) := ⟨rfl, rfl, rfl, by decide +kernel, rfl, by decide +kernel, by decide +kernel⟩
abbrev N_10 : List Str := ["actual", "size", "node"]
theorem sc_10 : FnScope N_10 ["actual", "size"] (defScope (top 12)) := ⟨rfl, rfl, rfl, by decide +kernel, rfl, by decide +kernel, by decide +kernel⟩
abbrev N_11 : List Str := ["after", "walk", "k"]
theorem sc_11 : FnScope N_11 ["after", "walk"] (defScope (top 13)) := ⟨rfl, rfl, rfl, by decide +kernel, rfl, by decide +kernel, by decide +kernel⟩
abbrev N_12 : List Str := ["one", "other", "node"]
theorem sc_12 : FnScope N_12 ["one", "other"] (defScope (top 14)) := ⟨rfl, rfl, rfl, by decide +kernel, rfl, by decide +kernel, by decide +kernel⟩
abbrev N_13 : List Str := ["rows", "row"]
theorem sc_13 : FnScope N_13 ["rows"] (defScope (top 15)) := ⟨rfl, rfl, rfl, by decide +kernel, rfl, by decide +kernel, by decide +kernel⟩
abbrev N_14 : List Str := ["after", "starts", "goals", "seen", "layer", "node", "k", "fresh", "v"]
theorem sc_14 : FnScope N_14 ["after", "starts", "goals"] (defScope (top 16)) := ⟨rfl, rfl, rfl, by decide +kernel, rfl, by decide +kernel, by decide +kernel⟩
abbrev N_15 : List Str := ["script", "sizes", "after", "starts", "goals", "passed", "actual", "least"]
theorem sc_15 : FnScope N_15 ["script"] (defScope (top 17)) := ⟨rfl, rfl, rfl, by decide +kernel, rfl, by decide +kernel, by decide +kernel⟩
structure Txt (K : PySem.W.Frag) (w : World) (mg : Str → Option Value) (cad ad : Nat → Addr) (fd : Nat → FuncData) : Prop where
  F0 : Fun K "shortest_path" "shortest_path" (top 1) (ad 0) (fd 0)
  m0 : mg "shortest_path" = some (.ref (ad 0))
  b0 : Binds K (fd 0) ["after", "starts", "goals"] []
  F1 : Fun K "path_to" "path_to" (top 2) (ad 1) (fd 1)
  m1 : mg "path_to" = some (.ref (ad 1))
  b1 : Binds K (fd 1) ["goal", "before"] []
  F2 : Fun K "_law_cell" "_law_cell" (top 4) (ad 2) (fd 2)
  m2 : mg "_law_cell" = some (.ref (ad 2))
  b2 : Binds K (fd 2) ["script", "k"] []
  F3 : Fun K "_law_draws" "_law_draws" (top 5) (ad 3) (fd 3)
  m3 : mg "_law_draws" = some (.ref (ad 3))
  b3 : Binds K (fd 3) ["script", "place", "count", "base"] []
  F4 : Fun K "_law_graph" "_law_graph" (top 6) (ad 4) (fd 4)
  m4 : mg "_law_graph" = some (.ref (ad 4))
  b4 : Binds K (fd 4) ["script", "sizes"] []
  F5 : Fun K "_law_long_graph" "_law_long_graph" (top 7) (ad 5) (fd 5)
  m5 : mg "_law_long_graph" = some (.ref (ad 5))
  b5 : Binds K (fd 5) ["script", "sizes"] []
  F6 : Fun K "_law_chosen" "_law_chosen" (top 8) (ad 6) (fd 6)
  m6 : mg "_law_chosen" = some (.ref (ad 6))
  b6 : Binds K (fd 6) ["script", "place", "size", "share"] []
  F7 : Fun K "_law_turned" "_law_turned" (top 9) (ad 7) (fd 7)
  m7 : mg "_law_turned" = some (.ref (ad 7))
  b7 : Binds K (fd 7) ["nodes", "kind"] []
  F8 : Fun K "_law_starts" "_law_starts" (top 10) (ad 8) (fd 8)
  m8 : mg "_law_starts" = some (.ref (ad 8))
  b8 : Binds K (fd 8) ["script", "place", "size", "roll"] []
  F9 : Fun K "_law_is_integer" "_law_is_integer" (top 11) (ad 9) (fd 9)
  m9 : mg "_law_is_integer" = some (.ref (ad 9))
  b9 : Binds K (fd 9) ["actual"] []
  F10 : Fun K "_law_is_nodes" "_law_is_nodes" (top 12) (ad 10) (fd 10)
  m10 : mg "_law_is_nodes" = some (.ref (ad 10))
  b10 : Binds K (fd 10) ["actual", "size"] []
  F11 : Fun K "_law_is_walk" "_law_is_walk" (top 13) (ad 11) (fd 11)
  m11 : mg "_law_is_walk" = some (.ref (ad 11))
  b11 : Binds K (fd 11) ["after", "walk"] []
  F12 : Fun K "_law_meets" "_law_meets" (top 14) (ad 12) (fd 12)
  m12 : mg "_law_meets" = some (.ref (ad 12))
  b12 : Binds K (fd 12) ["one", "other"] []
  F13 : Fun K "_law_copy" "_law_copy" (top 15) (ad 13) (fd 13)
  m13 : mg "_law_copy" = some (.ref (ad 13))
  b13 : Binds K (fd 13) ["rows"] []
  F14 : Fun K "_law_least" "_law_least" (top 16) (ad 14) (fd 14)
  m14 : mg "_law_least" = some (.ref (ad 14))
  b14 : Binds K (fd 14) ["after", "starts", "goals"] []
  F15 : Fun K "law" "law" (top 17) (ad 15) (fd 15)
  m15 : mg "law" = some (.ref (ad 15))
  b15 : Binds K (fd 15) ["script"] []
  z_bool : mg "bool" = none
  z_int : mg "int" = none
  z_isinstance : mg "isinstance" = none
  z_len : mg "len" = none
  z_list : mg "list" = none
  z_range : mg "range" = none
  z_reversed : mg "reversed" = none
  z_sorted : mg "sorted" = none
structure All (G : Cw) (M : Nat) (P : Program) (w : World) (mg : Str → Option Value) (base : Heap) (ad : Nat → Addr) (fd : Nat → FuncData) (k : Nat) : Prop where
  f0 : FnOk P w G.K mg base (L2.CX P w) (2 * k) (ad 0) (fd 0) ["after", "starts", "goals"] (spF G 3 (fn M k 0))
  f1 : FnOk P w G.K mg base (L2.CX P w) (2 * k) (ad 1) (fd 1) ["goal", "before"] (spF G 2 (fn M k 1))
  f2 : FnOk P w G.K mg base (L2.CX P w) (2 * k) (ad 2) (fd 2) ["script", "k"] (spF G 2 (fn M k 2))
  f3 : FnOk P w G.K mg base (L2.CX P w) (2 * k) (ad 3) (fd 3) ["script", "place", "count", "base"] (spF G 4 (fn M k 3))
  f4 : FnOk P w G.K mg base (L2.CX P w) (2 * k) (ad 4) (fd 4) ["script", "sizes"] (spF G 2 (fn M k 4))
  f5 : FnOk P w G.K mg base (L2.CX P w) (2 * k) (ad 5) (fd 5) ["script", "sizes"] (spF G 2 (fn M k 5))
  f6 : FnOk P w G.K mg base (L2.CX P w) (2 * k) (ad 6) (fd 6) ["script", "place", "size", "share"] (spF G 4 (fn M k 6))
  f7 : FnOk P w G.K mg base (L2.CX P w) (2 * k) (ad 7) (fd 7) ["nodes", "kind"] (spF G 2 (fn M k 7))
  f8 : FnOk P w G.K mg base (L2.CX P w) (2 * k) (ad 8) (fd 8) ["script", "place", "size", "roll"] (spF G 4 (fn M k 8))
  f9 : FnOk P w G.K mg base (L2.CX P w) (2 * k) (ad 9) (fd 9) ["actual"] (spF G 1 (fn M k 9))
  f10 : FnOk P w G.K mg base (L2.CX P w) (2 * k) (ad 10) (fd 10) ["actual", "size"] (spF G 2 (fn M k 10))
  f11 : FnOk P w G.K mg base (L2.CX P w) (2 * k) (ad 11) (fd 11) ["after", "walk"] (spF G 2 (fn M k 11))
  f12 : FnOk P w G.K mg base (L2.CX P w) (2 * k) (ad 12) (fd 12) ["one", "other"] (spF G 2 (fn M k 12))
  f13 : FnOk P w G.K mg base (L2.CX P w) (2 * k) (ad 13) (fd 13) ["rows"] (spF G 1 (fn M k 13))
  f14 : FnOk P w G.K mg base (L2.CX P w) (2 * k) (ad 14) (fd 14) ["after", "starts", "goals"] (spF G 3 (fn M k 14))
  f15 : FnOk P w G.K mg base (L2.CX P w) (2 * k) (ad 15) (fd 15) ["script"] (spF G 1 (fn M k 15))
section
variable {G : Cw} {M : Nat} {P : Program} {w : World} {mg : Str → Option Value} {base : Heap} {ad : Nat → Addr} {fd : Nat → FuncData} {k : Nat}
theorem d_0 (T : Txt G.K w mg G.cad ad fd) (IH : All G M P w mg base ad fd k) : FnOk P w G.K mg base (L2.CX P w) (2 * k + 1 + 1) (ad 0) (fd 0) ["after", "starts", "goals"] (spF G 3 (fn M (k + 1) 0)) := by
  refine fn_okF (N := N_0) (m := b_0 (fn M k) M) T.F0 sc_0 fun cdv A outer s H E hr2 => ?_
  have hr := hr2.mono (Nat.le_succ (2 * k))
  have tk : Takes (cxOf (L2.CX P w) P w G.K mg base N_0 "shortest_path" (defScope (top 1)) (ad 0) cdv A outer s H E) (fun c d _ H => E c d H) := takes_of rfl rfl rfl rfl
  exact (sm_cons (sm_setDc (vs := [10]) (by decide) (ps_setDc (i := 3) (own := [("goal", 10)]) (g := ptG G.K (.nm 10)) rfl sc_0.nd rfl rfl (sw_trueD rfl rfl rfl (by decide +kernel)) (im_seq rfl (pm_var 2 (pv 2))) (blkOk_by (N := N_0) (sc := defScope (top 1)) (by decide +kernel)) (fun _ _ _ _ _ => (pg_name (i := 10) sc_0.nd rfl (Or.inl rfl))) (fun _ _ _ _ _ => tms_nil) (fun _ _ _ _ _ => (pm_var 10 (pv 10))) (fun _ _ _ _ _ => pm_bl)))
      (sm_cons (sm_for (ps_for (passes_of rfl) rfl (im_seq rfl (pm_var 1 (pv 1))) (gm_name (pg_name (i := 4) sc_0.nd rfl (Or.inl rfl)))
      (sm_one (sm_if (tm_din (un1 hr) (pm_var 4 (pv 4)) (pm_var 3 (pv 3)) (by rfl))
      (sm_one (sm_ret (pm_lst (am_cons (pm_var 4 (pv 4)) am_nil))))
      sm_nil))))
      (sm_cons (sm_setDc (vs := [4]) (by decide) (ps_setDc (i := 5) (own := [("start", 4)]) (g := ptG G.K (.nm 4)) rfl sc_0.nd rfl rfl (sw_trueD rfl rfl rfl (by decide +kernel)) (im_seq rfl (pm_var 1 (pv 1))) (blkOk_by (N := N_0) (sc := defScope (top 1)) (by decide +kernel)) (fun _ _ _ _ _ => (pg_name (i := 4) sc_0.nd rfl (Or.inl rfl))) (fun _ _ _ _ _ => tms_nil) (fun _ _ _ _ _ => (pm_var 4 (pv 4))) (fun _ _ _ _ _ => pm_non)))
      (sm_cons (sm_set (pm_cb s_dkeys (pe_callTy (call_listD rfl) (by rfl) T.z_list PyProof.Rows.boot_list (am_cons (pm_var 5 (pv 5)) am_nil))) (fun h => ps_set (i := 6) sc_0.nd rfl (Or.inl rfl) h))
      (sm_cons (sm_set pm_int (fun h => ps_set (i := 7) sc_0.nd rfl (Or.inl rfl) h))
      (sm_cons (sm_while (passes_of rfl) (tm_cmp op_lt s_lt (pm_var 7 (pv 7)) (pm_cb s_len (pe_callB call_lenA (by rfl) T.z_len PySem.boot_len (am_cons (pm_var 6 (pv 6)) am_nil))) (nomark _))
      (sm_cons (sm_set (pm_ix ix_seq s_ix (pm_var 6 (pv 6)) (pm_var 7 (pv 7))) (fun h => ps_set (i := 8) sc_0.nd rfl (Or.inl rfl) h))
      (sm_cons (sm_aug s_addI (ps_aug (i := 7) sc_0.nd rfl (Or.inl rfl) pm_int ip_add))
      (sm_one (sm_for (ps_for (passes_of rfl) rfl (im_seq rfl (pm_ix ix_seq s_ix (pm_var 0 (pv 0)) (pm_var 8 (pv 8)))) (gm_name (pg_name (i := 9) sc_0.nd rfl (Or.inl rfl)))
      (sm_one (sm_if (tm_dnin (un1 hr) (pm_var 9 (pv 9)) (pm_var 5 (pv 5)) (by rfl))
      (sm_cons (sm_dput (un1 hr) (pm_var 5 (pv 5)) (pm_var 9 (pv 9)) (pm_var 8 (pv 8)))
      (sm_cons (sm_if (tm_din (un1 hr) (pm_var 9 (pv 9)) (pm_var 3 (pv 3)) (by rfl))
      (sm_one (sm_ret (pm_call fn_len_1 (pe_callS IH.f1 hr rfl T.m1 T.F1.kp T.b1 (fun σ => passAt tk σ) (am_cons (pm_var 9 (pv 9)) (am_cons (pm_var 5 (pv 5)) am_nil))))))
      sm_nil)
      (sm_one (sm_expr (pm_mt s_app (pe_bm PySem.F.plainAttrs_list PySem.F.slot_list_append PySem.F.type_list_append mt_append (pm_var 6 (pv 6)) (am_cons (pm_var 9 (pv 9)) am_nil)))))))
      sm_nil))))))))
      (sm_one (sm_ret pm_non))))))))
theorem d_1 (T : Txt G.K w mg G.cad ad fd) (IH : All G M P w mg base ad fd k) : FnOk P w G.K mg base (L2.CX P w) (2 * k + 1 + 1) (ad 1) (fd 1) ["goal", "before"] (spF G 2 (fn M (k + 1) 1)) := by
  refine fn_okF (N := N_1) (m := b_1 (fn M k) M) T.F1 sc_1 fun cdv A outer s H E hr2 => ?_
  have hr := hr2.mono (Nat.le_succ (2 * k))
  have tk : Takes (cxOf (L2.CX P w) P w G.K mg base N_1 "path_to" (defScope (top 2)) (ad 1) cdv A outer s H E) (fun c d _ H => E c d H) := takes_of rfl rfl rfl rfl
  exact (sm_cons (sm_set (pm_lst am_nil) (fun h => ps_set (i := 2) sc_1.nd rfl (Or.inl rfl) h))
      (sm_cons (sm_set (pm_var 0 (pv 0)) (fun h => ps_set (i := 3) sc_1.nd rfl (Or.inl rfl) h))
      (sm_cons (sm_while (passes_of rfl) (tm_cmp op_notN s_ntN (pm_var 3 (pv 3)) pm_non (nomark _))
      (sm_cons (sm_expr (pm_mt s_app (pe_bm PySem.F.plainAttrs_list PySem.F.slot_list_append PySem.F.type_list_append mt_append (pm_var 2 (pv 2)) (am_cons (pm_var 3 (pv 3)) am_nil))))
      (sm_one (sm_set (pm_dget (un1 hr) (pm_var 1 (pv 1)) (pm_var 3 (pv 3)) (fun _ _ => rfl)) (fun h => ps_set (i := 3) sc_1.nd rfl (Or.inl rfl) h)))))
      (sm_cons (sm_expr (pm_mt0 s_rev (pe_bm0 PySem.F.plainAttrs_list PySem.F.slot_list_reverse PySem.F.type_list_reverse mt_reverse (pm_var 2 (pv 2)))))
      (sm_one (sm_ret (pm_var 2 (pv 2))))))))
theorem d_2 (T : Txt G.K w mg G.cad ad fd) (IH : All G M P w mg base ad fd k) : FnOk P w G.K mg base (L2.CX P w) (2 * k + 1 + 1) (ad 2) (fd 2) ["script", "k"] (spF G 2 (fn M (k + 1) 2)) := by
  refine fn_okF (N := N_2) (m := b_2 (fn M k) M) T.F2 sc_2 fun cdv A outer s H E hr2 => ?_
  have hr := hr2.mono (Nat.le_succ (2 * k))
  have tk : Takes (cxOf (L2.CX P w) P w G.K mg base N_2 "_law_cell" (defScope (top 4)) (ad 2) cdv A outer s H E) (fun c d _ H => E c d H) := takes_of rfl rfl rfl rfl
  exact (sm_cons (sm_if (tm_cmp op_lt s_lt (pm_var 1 (pv 1)) (pm_cb s_len (pe_callB call_lenA (by rfl) T.z_len PySem.boot_len (am_cons (pm_var 0 (pv 0)) am_nil))) (nomark _))
      (sm_one (sm_ret (pm_cb s_int1 (pe_callTy call_int1 (by rfl) T.z_int PyProof.Rows.boot_int (am_cons (pm_ix ix_seq s_ix (pm_var 0 (pv 0)) (pm_var 1 (pv 1))) am_nil)))))
      sm_nil)
      (sm_one (sm_ret pm_int)))
theorem d_3 (T : Txt G.K w mg G.cad ad fd) (IH : All G M P w mg base ad fd k) : FnOk P w G.K mg base (L2.CX P w) (2 * k + 1 + 1) (ad 3) (fd 3) ["script", "place", "count", "base"] (spF G 4 (fn M (k + 1) 3)) := by
  refine fn_okF (N := N_3) (m := b_3 (fn M k) M) T.F3 sc_3 fun cdv A outer s H E hr2 => ?_
  have hr := hr2.mono (Nat.le_succ (2 * k))
  have tk : Takes (cxOf (L2.CX P w) P w G.K mg base N_3 "_law_draws" (defScope (top 5)) (ad 3) cdv A outer s H E) (fun c d _ H => E c d H) := takes_of rfl rfl rfl rfl
  exact (sm_cons (sm_set (pm_call fn_len_2 (pe_callS IH.f2 hr rfl T.m2 T.F2.kp T.b2 (fun σ => passAt tk σ) (am_cons (pm_var 0 (pv 0)) (am_cons (pm_var 1 (pv 1)) am_nil)))) (fun h => ps_set (i := 4) sc_3.nd rfl (Or.inl rfl) h))
      (sm_cons (sm_set (pm_lst am_nil) (fun h => ps_set (i := 5) sc_3.nd rfl (Or.inl rfl) h))
      (sm_cons (sm_if (tm_cmp op_ge s_ge (pm_var 4 (pv 4)) (pm_op op_pow s_pow pm_int pm_int) (nomark _))
      (sm_cons (sm_set (pm_op op_sub s_sub (pm_var 4 (pv 4)) (pm_op op_pow s_pow pm_int pm_int)) (fun h => ps_set (i := 8) sc_3.nd rfl (Or.inl rfl) h))
      (sm_cons (sm_for (ps_for (passes_of rfl) rfl (im_r1 (pi_range1 rfl T.z_range (am_cons (pm_var 2 (pv 2)) am_nil))) (gm_name (pg_name (i := 7) sc_3.nd rfl (Or.inl rfl)))
      (sm_cons (sm_expr (pm_mt s_app (pe_bm PySem.F.plainAttrs_list PySem.F.slot_list_append PySem.F.type_list_append mt_append (pm_var 5 (pv 5)) (am_cons (pm_op op_mod s_mod (pm_cb s_int1 (pe_callTy call_int1 (by rfl) T.z_int PyProof.Rows.boot_int (am_cons (pm_var 8 (pv 8)) am_nil))) (pm_var 3 (pv 3))) am_nil))))
      (sm_one (sm_set (pm_op op_fdiv s_fdiv (pm_var 8 (pv 8)) (pm_var 3 (pv 3))) (fun h => ps_set (i := 8) sc_3.nd rfl (Or.inl rfl) h))))))
      (sm_one (sm_ret (pm_var 5 (pv 5))))))
      sm_nil)
      (sm_cons (sm_set (pm_op op_mod s_mod (pm_cb s_int1 (pe_callTy call_int1 (by rfl) T.z_int PyProof.Rows.boot_int (am_cons (pm_op op_plus s_plus (pm_op op_times s_times (pm_var 4 (pv 4)) pm_int) (pm_op op_times s_times (pm_var 1 (pv 1)) pm_int)) am_nil))) pm_int) (fun h => ps_set (i := 6) sc_3.nd rfl (Or.inl rfl) h))
      (sm_cons (sm_for (ps_for (passes_of rfl) rfl (im_r1 (pi_range1 rfl T.z_range (am_cons (pm_var 2 (pv 2)) am_nil))) (gm_name (pg_name (i := 7) sc_3.nd rfl (Or.inl rfl)))
      (sm_cons (sm_set (pm_op op_mod s_mod (pm_cb s_int1 (pe_callTy call_int1 (by rfl) T.z_int PyProof.Rows.boot_int (am_cons (pm_op op_plus s_plus (pm_op op_plus s_plus (pm_op op_times s_times (pm_var 6 (pv 6)) pm_int) (pm_op op_times s_times (pm_var 7 (pv 7)) pm_int)) pm_int) am_nil))) pm_int) (fun h => ps_set (i := 6) sc_3.nd rfl (Or.inl rfl) h))
      (sm_cons (sm_set (pm_op op_mod s_mod (pm_cb s_int1 (pe_callTy call_int1 (by rfl) T.z_int PyProof.Rows.boot_int (am_cons (pm_op op_plus s_plus (pm_op op_times s_times (pm_var 6 (pv 6)) (pm_var 6 (pv 6))) (pm_op op_times s_times (pm_var 6 (pv 6)) pm_int)) am_nil))) pm_int) (fun h => ps_set (i := 9) sc_3.nd rfl (Or.inl rfl) h))
      (sm_one (sm_expr (pm_mt s_app (pe_bm PySem.F.plainAttrs_list PySem.F.slot_list_append PySem.F.type_list_append mt_append (pm_var 5 (pv 5)) (am_cons (pm_op op_mod s_mod (pm_cb s_int1 (pe_callTy call_int1 (by rfl) T.z_int PyProof.Rows.boot_int (am_cons (pm_op op_fdiv s_fdiv (pm_var 9 (pv 9)) pm_int) am_nil))) (pm_var 3 (pv 3))) am_nil)))))))))
      (sm_one (sm_ret (pm_var 5 (pv 5)))))))))
theorem d_4 (T : Txt G.K w mg G.cad ad fd) (IH : All G M P w mg base ad fd k) : FnOk P w G.K mg base (L2.CX P w) (2 * k + 1 + 1) (ad 4) (fd 4) ["script", "sizes"] (spF G 2 (fn M (k + 1) 4)) := by
  refine fn_okF (N := N_4) (m := b_4 (fn M k) M) T.F4 sc_4 fun cdv A outer s H E hr2 => ?_
  have hr := hr2.mono (Nat.le_succ (2 * k))
  have tk : Takes (cxOf (L2.CX P w) P w G.K mg base N_4 "_law_graph" (defScope (top 6)) (ad 4) cdv A outer s H E) (fun c d _ H => E c d H) := takes_of rfl rfl rfl rfl
  exact (sm_cons (sm_set (pm_op op_plus s_plus pm_int (pm_op op_mod s_mod (pm_cb s_int1 (pe_callTy call_int1 (by rfl) T.z_int PyProof.Rows.boot_int (am_cons (pm_ix ix_seq s_ix (pm_var 1 (pv 1)) pm_int) am_nil))) pm_int)) (fun h => ps_set (i := 2) sc_4.nd rfl (Or.inr rfl) h))
      (sm_cons (sm_if (tm_cmp op_eq s_eq (pm_op op_mod s_mod (pm_cb s_int1 (pe_callTy call_int1 (by rfl) T.z_int PyProof.Rows.boot_int (am_cons (pm_ix ix_seq s_ix (pm_var 1 (pv 1)) pm_int) am_nil))) pm_int) pm_int (nomark _))
      (sm_one (sm_set (pm_op op_plus s_plus pm_int (pm_op op_mod s_mod (pm_cb s_int1 (pe_callTy call_int1 (by rfl) T.z_int PyProof.Rows.boot_int (am_cons (pm_ix ix_seq s_ix (pm_var 1 (pv 1)) pm_int) am_nil))) pm_int)) (fun h => ps_set (i := 2) sc_4.nd rfl (Or.inr rfl) h)))
      sm_nil)
      (sm_cons (sm_if (tm_cmp op_eq s_eq (pm_op op_mod s_mod (pm_cb s_int1 (pe_callTy call_int1 (by rfl) T.z_int PyProof.Rows.boot_int (am_cons (pm_ix ix_seq s_ix (pm_var 1 (pv 1)) pm_int) am_nil))) pm_int) pm_int (nomark _))
      (sm_one (sm_set pm_int (fun h => ps_set (i := 2) sc_4.nd rfl (Or.inr rfl) h)))
      sm_nil)
      (sm_cons (sm_set (pm_ix ix_seq s_ix (pm_lst (am_cons pm_int (am_cons pm_int (am_cons pm_int (am_cons pm_int (am_cons pm_int (am_cons pm_int am_nil))))))) (pm_op op_mod s_mod (pm_cb s_int1 (pe_callTy call_int1 (by rfl) T.z_int PyProof.Rows.boot_int (am_cons (pm_ix ix_seq s_ix (pm_var 1 (pv 1)) pm_int) am_nil))) pm_int)) (fun h => ps_set (i := 3) sc_4.nd rfl (Or.inr rfl) h))
      (sm_cons (sm_if (tm_cmp op_gt s_gt (pm_var 2 (pv 2)) pm_int (nomark _))
      (sm_one (sm_set (pm_op op_plus s_plus pm_int (pm_op op_fdiv s_fdiv (pm_var 3 (pv 3)) pm_int)) (fun h => ps_set (i := 3) sc_4.nd rfl (Or.inr rfl) h)))
      sm_nil)
      (sm_cons (sm_set (pm_call fn_len_3 (pe_callS IH.f3 hr rfl T.m3 T.F3.kp T.b3 (fun σ => passAt tk σ) (am_cons (pm_var 0 (pv 0)) (am_cons pm_int (am_cons (pm_op op_times s_times (pm_var 2 (pv 2)) (pm_var 2 (pv 2))) (am_cons pm_int am_nil)))))) (fun h => ps_set (i := 4) sc_4.nd rfl (Or.inr rfl) h))
      (sm_cons (sm_set (pm_lst am_nil) (fun h => ps_set (i := 5) sc_4.nd rfl (Or.inl rfl) h))
      (sm_cons (sm_for (ps_for (passes_of rfl) rfl (im_r1 (pi_range1 rfl T.z_range (am_cons (pm_var 2 (pv 2)) am_nil))) (gm_name (pg_name (i := 6) sc_4.nd rfl (Or.inr rfl)))
      (sm_one (sm_expr (pm_mt s_app (pe_bm PySem.F.plainAttrs_list PySem.F.slot_list_append PySem.F.type_list_append mt_append (pm_var 5 (pv 5)) (am_cons (pm_lc (j := 7) (vs := [7]) (by decide) (pe_lc (own := [("w", 7)]) (g := gName 7) rfl sc_4.nd (im_r1 (pi_range1 rfl T.z_range (am_cons (pm_var 2 (pv 2)) am_nil))) (blkOk_by (N := N_4) (sc := defScope (top 6)) (by decide +kernel)) (fun _ _ _ _ _ => pg_name (i := 7) sc_4.nd rfl (Or.inl rfl)) (fun _ _ _ _ _ => (tms_one (tm_cmp op_lt s_lt (pm_ix ix_seq s_ix (pm_var 4 (pv 4)) (pm_op op_plus s_plus (pm_op op_times s_times (pm_var 6 (pv 6)) (pm_var 2 (pv 2))) (pm_var 7 (pv 7)))) (pm_var 3 (pv 3)) (nomark _)))) (fun _ _ _ _ _ => (pm_var 7 (pv 7))))) am_nil)))))))
      (sm_one (sm_ret (pm_var 5 (pv 5))))))))))))
theorem d_5 (T : Txt G.K w mg G.cad ad fd) (IH : All G M P w mg base ad fd k) : FnOk P w G.K mg base (L2.CX P w) (2 * k + 1 + 1) (ad 5) (fd 5) ["script", "sizes"] (spF G 2 (fn M (k + 1) 5)) := by
  refine fn_okF (N := N_5) (m := b_5 (fn M k) M) T.F5 sc_5 fun cdv A outer s H E hr2 => ?_
  have hr := hr2.mono (Nat.le_succ (2 * k))
  have tk : Takes (cxOf (L2.CX P w) P w G.K mg base N_5 "_law_long_graph" (defScope (top 7)) (ad 5) cdv A outer s H E) (fun c d _ H => E c d H) := takes_of rfl rfl rfl rfl
  exact (sm_cons (sm_set (pm_op op_plus s_plus pm_int (pm_op op_mod s_mod (pm_cb s_int1 (pe_callTy call_int1 (by rfl) T.z_int PyProof.Rows.boot_int (am_cons (pm_ix ix_seq s_ix (pm_var 1 (pv 1)) pm_int) am_nil))) pm_int)) (fun h => ps_set (i := 2) sc_5.nd rfl (Or.inl rfl) h))
      (sm_cons (sm_set (pm_op op_sub s_sub pm_int (pm_op op_times s_times pm_int (pm_op op_mod s_mod (pm_cb s_int1 (pe_callTy call_int1 (by rfl) T.z_int PyProof.Rows.boot_int (am_cons (pm_ix ix_seq s_ix (pm_var 1 (pv 1)) pm_int) am_nil))) pm_int))) (fun h => ps_set (i := 3) sc_5.nd rfl (Or.inl rfl) h))
      (sm_cons (sm_set (pm_call fn_len_3 (pe_callS IH.f3 hr rfl T.m3 T.F3.kp T.b3 (fun σ => passAt tk σ) (am_cons (pm_var 0 (pv 0)) (am_cons pm_int (am_cons (pm_var 2 (pv 2)) (am_cons pm_int am_nil)))))) (fun h => ps_set (i := 4) sc_5.nd rfl (Or.inl rfl) h))
      (sm_cons (sm_set (pm_lst am_nil) (fun h => ps_set (i := 5) sc_5.nd rfl (Or.inl rfl) h))
      (sm_cons (sm_for (ps_for (passes_of rfl) rfl (im_r1 (pi_range1 rfl T.z_range (am_cons (pm_var 2 (pv 2)) am_nil))) (gm_name (pg_name (i := 6) sc_5.nd rfl (Or.inl rfl)))
      (sm_cons (sm_set (pm_lst am_nil) (fun h => ps_set (i := 7) sc_5.nd rfl (Or.inl rfl) h))
      (sm_cons (sm_if (tm_bool (wm_and (tm_cmp op_lt s_lt (pm_op op_mod s_mod (pm_cb s_int1 (pe_callTy call_int1 (by rfl) T.z_int PyProof.Rows.boot_int (am_cons (pm_ix ix_seq s_ix (pm_var 4 (pv 4)) (pm_var 6 (pv 6))) am_nil))) pm_int) pm_int (nomark _)) (wm_and1 (tm_cmp op_lt s_lt (pm_op op_fdiv s_fdiv (pm_ix ix_seq s_ix (pm_var 4 (pv 4)) (pm_var 6 (pv 6))) pm_int) (pm_var 2 (pv 2)) (nomark _)))))
      (sm_one (sm_expr (pm_mt s_app (pe_bm PySem.F.plainAttrs_list PySem.F.slot_list_append PySem.F.type_list_append mt_append (pm_var 7 (pv 7)) (am_cons (pm_op op_fdiv s_fdiv (pm_ix ix_seq s_ix (pm_var 4 (pv 4)) (pm_var 6 (pv 6))) pm_int) am_nil)))))
      sm_nil)
      (sm_cons (sm_if (tm_bool (wm_and (tm_cmp op_gt s_gt (pm_op op_mod s_mod (pm_cb s_int1 (pe_callTy call_int1 (by rfl) T.z_int PyProof.Rows.boot_int (am_cons (pm_ix ix_seq s_ix (pm_var 4 (pv 4)) (pm_var 6 (pv 6))) am_nil))) pm_int) pm_int (nomark _)) (wm_and (tm_chain s_le s_lt (pt_chain op_le op_lt pm_int (pm_op op_plus s_plus (pm_var 6 (pv 6)) (pm_var 3 (pv 3))) (pm_var 2 (pv 2)))) (wm_and1 (tm_cmp (op_ninDD (units65 hr)) s_inDD (pm_op op_plus s_plus (pm_var 6 (pv 6)) (pm_var 3 (pv 3))) (pm_var 7 (pv 7)))))))
      (sm_one (sm_expr (pm_mt s_app (pe_bm PySem.F.plainAttrs_list PySem.F.slot_list_append PySem.F.type_list_append mt_append (pm_var 7 (pv 7)) (am_cons (pm_op op_plus s_plus (pm_var 6 (pv 6)) (pm_var 3 (pv 3))) am_nil)))))
      sm_nil)
      (sm_one (sm_expr (pm_mt s_app (pe_bm PySem.F.plainAttrs_list PySem.F.slot_list_append PySem.F.type_list_append mt_append (pm_var 5 (pv 5)) (am_cons (pm_cb s_sort (pe_callB cr_sortedI (by rfl) T.z_sorted (by rfl) (am_cons (pm_var 7 (pv 7)) am_nil))) am_nil))))))))))
      (sm_one (sm_ret (pm_var 5 (pv 5)))))))))
theorem d_6 (T : Txt G.K w mg G.cad ad fd) (IH : All G M P w mg base ad fd k) : FnOk P w G.K mg base (L2.CX P w) (2 * k + 1 + 1) (ad 6) (fd 6) ["script", "place", "size", "share"] (spF G 4 (fn M (k + 1) 6)) := by
  refine fn_okF (N := N_6) (m := b_6 (fn M k) M) T.F6 sc_6 fun cdv A outer s H E hr2 => ?_
  have hr := hr2.mono (Nat.le_succ (2 * k))
  have tk : Takes (cxOf (L2.CX P w) P w G.K mg base N_6 "_law_chosen" (defScope (top 8)) (ad 6) cdv A outer s H E) (fun c d _ H => E c d H) := takes_of rfl rfl rfl rfl
  exact (sm_cons (sm_set (pm_call fn_len_3 (pe_callS IH.f3 hr rfl T.m3 T.F3.kp T.b3 (fun σ => passAt tk σ) (am_cons (pm_var 0 (pv 0)) (am_cons (pm_var 1 (pv 1)) (am_cons (pm_var 2 (pv 2)) (am_cons pm_int am_nil)))))) (fun h => ps_set (i := 4) sc_6.nd rfl (Or.inr rfl) h))
      (sm_one (sm_ret (pm_lc (j := 5) (vs := [5]) (by decide) (pe_lc (own := [("v", 5)]) (g := gName 5) rfl sc_6.nd (im_r1 (pi_range1 rfl T.z_range (am_cons (pm_var 2 (pv 2)) am_nil))) (blkOk_by (N := N_6) (sc := defScope (top 8)) (by decide +kernel)) (fun _ _ _ _ _ => pg_name (i := 5) sc_6.nd rfl (Or.inl rfl)) (fun _ _ _ _ _ => (tms_one (tm_cmp op_lt s_lt (pm_ix ix_seq s_ix (pm_var 4 (pv 4)) (pm_var 5 (pv 5))) (pm_var 3 (pv 3)) (nomark _)))) (fun _ _ _ _ _ => (pm_var 5 (pv 5))))))))
theorem d_7 (T : Txt G.K w mg G.cad ad fd) (IH : All G M P w mg base ad fd k) : FnOk P w G.K mg base (L2.CX P w) (2 * k + 1 + 1) (ad 7) (fd 7) ["nodes", "kind"] (spF G 2 (fn M (k + 1) 7)) := by
  refine fn_okF (N := N_7) (m := b_7 (fn M k) M) T.F7 sc_7 fun cdv A outer s H E hr2 => ?_
  have hr := hr2.mono (Nat.le_succ (2 * k))
  have tk : Takes (cxOf (L2.CX P w) P w G.K mg base N_7 "_law_turned" (defScope (top 9)) (ad 7) cdv A outer s H E) (fun c d _ H => E c d H) := takes_of rfl rfl rfl rfl
  exact (sm_cons (sm_if (tm_cmp op_eq s_eq (pm_op op_mod s_mod (pm_cb s_int1 (pe_callTy call_int1 (by rfl) T.z_int PyProof.Rows.boot_int (am_cons (pm_var 1 (pv 1)) am_nil))) pm_int) pm_int (nomark _))
      (sm_one (sm_ret (pm_lrev rfl (pe_lstRev rfl (by rfl) T.z_list (by rfl) T.z_reversed (pm_var 0 (pv 0))))))
      sm_nil)
      (sm_cons (sm_if (tm_cmp op_eq s_eq (pm_op op_mod s_mod (pm_cb s_int1 (pe_callTy call_int1 (by rfl) T.z_int PyProof.Rows.boot_int (am_cons (pm_var 1 (pv 1)) am_nil))) pm_int) pm_int (nomark _))
      (sm_one (sm_ret (pm_op op_plus s_plus (pm_op op_plus s_plus (pm_slice sl_any s_sl (pm_var 0 (pv 0)) (om_some pm_int) om_none) (pm_var 0 (pv 0))) (pm_slice sl_any s_sl (pm_var 0 (pv 0)) om_none (om_some pm_int)))))
      sm_nil)
      (sm_one (sm_ret (pm_cb s_lst (pe_callTy call_list_of (by rfl) T.z_list PyProof.Rows.boot_list (am_cons (pm_var 0 (pv 0)) am_nil)))))))
theorem d_8 (T : Txt G.K w mg G.cad ad fd) (IH : All G M P w mg base ad fd k) : FnOk P w G.K mg base (L2.CX P w) (2 * k + 1 + 1) (ad 8) (fd 8) ["script", "place", "size", "roll"] (spF G 4 (fn M (k + 1) 8)) := by
  refine fn_okF (N := N_8) (m := b_8 (fn M k) M) T.F8 sc_8 fun cdv A outer s H E hr2 => ?_
  have hr := hr2.mono (Nat.le_succ (2 * k))
  have tk : Takes (cxOf (L2.CX P w) P w G.K mg base N_8 "_law_starts" (defScope (top 10)) (ad 8) cdv A outer s H E) (fun c d _ H => E c d H) := takes_of rfl rfl rfl rfl
  exact (sm_cons (sm_set (pm_call fn_len_6 (pe_callS IH.f6 hr rfl T.m6 T.F6.kp T.b6 (fun σ => passAt tk σ) (am_cons (pm_var 0 (pv 0)) (am_cons (pm_var 1 (pv 1)) (am_cons (pm_var 2 (pv 2)) (am_cons (pm_ix ix_seq s_ix (pm_lst (am_cons pm_int (am_cons pm_int (am_cons pm_int (am_cons pm_int am_nil))))) (pm_op op_mod s_mod (pm_cb s_int1 (pe_callTy call_int1 (by rfl) T.z_int PyProof.Rows.boot_int (am_cons (pm_var 3 (pv 3)) am_nil))) pm_int)) am_nil)))))) (fun h => ps_set (i := 4) sc_8.nd rfl (Or.inl rfl) h))
      (sm_cons (sm_if (tm_bool (wm_and (tm_cmp op_gt s_gt (pm_var 2 (pv 2)) pm_int (nomark _)) (wm_and1 (tm_cmp op_gt s_gt (pm_op op_mod s_mod (pm_cb s_int1 (pe_callTy call_int1 (by rfl) T.z_int PyProof.Rows.boot_int (am_cons (pm_op op_fdiv s_fdiv (pm_var 3 (pv 3)) pm_int) am_nil))) pm_int) pm_int (nomark _)))))
      (sm_cons (sm_set (pm_op op_mod s_mod (pm_cb s_int1 (pe_callTy call_int1 (by rfl) T.z_int PyProof.Rows.boot_int (am_cons (pm_op op_fdiv s_fdiv (pm_var 3 (pv 3)) pm_int) am_nil))) (pm_var 2 (pv 2))) (fun h => ps_set (i := 5) sc_8.nd rfl (Or.inl rfl) h))
      (sm_one (sm_if (tm_cmp (op_ninDD (units65 hr)) s_inDD (pm_var 5 (pv 5)) (pm_var 4 (pv 4)))
      (sm_one (sm_expr (pm_mt s_app (pe_bm PySem.F.plainAttrs_list PySem.F.slot_list_append PySem.F.type_list_append mt_append (pm_var 4 (pv 4)) (am_cons (pm_var 5 (pv 5)) am_nil)))))
      sm_nil)))
      sm_nil)
      (sm_one (sm_ret (pm_var 4 (pv 4))))))
theorem d_9 (T : Txt G.K w mg G.cad ad fd) (IH : All G M P w mg base ad fd k) : FnOk P w G.K mg base (L2.CX P w) (2 * k + 1 + 1) (ad 9) (fd 9) ["actual"] (spF G 1 (fn M (k + 1) 9)) := by
  refine fn_okF (N := N_9) (m := b_9 (fn M k) M) T.F9 sc_9 fun cdv A outer s H E hr2 => ?_
  have hr := hr2.mono (Nat.le_succ (2 * k))
  have tk : Takes (cxOf (L2.CX P w) P w G.K mg base N_9 "_law_is_integer" (defScope (top 11)) (ad 9) cdv A outer s H E) (fun c d _ H => E c d H) := takes_of rfl rfl rfl rfl
  exact (sm_one (sm_ret (pm_and (pm_isi rfl (pe_callB call_isi (by rfl) T.z_isinstance PyProof.Rows.boot_isinstance (pa_cons (pm_var 0 (pv 0)) (pa_cons (pe_bltn (by rfl) T.z_int PyProof.Rows.boot_int rfl) pa_nil)))) (pm_one (pm_not (pm_isi rfl (pe_callB call_isi (by rfl) T.z_isinstance PyProof.Rows.boot_isinstance (pa_cons (pm_var 0 (pv 0)) (pa_cons (pe_bltn (by rfl) T.z_bool PyProof.Rows.boot_bool rfl) pa_nil)))))))))
theorem d_10 (T : Txt G.K w mg G.cad ad fd) (IH : All G M P w mg base ad fd k) : FnOk P w G.K mg base (L2.CX P w) (2 * k + 1 + 1) (ad 10) (fd 10) ["actual", "size"] (spF G 2 (fn M (k + 1) 10)) := by
  refine fn_okF (N := N_10) (m := b_10 (fn M k) M) T.F10 sc_10 fun cdv A outer s H E hr2 => ?_
  have hr := hr2.mono (Nat.le_succ (2 * k))
  have tk : Takes (cxOf (L2.CX P w) P w G.K mg base N_10 "_law_is_nodes" (defScope (top 12)) (ad 10) cdv A outer s H E) (fun c d _ H => E c d H) := takes_of rfl rfl rfl rfl
  exact (sm_cons (sm_if (tm_not (tm_val (pm_isi rfl (pe_callB call_isi (by rfl) T.z_isinstance PyProof.Rows.boot_isinstance (pa_cons (pm_var 0 (pv 0)) (pa_cons (pe_bltn (by rfl) T.z_list PyProof.Rows.boot_list rfl) pa_nil))))))
      (sm_one (sm_ret pm_bl))
      sm_nil)
      (sm_cons (sm_for (ps_for (passes_of rfl) rfl (im_seq rfl (pm_var 0 (pv 0))) (gm_name (pg_name (i := 2) sc_10.nd rfl (Or.inl rfl)))
      (sm_one (sm_if (tm_bool (wm_or (tm_not (tm_val (pm_call fn_len_9 (pe_callS IH.f9 hr rfl T.m9 T.F9.kp T.b9 (fun σ => passAt tk σ) (am_cons (pm_var 2 (pv 2)) am_nil))))) (wm_or (tm_cmp op_lt s_lt (pm_var 2 (pv 2)) pm_int (nomark _)) (wm_or1 (tm_cmp op_ge s_ge (pm_var 2 (pv 2)) (pm_var 1 (pv 1)) (nomark _))))))
      (sm_one (sm_ret pm_bl))
      sm_nil))))
      (sm_one (sm_ret pm_bl))))
theorem d_11 (T : Txt G.K w mg G.cad ad fd) (IH : All G M P w mg base ad fd k) : FnOk P w G.K mg base (L2.CX P w) (2 * k + 1 + 1) (ad 11) (fd 11) ["after", "walk"] (spF G 2 (fn M (k + 1) 11)) := by
  refine fn_okF (N := N_11) (m := b_11 (fn M k) M) T.F11 sc_11 fun cdv A outer s H E hr2 => ?_
  have hr := hr2.mono (Nat.le_succ (2 * k))
  have tk : Takes (cxOf (L2.CX P w) P w G.K mg base N_11 "_law_is_walk" (defScope (top 13)) (ad 11) cdv A outer s H E) (fun c d _ H => E c d H) := takes_of rfl rfl rfl rfl
  exact (sm_cons (sm_for (ps_for (passes_of rfl) rfl (im_r2 (pi_range2 rfl T.z_range (am_cons pm_int (am_cons (pm_cb s_len (pe_callB call_lenA (by rfl) T.z_len PySem.boot_len (am_cons (pm_var 1 (pv 1)) am_nil))) am_nil)))) (gm_name (pg_name (i := 2) sc_11.nd rfl (Or.inl rfl)))
      (sm_one (sm_if (tm_cmp (op_ninDD (units65 hr)) s_inDD (pm_ix ix_seq s_ix (pm_var 1 (pv 1)) (pm_var 2 (pv 2))) (pm_ix ix_seq s_ix (pm_var 0 (pv 0)) (pm_ix ix_seq s_ix (pm_var 1 (pv 1)) (pm_op op_sub s_sub (pm_var 2 (pv 2)) pm_int))))
      (sm_one (sm_ret pm_bl))
      sm_nil))))
      (sm_one (sm_ret pm_bl)))
theorem d_12 (T : Txt G.K w mg G.cad ad fd) (IH : All G M P w mg base ad fd k) : FnOk P w G.K mg base (L2.CX P w) (2 * k + 1 + 1) (ad 12) (fd 12) ["one", "other"] (spF G 2 (fn M (k + 1) 12)) := by
  refine fn_okF (N := N_12) (m := b_12 (fn M k) M) T.F12 sc_12 fun cdv A outer s H E hr2 => ?_
  have hr := hr2.mono (Nat.le_succ (2 * k))
  have tk : Takes (cxOf (L2.CX P w) P w G.K mg base N_12 "_law_meets" (defScope (top 14)) (ad 12) cdv A outer s H E) (fun c d _ H => E c d H) := takes_of rfl rfl rfl rfl
  exact (sm_cons (sm_for (ps_for (passes_of rfl) rfl (im_seq rfl (pm_var 0 (pv 0))) (gm_name (pg_name (i := 2) sc_12.nd rfl (Or.inl rfl)))
      (sm_one (sm_if (tm_cmp (op_inDD (units65 hr)) s_inDD (pm_var 2 (pv 2)) (pm_var 1 (pv 1)))
      (sm_one (sm_ret pm_bl))
      sm_nil))))
      (sm_one (sm_ret pm_bl)))
theorem d_13 (T : Txt G.K w mg G.cad ad fd) (IH : All G M P w mg base ad fd k) : FnOk P w G.K mg base (L2.CX P w) (2 * k + 1 + 1) (ad 13) (fd 13) ["rows"] (spF G 1 (fn M (k + 1) 13)) := by
  refine fn_okF (N := N_13) (m := b_13 (fn M k) M) T.F13 sc_13 fun cdv A outer s H E hr2 => ?_
  have hr := hr2.mono (Nat.le_succ (2 * k))
  have tk : Takes (cxOf (L2.CX P w) P w G.K mg base N_13 "_law_copy" (defScope (top 15)) (ad 13) cdv A outer s H E) (fun c d _ H => E c d H) := takes_of rfl rfl rfl rfl
  exact (sm_one (sm_ret (pm_lc (j := 1) (vs := [1]) (by decide) (pe_lc (own := [("row", 1)]) (g := gName 1) rfl sc_13.nd (im_seq rfl (pm_var 0 (pv 0))) (blkOk_by (N := N_13) (sc := defScope (top 15)) (by decide +kernel)) (fun _ _ _ _ _ => pg_name (i := 1) sc_13.nd rfl (Or.inl rfl)) (fun _ _ _ _ _ => tms_nil) (fun _ _ _ _ _ => (pm_cb s_lst (pe_callTy call_list_of (by rfl) T.z_list PyProof.Rows.boot_list (am_cons (pm_var 1 (pv 1)) am_nil))))))))
theorem d_14 (T : Txt G.K w mg G.cad ad fd) (IH : All G M P w mg base ad fd k) : FnOk P w G.K mg base (L2.CX P w) (2 * k + 1 + 1) (ad 14) (fd 14) ["after", "starts", "goals"] (spF G 3 (fn M (k + 1) 14)) := by
  refine fn_okF (N := N_14) (m := b_14 (fn M k) M) T.F14 sc_14 fun cdv A outer s H E hr2 => ?_
  have hr := hr2.mono (Nat.le_succ (2 * k))
  have tk : Takes (cxOf (L2.CX P w) P w G.K mg base N_14 "_law_least" (defScope (top 16)) (ad 14) cdv A outer s H E) (fun c d _ H => E c d H) := takes_of rfl rfl rfl rfl
  exact (sm_cons (sm_set (pm_lst am_nil) (fun h => ps_set (i := 3) sc_14.nd rfl (Or.inl rfl) h))
      (sm_cons (sm_set (pm_lst am_nil) (fun h => ps_set (i := 4) sc_14.nd rfl (Or.inl rfl) h))
      (sm_cons (sm_for (ps_for (passes_of rfl) rfl (im_seq rfl (pm_var 1 (pv 1))) (gm_name (pg_name (i := 5) sc_14.nd rfl (Or.inl rfl)))
      (sm_one (sm_if (tm_cmp (op_ninDD (units65 hr)) s_inDD (pm_var 5 (pv 5)) (pm_var 3 (pv 3)))
      (sm_cons (sm_expr (pm_mt s_app (pe_bm PySem.F.plainAttrs_list PySem.F.slot_list_append PySem.F.type_list_append mt_append (pm_var 3 (pv 3)) (am_cons (pm_var 5 (pv 5)) am_nil))))
      (sm_one (sm_expr (pm_mt s_app (pe_bm PySem.F.plainAttrs_list PySem.F.slot_list_append PySem.F.type_list_append mt_append (pm_var 4 (pv 4)) (am_cons (pm_var 5 (pv 5)) am_nil))))))
      sm_nil))))
      (sm_cons (sm_for (ps_for (passes_of rfl) rfl (im_r1 (pi_range1 rfl T.z_range (am_cons (pm_cb s_len (pe_callB call_lenA (by rfl) T.z_len PySem.boot_len (am_cons (pm_var 0 (pv 0)) am_nil))) am_nil))) (gm_name (pg_name (i := 6) sc_14.nd rfl (Or.inl rfl)))
      (sm_cons (sm_if (tm_val (pm_call fn_len_12 (pe_callS IH.f12 hr rfl T.m12 T.F12.kp T.b12 (fun σ => passAt tk σ) (am_cons (pm_var 4 (pv 4)) (am_cons (pm_var 2 (pv 2)) am_nil)))))
      (sm_one (sm_ret (pm_op op_plus s_plus (pm_var 6 (pv 6)) pm_int)))
      sm_nil)
      (sm_cons (sm_set (pm_lst am_nil) (fun h => ps_set (i := 7) sc_14.nd rfl (Or.inl rfl) h))
      (sm_cons (sm_for (ps_for (passes_of rfl) rfl (im_seq rfl (pm_var 4 (pv 4))) (gm_name (pg_name (i := 8) sc_14.nd rfl (Or.inl rfl)))
      (sm_one (sm_for (ps_for (passes_of rfl) rfl (im_seq rfl (pm_ix ix_seq s_ix (pm_var 0 (pv 0)) (pm_var 8 (pv 8)))) (gm_name (pg_name (i := 5) sc_14.nd rfl (Or.inl rfl)))
      (sm_one (sm_if (tm_cmp (op_ninDD (units65 hr)) s_inDD (pm_var 5 (pv 5)) (pm_var 3 (pv 3)))
      (sm_cons (sm_expr (pm_mt s_app (pe_bm PySem.F.plainAttrs_list PySem.F.slot_list_append PySem.F.type_list_append mt_append (pm_var 3 (pv 3)) (am_cons (pm_var 5 (pv 5)) am_nil))))
      (sm_one (sm_expr (pm_mt s_app (pe_bm PySem.F.plainAttrs_list PySem.F.slot_list_append PySem.F.type_list_append mt_append (pm_var 7 (pv 7)) (am_cons (pm_var 5 (pv 5)) am_nil))))))
      sm_nil)))))))
      (sm_one (sm_set (pm_var 7 (pv 7)) (fun h => ps_set (i := 4) sc_14.nd rfl (Or.inl rfl) h))))))))
      (sm_one (sm_ret pm_int))))))
theorem d_15 (T : Txt G.K w mg G.cad ad fd) (IH : All G M P w mg base ad fd k) : FnOk P w G.K mg base (L2.CX P w) (2 * k + 1 + 1) (ad 15) (fd 15) ["script"] (spF G 1 (fn M (k + 1) 15)) := by
  refine fn_okF (N := N_15) (m := b_15 (fn M k) M) T.F15 sc_15 fun cdv A outer s H E hr2 => ?_
  have hr := hr2.mono (Nat.le_succ (2 * k))
  have tk : Takes (cxOf (L2.CX P w) P w G.K mg base N_15 "law" (defScope (top 17)) (ad 15) cdv A outer s H E) (fun c d _ H => E c d H) := takes_of rfl rfl rfl rfl
  exact (sm_cons (sm_set (pm_call fn_len_3 (pe_callS IH.f3 hr rfl T.m3 T.F3.kp T.b3 (fun σ => passAt tk σ) (am_cons (pm_var 0 (pv 0)) (am_cons pm_int (am_cons pm_int (am_cons pm_int am_nil)))))) (fun h => ps_set (i := 1) sc_15.nd rfl (Or.inl rfl) h))
      (sm_cons (sm_set (pm_call fn_len_4 (pe_callS IH.f4 hr rfl T.m4 T.F4.kp T.b4 (fun σ => passAt tk σ) (am_cons (pm_var 0 (pv 0)) (am_cons (pm_var 1 (pv 1)) am_nil)))) (fun h => ps_set (i := 2) sc_15.nd rfl (Or.inl rfl) h))
      (sm_cons (sm_if (tm_cmp op_eq s_eq (pm_op op_mod s_mod (pm_cb s_int1 (pe_callTy call_int1 (by rfl) T.z_int PyProof.Rows.boot_int (am_cons (pm_ix ix_seq s_ix (pm_var 1 (pv 1)) pm_int) am_nil))) pm_int) pm_int (nomark _))
      (sm_one (sm_set (pm_call fn_len_5 (pe_callS IH.f5 hr rfl T.m5 T.F5.kp T.b5 (fun σ => passAt tk σ) (am_cons (pm_var 0 (pv 0)) (am_cons (pm_var 1 (pv 1)) am_nil)))) (fun h => ps_set (i := 2) sc_15.nd rfl (Or.inl rfl) h)))
      sm_nil)
      (sm_cons (sm_set (pm_call fn_len_7 (pe_callS IH.f7 hr rfl T.m7 T.F7.kp T.b7 (fun σ => passAt tk σ) (am_cons (pm_call fn_len_8 (pe_callS IH.f8 hr rfl T.m8 T.F8.kp T.b8 (fun σ => passAt tk σ) (am_cons (pm_var 0 (pv 0)) (am_cons pm_int (am_cons (pm_cb s_len (pe_callB call_lenA (by rfl) T.z_len PySem.boot_len (am_cons (pm_var 2 (pv 2)) am_nil))) (am_cons (pm_ix ix_seq s_ix (pm_var 1 (pv 1)) pm_int) am_nil)))))) (am_cons (pm_ix ix_seq s_ix (pm_var 1 (pv 1)) pm_int) am_nil)))) (fun h => ps_set (i := 3) sc_15.nd rfl (Or.inl rfl) h))
      (sm_cons (sm_set (pm_call fn_len_7 (pe_callS IH.f7 hr rfl T.m7 T.F7.kp T.b7 (fun σ => passAt tk σ) (am_cons (pm_call fn_len_8 (pe_callS IH.f8 hr rfl T.m8 T.F8.kp T.b8 (fun σ => passAt tk σ) (am_cons (pm_var 0 (pv 0)) (am_cons pm_int (am_cons (pm_cb s_len (pe_callB call_lenA (by rfl) T.z_len PySem.boot_len (am_cons (pm_var 2 (pv 2)) am_nil))) (am_cons (pm_ix ix_seq s_ix (pm_var 1 (pv 1)) pm_int) am_nil)))))) (am_cons (pm_ix ix_seq s_ix (pm_var 1 (pv 1)) pm_int) am_nil)))) (fun h => ps_set (i := 4) sc_15.nd rfl (Or.inl rfl) h))
      (sm_cons (sm_set (pm_lst (am_cons (pm_call fn_len_13 (pe_callS IH.f13 hr rfl T.m13 T.F13.kp T.b13 (fun σ => passAt tk σ) (am_cons (pm_var 2 (pv 2)) am_nil))) (am_cons (pm_cb s_lst (pe_callTy call_list_of (by rfl) T.z_list PyProof.Rows.boot_list (am_cons (pm_var 3 (pv 3)) am_nil))) (am_cons (pm_cb s_lst (pe_callTy call_list_of (by rfl) T.z_list PyProof.Rows.boot_list (am_cons (pm_var 4 (pv 4)) am_nil))) am_nil)))) (fun h => ps_set (i := 5) sc_15.nd rfl (Or.inl rfl) h))
      (sm_cons (sm_set (pm_call fn_len_0 (pe_callS IH.f0 hr rfl T.m0 T.F0.kp T.b0 (fun σ => passAt tk σ) (am_cons (pm_ix ix_seq s_ix (pm_var 5 (pv 5)) pm_int) (am_cons (pm_ix ix_seq s_ix (pm_var 5 (pv 5)) pm_int) (am_cons (pm_ix ix_seq s_ix (pm_var 5 (pv 5)) pm_int) am_nil))))) (fun h => ps_set (i := 6) sc_15.nd rfl (Or.inl rfl) h))
      (sm_cons (sm_set (pm_call fn_len_14 (pe_callS IH.f14 hr rfl T.m14 T.F14.kp T.b14 (fun σ => passAt tk σ) (am_cons (pm_var 2 (pv 2)) (am_cons (pm_var 3 (pv 3)) (am_cons (pm_var 4 (pv 4)) am_nil))))) (fun h => ps_set (i := 7) sc_15.nd rfl (Or.inl rfl) h))
      (sm_cons (sm_if (tm_cmp op_eq s_eq (pm_var 7 (pv 7)) pm_int (nomark _))
      (sm_one (sm_ret (pm_and (pm_cmp op_isN s_isN (pm_var 6 (pv 6)) pm_non (nomark _)) (pm_and (pm_cmp (op_eqA hr.units) s_eqA (pm_ix ix_seq s_ix (pm_var 5 (pv 5)) pm_int) (pm_var 2 (pv 2)) (nomark _)) (pm_and (pm_cmp (op_eqA hr.units) s_eqA (pm_ix ix_seq s_ix (pm_var 5 (pv 5)) pm_int) (pm_var 3 (pv 3)) (nomark _)) (pm_one (pm_cmp (op_eqA hr.units) s_eqA (pm_ix ix_seq s_ix (pm_var 5 (pv 5)) pm_int) (pm_var 4 (pv 4)) (nomark _))))))))
      sm_nil)
      (sm_cons (sm_if (tm_bool (wm_or (tm_not (tm_val (pm_call fn_len_10 (pe_callS IH.f10 hr rfl T.m10 T.F10.kp T.b10 (fun σ => passAt tk σ) (am_cons (pm_var 6 (pv 6)) (am_cons (pm_cb s_len (pe_callB call_lenA (by rfl) T.z_len PySem.boot_len (am_cons (pm_var 2 (pv 2)) am_nil))) am_nil)))))) (wm_or1 (tm_cmp (op_neA hr.units) s_neA (pm_cb s_len (pe_callB call_lenA (by rfl) T.z_len PySem.boot_len (am_cons (pm_var 6 (pv 6)) am_nil))) (pm_var 7 (pv 7)) (nomark _)))))
      (sm_one (sm_ret pm_bl))
      sm_nil)
      (sm_cons (sm_if (tm_bool (wm_or (tm_cmp (op_ninDD (units65 hr)) s_inDD (pm_ix ix_seq s_ix (pm_var 6 (pv 6)) pm_int) (pm_var 3 (pv 3))) (wm_or (tm_cmp (op_ninDD (units65 hr)) s_inDD (pm_ix ix_seq s_ix (pm_var 6 (pv 6)) (pm_op op_sub s_sub (pm_var 7 (pv 7)) pm_int)) (pm_var 4 (pv 4))) (wm_or1 (tm_not (tm_val (pm_call fn_len_11 (pe_callS IH.f11 hr rfl T.m11 T.F11.kp T.b11 (fun σ => passAt tk σ) (am_cons (pm_var 2 (pv 2)) (am_cons (pm_var 6 (pv 6)) am_nil))))))))))
      (sm_one (sm_ret pm_bl))
      sm_nil)
      (sm_cons (sm_expr (pm_mt s_app (pe_bm PySem.F.plainAttrs_list PySem.F.slot_list_append PySem.F.type_list_append mt_append (pm_var 6 (pv 6)) (am_cons (pm_un un_neg s_neg pm_int) am_nil))))
      (sm_one (sm_ret (pm_and (pm_cmp (op_eqA hr.units) s_eqA (pm_ix ix_seq s_ix (pm_var 5 (pv 5)) pm_int) (pm_var 2 (pv 2)) (nomark _)) (pm_and (pm_cmp (op_eqA hr.units) s_eqA (pm_ix ix_seq s_ix (pm_var 5 (pv 5)) pm_int) (pm_var 3 (pv 3)) (nomark _)) (pm_one (pm_cmp (op_eqA hr.units) s_eqA (pm_ix ix_seq s_ix (pm_var 5 (pv 5)) pm_int) (pm_var 4 (pv 4)) (nomark _)))))))))))))))))))
theorem all (T : Txt G.K w mg G.cad ad fd) : ∀ k, All G M P w mg base ad fd k
  | 0 => ⟨fn_zero fun _ _ => rfl, fn_zero fun _ _ => rfl, fn_zero fun _ _ => rfl, fn_zero fun _ _ => rfl, fn_zero fun _ _ => rfl, fn_zero fun _ _ => rfl, fn_zero fun _ _ => rfl, fn_zero fun _ _ => rfl, fn_zero fun _ _ => rfl, fn_zero fun _ _ => rfl, fn_zero fun _ _ => rfl, fn_zero fun _ _ => rfl, fn_zero fun _ _ => rfl, fn_zero fun _ _ => rfl, fn_zero fun _ _ => rfl, fn_zero fun _ _ => rfl⟩
  | k + 1 => have IH := all T k; ⟨d_0 T IH, d_1 T IH, d_2 T IH, d_3 T IH, d_4 T IH, d_5 T IH, d_6 T IH, d_7 T IH, d_8 T IH, d_9 T IH, d_10 T IH, d_11 T IH, d_12 T IH, d_13 T IH, d_14 T IH, d_15 T IH⟩
end
def cad (K : PySem.W.Frag) : Nat → Addr := fun n => match n with  | _ => 0
theorem all_mk {l : PySem.W.OpenLaw} {w : World} {K : PySem.W.Frag} {h : Heap} {mg : Str → Option Value} {fa : Addr} {M dep : Nat} (X : K.In h) (Gn : h.Ns mainGlobals mg) (hfa : mg "law" = some (.ref fa))
    {f0 f1 f2 f3 f4 f5 f6 f7 f8 f9 f10 f11 f12 f13 f14 f15 : Addr} {od0 od1 od2 od3 od4 od5 od6 od7 od8 od9 od10 od11 od12 od13 od14 od15 an0 an1 an2 an3 an4 an5 an6 an7 an8 an9 an10 an11 an12 an13 an14 an15 : Option Addr} {sl0 sl1 sl2 sl3 sl4 sl5 sl6 sl7 sl8 sl9 sl10 sl11 sl12 sl13 sl14 sl15 : Array (Option Value)} {oc0 oc1 oc2 oc3 oc4 oc5 oc6 oc7 oc8 oc9 oc10 oc11 oc12 oc13 oc14 oc15 kV0 kV1 kV2 kV3 kV4 kV5 kV6 kV7 kV8 kV9 kV10 kV11 kV12 kV13 kV14 kV15 dc0 dc1 dc2 dc3 dc4 dc5 dc6 dc7 dc8 dc9 dc10 dc11 dc12 dc13 dc14 dc15 pm0 pm1 pm2 pm3 pm4 pm5 pm6 pm7 pm8 pm9 pm10 pm11 pm12 pm13 pm14 pm15 cd0 cd1 cd2 cd3 cd4 cd5 cd6 cd7 cd8 cd9 cd10 cd11 cd12 cd13 cd14 cd15 ct0 ct1 ct2 ct3 ct4 ct5 ct6 ct7 ct8 ct9 ct10 ct11 ct12 ct13 ct14 ct15 : Value}
    (a0 : PySem.W.nsIn K mainGlobals "shortest_path" = some (some (.ref f0)))
    (l0 : K.lookup f0 = some ⟨oc0, od0, .func (PySem.W.fnOf "shortest_path" "shortest_path" (defArgs (top 1)) (defBody (top 1)) (defScope (top 1)) .none kV0 dc0 pm0 an0 cd0 ct0), sl0⟩)
    (c0 : PySem.W.codeIn K cd0 "shortest_path" = true)
    (k0 : PySem.W.keepIn K (.ref f0) = true)
    (a1 : PySem.W.nsIn K mainGlobals "path_to" = some (some (.ref f1)))
    (l1 : K.lookup f1 = some ⟨oc1, od1, .func (PySem.W.fnOf "path_to" "path_to" (defArgs (top 2)) (defBody (top 2)) (defScope (top 2)) .none kV1 dc1 pm1 an1 cd1 ct1), sl1⟩)
    (c1 : PySem.W.codeIn K cd1 "path_to" = true)
    (k1 : PySem.W.keepIn K (.ref f1) = true)
    (a2 : PySem.W.nsIn K mainGlobals "_law_cell" = some (some (.ref f2)))
    (l2 : K.lookup f2 = some ⟨oc2, od2, .func (PySem.W.fnOf "_law_cell" "_law_cell" (defArgs (top 4)) (defBody (top 4)) (defScope (top 4)) .none kV2 dc2 pm2 an2 cd2 ct2), sl2⟩)
    (c2 : PySem.W.codeIn K cd2 "_law_cell" = true)
    (k2 : PySem.W.keepIn K (.ref f2) = true)
    (a3 : PySem.W.nsIn K mainGlobals "_law_draws" = some (some (.ref f3)))
    (l3 : K.lookup f3 = some ⟨oc3, od3, .func (PySem.W.fnOf "_law_draws" "_law_draws" (defArgs (top 5)) (defBody (top 5)) (defScope (top 5)) .none kV3 dc3 pm3 an3 cd3 ct3), sl3⟩)
    (c3 : PySem.W.codeIn K cd3 "_law_draws" = true)
    (k3 : PySem.W.keepIn K (.ref f3) = true)
    (a4 : PySem.W.nsIn K mainGlobals "_law_graph" = some (some (.ref f4)))
    (l4 : K.lookup f4 = some ⟨oc4, od4, .func (PySem.W.fnOf "_law_graph" "_law_graph" (defArgs (top 6)) (defBody (top 6)) (defScope (top 6)) .none kV4 dc4 pm4 an4 cd4 ct4), sl4⟩)
    (c4 : PySem.W.codeIn K cd4 "_law_graph" = true)
    (k4 : PySem.W.keepIn K (.ref f4) = true)
    (a5 : PySem.W.nsIn K mainGlobals "_law_long_graph" = some (some (.ref f5)))
    (l5 : K.lookup f5 = some ⟨oc5, od5, .func (PySem.W.fnOf "_law_long_graph" "_law_long_graph" (defArgs (top 7)) (defBody (top 7)) (defScope (top 7)) .none kV5 dc5 pm5 an5 cd5 ct5), sl5⟩)
    (c5 : PySem.W.codeIn K cd5 "_law_long_graph" = true)
    (k5 : PySem.W.keepIn K (.ref f5) = true)
    (a6 : PySem.W.nsIn K mainGlobals "_law_chosen" = some (some (.ref f6)))
    (l6 : K.lookup f6 = some ⟨oc6, od6, .func (PySem.W.fnOf "_law_chosen" "_law_chosen" (defArgs (top 8)) (defBody (top 8)) (defScope (top 8)) .none kV6 dc6 pm6 an6 cd6 ct6), sl6⟩)
    (c6 : PySem.W.codeIn K cd6 "_law_chosen" = true)
    (k6 : PySem.W.keepIn K (.ref f6) = true)
    (a7 : PySem.W.nsIn K mainGlobals "_law_turned" = some (some (.ref f7)))
    (l7 : K.lookup f7 = some ⟨oc7, od7, .func (PySem.W.fnOf "_law_turned" "_law_turned" (defArgs (top 9)) (defBody (top 9)) (defScope (top 9)) .none kV7 dc7 pm7 an7 cd7 ct7), sl7⟩)
    (c7 : PySem.W.codeIn K cd7 "_law_turned" = true)
    (k7 : PySem.W.keepIn K (.ref f7) = true)
    (a8 : PySem.W.nsIn K mainGlobals "_law_starts" = some (some (.ref f8)))
    (l8 : K.lookup f8 = some ⟨oc8, od8, .func (PySem.W.fnOf "_law_starts" "_law_starts" (defArgs (top 10)) (defBody (top 10)) (defScope (top 10)) .none kV8 dc8 pm8 an8 cd8 ct8), sl8⟩)
    (c8 : PySem.W.codeIn K cd8 "_law_starts" = true)
    (k8 : PySem.W.keepIn K (.ref f8) = true)
    (a9 : PySem.W.nsIn K mainGlobals "_law_is_integer" = some (some (.ref f9)))
    (l9 : K.lookup f9 = some ⟨oc9, od9, .func (PySem.W.fnOf "_law_is_integer" "_law_is_integer" (defArgs (top 11)) (defBody (top 11)) (defScope (top 11)) .none kV9 dc9 pm9 an9 cd9 ct9), sl9⟩)
    (c9 : PySem.W.codeIn K cd9 "_law_is_integer" = true)
    (k9 : PySem.W.keepIn K (.ref f9) = true)
    (a10 : PySem.W.nsIn K mainGlobals "_law_is_nodes" = some (some (.ref f10)))
    (l10 : K.lookup f10 = some ⟨oc10, od10, .func (PySem.W.fnOf "_law_is_nodes" "_law_is_nodes" (defArgs (top 12)) (defBody (top 12)) (defScope (top 12)) .none kV10 dc10 pm10 an10 cd10 ct10), sl10⟩)
    (c10 : PySem.W.codeIn K cd10 "_law_is_nodes" = true)
    (k10 : PySem.W.keepIn K (.ref f10) = true)
    (a11 : PySem.W.nsIn K mainGlobals "_law_is_walk" = some (some (.ref f11)))
    (l11 : K.lookup f11 = some ⟨oc11, od11, .func (PySem.W.fnOf "_law_is_walk" "_law_is_walk" (defArgs (top 13)) (defBody (top 13)) (defScope (top 13)) .none kV11 dc11 pm11 an11 cd11 ct11), sl11⟩)
    (c11 : PySem.W.codeIn K cd11 "_law_is_walk" = true)
    (k11 : PySem.W.keepIn K (.ref f11) = true)
    (a12 : PySem.W.nsIn K mainGlobals "_law_meets" = some (some (.ref f12)))
    (l12 : K.lookup f12 = some ⟨oc12, od12, .func (PySem.W.fnOf "_law_meets" "_law_meets" (defArgs (top 14)) (defBody (top 14)) (defScope (top 14)) .none kV12 dc12 pm12 an12 cd12 ct12), sl12⟩)
    (c12 : PySem.W.codeIn K cd12 "_law_meets" = true)
    (k12 : PySem.W.keepIn K (.ref f12) = true)
    (a13 : PySem.W.nsIn K mainGlobals "_law_copy" = some (some (.ref f13)))
    (l13 : K.lookup f13 = some ⟨oc13, od13, .func (PySem.W.fnOf "_law_copy" "_law_copy" (defArgs (top 15)) (defBody (top 15)) (defScope (top 15)) .none kV13 dc13 pm13 an13 cd13 ct13), sl13⟩)
    (c13 : PySem.W.codeIn K cd13 "_law_copy" = true)
    (k13 : PySem.W.keepIn K (.ref f13) = true)
    (a14 : PySem.W.nsIn K mainGlobals "_law_least" = some (some (.ref f14)))
    (l14 : K.lookup f14 = some ⟨oc14, od14, .func (PySem.W.fnOf "_law_least" "_law_least" (defArgs (top 16)) (defBody (top 16)) (defScope (top 16)) .none kV14 dc14 pm14 an14 cd14 ct14), sl14⟩)
    (c14 : PySem.W.codeIn K cd14 "_law_least" = true)
    (k14 : PySem.W.keepIn K (.ref f14) = true)
    (a15 : PySem.W.nsIn K mainGlobals "law" = some (some (.ref f15)))
    (l15 : K.lookup f15 = some ⟨oc15, od15, .func (PySem.W.fnOf "law" "law" (defArgs (top 17)) (defBody (top 17)) (defScope (top 17)) .none kV15 dc15 pm15 an15 cd15 ct15), sl15⟩)
    (c15 : PySem.W.codeIn K cd15 "law" = true)
    (k15 : PySem.W.keepIn K (.ref f15) = true)
    (z_bool : PySem.W.nsIn K mainGlobals "bool" = some none)
    (z_int : PySem.W.nsIn K mainGlobals "int" = some none)
    (z_isinstance : PySem.W.nsIn K mainGlobals "isinstance" = some none)
    (z_len : PySem.W.nsIn K mainGlobals "len" = some none)
    (z_list : PySem.W.nsIn K mainGlobals "list" = some none)
    (z_range : PySem.W.nsIn K mainGlobals "range" = some none)
    (z_reversed : PySem.W.nsIn K mainGlobals "reversed" = some none)
    (z_sorted : PySem.W.nsIn K mainGlobals "sorted" = some none)
    : ∃ fd : FuncData, (∀ (s : Shared) (v : Value), BindsTo s fd ⟨[v], []⟩ [("script", v)]) ∧ ∀ base : Heap, K.In base → base.Ns mainGlobals mg → FnOk l.prog w K mg base (L2.CX l.prog w) (2 * dep) fa fd ["script"] (spF ⟨K, cad K⟩ 1 (fn M dep 15)) := by
  have e := hfa.symm.trans (PySem.W.mg_of X Gn a15)
  cases e
  have F0 := fun_mk (st := (top 1)) l0 c0 k0
  have F1 := fun_mk (st := (top 2)) l1 c1 k1
  have F2 := fun_mk (st := (top 4)) l2 c2 k2
  have F3 := fun_mk (st := (top 5)) l3 c3 k3
  have F4 := fun_mk (st := (top 6)) l4 c4 k4
  have F5 := fun_mk (st := (top 7)) l5 c5 k5
  have F6 := fun_mk (st := (top 8)) l6 c6 k6
  have F7 := fun_mk (st := (top 9)) l7 c7 k7
  have F8 := fun_mk (st := (top 10)) l8 c8 k8
  have F9 := fun_mk (st := (top 11)) l9 c9 k9
  have F10 := fun_mk (st := (top 12)) l10 c10 k10
  have F11 := fun_mk (st := (top 13)) l11 c11 k11
  have F12 := fun_mk (st := (top 14)) l12 c12 k12
  have F13 := fun_mk (st := (top 15)) l13 c13 k13
  have F14 := fun_mk (st := (top 16)) l14 c14 k14
  have F15 := fun_mk (st := (top 17)) l15 c15 k15
  have b0 := F0.binds (ps := ["after", "starts", "goals"]) fun _ _ _ _ _ _ us hl => match us, hl with | [_, _, _], _ => rfl
  have b1 := F1.binds (ps := ["goal", "before"]) fun _ _ _ _ _ _ us hl => match us, hl with | [_, _], _ => rfl
  have b2 := F2.binds (ps := ["script", "k"]) fun _ _ _ _ _ _ us hl => match us, hl with | [_, _], _ => rfl
  have b3 := F3.binds (ps := ["script", "place", "count", "base"]) fun _ _ _ _ _ _ us hl => match us, hl with | [_, _, _, _], _ => rfl
  have b4 := F4.binds (ps := ["script", "sizes"]) fun _ _ _ _ _ _ us hl => match us, hl with | [_, _], _ => rfl
  have b5 := F5.binds (ps := ["script", "sizes"]) fun _ _ _ _ _ _ us hl => match us, hl with | [_, _], _ => rfl
  have b6 := F6.binds (ps := ["script", "place", "size", "share"]) fun _ _ _ _ _ _ us hl => match us, hl with | [_, _, _, _], _ => rfl
  have b7 := F7.binds (ps := ["nodes", "kind"]) fun _ _ _ _ _ _ us hl => match us, hl with | [_, _], _ => rfl
  have b8 := F8.binds (ps := ["script", "place", "size", "roll"]) fun _ _ _ _ _ _ us hl => match us, hl with | [_, _, _, _], _ => rfl
  have b9 := F9.binds (ps := ["actual"]) fun _ _ _ _ _ _ us hl => match us, hl with | [_], _ => rfl
  have b10 := F10.binds (ps := ["actual", "size"]) fun _ _ _ _ _ _ us hl => match us, hl with | [_, _], _ => rfl
  have b11 := F11.binds (ps := ["after", "walk"]) fun _ _ _ _ _ _ us hl => match us, hl with | [_, _], _ => rfl
  have b12 := F12.binds (ps := ["one", "other"]) fun _ _ _ _ _ _ us hl => match us, hl with | [_, _], _ => rfl
  have b13 := F13.binds (ps := ["rows"]) fun _ _ _ _ _ _ us hl => match us, hl with | [_], _ => rfl
  have b14 := F14.binds (ps := ["after", "starts", "goals"]) fun _ _ _ _ _ _ us hl => match us, hl with | [_, _, _], _ => rfl
  have b15 := F15.binds (ps := ["script"]) fun _ _ _ _ _ _ us hl => match us, hl with | [_], _ => rfl
  let ad : Nat → Addr := fun i => match i with | 0 => f0 | 1 => f1 | 2 => f2 | 3 => f3 | 4 => f4 | 5 => f5 | 6 => f6 | 7 => f7 | 8 => f8 | 9 => f9 | 10 => f10 | 11 => f11 | 12 => f12 | 13 => f13 | 14 => f14 | 15 => fa | _ => 0
  let fd : Nat → FuncData := fun i => match i with | 0 => PySem.W.fnOf "shortest_path" "shortest_path" (defArgs (top 1)) (defBody (top 1)) (defScope (top 1)) .none kV0 dc0 pm0 an0 cd0 ct0 | 1 => PySem.W.fnOf "path_to" "path_to" (defArgs (top 2)) (defBody (top 2)) (defScope (top 2)) .none kV1 dc1 pm1 an1 cd1 ct1 | 2 => PySem.W.fnOf "_law_cell" "_law_cell" (defArgs (top 4)) (defBody (top 4)) (defScope (top 4)) .none kV2 dc2 pm2 an2 cd2 ct2 | 3 => PySem.W.fnOf "_law_draws" "_law_draws" (defArgs (top 5)) (defBody (top 5)) (defScope (top 5)) .none kV3 dc3 pm3 an3 cd3 ct3 | 4 => PySem.W.fnOf "_law_graph" "_law_graph" (defArgs (top 6)) (defBody (top 6)) (defScope (top 6)) .none kV4 dc4 pm4 an4 cd4 ct4 | 5 => PySem.W.fnOf "_law_long_graph" "_law_long_graph" (defArgs (top 7)) (defBody (top 7)) (defScope (top 7)) .none kV5 dc5 pm5 an5 cd5 ct5 | 6 => PySem.W.fnOf "_law_chosen" "_law_chosen" (defArgs (top 8)) (defBody (top 8)) (defScope (top 8)) .none kV6 dc6 pm6 an6 cd6 ct6 | 7 => PySem.W.fnOf "_law_turned" "_law_turned" (defArgs (top 9)) (defBody (top 9)) (defScope (top 9)) .none kV7 dc7 pm7 an7 cd7 ct7 | 8 => PySem.W.fnOf "_law_starts" "_law_starts" (defArgs (top 10)) (defBody (top 10)) (defScope (top 10)) .none kV8 dc8 pm8 an8 cd8 ct8 | 9 => PySem.W.fnOf "_law_is_integer" "_law_is_integer" (defArgs (top 11)) (defBody (top 11)) (defScope (top 11)) .none kV9 dc9 pm9 an9 cd9 ct9 | 10 => PySem.W.fnOf "_law_is_nodes" "_law_is_nodes" (defArgs (top 12)) (defBody (top 12)) (defScope (top 12)) .none kV10 dc10 pm10 an10 cd10 ct10 | 11 => PySem.W.fnOf "_law_is_walk" "_law_is_walk" (defArgs (top 13)) (defBody (top 13)) (defScope (top 13)) .none kV11 dc11 pm11 an11 cd11 ct11 | 12 => PySem.W.fnOf "_law_meets" "_law_meets" (defArgs (top 14)) (defBody (top 14)) (defScope (top 14)) .none kV12 dc12 pm12 an12 cd12 ct12 | 13 => PySem.W.fnOf "_law_copy" "_law_copy" (defArgs (top 15)) (defBody (top 15)) (defScope (top 15)) .none kV13 dc13 pm13 an13 cd13 ct13 | 14 => PySem.W.fnOf "_law_least" "_law_least" (defArgs (top 16)) (defBody (top 16)) (defScope (top 16)) .none kV14 dc14 pm14 an14 cd14 ct14 | 15 => PySem.W.fnOf "law" "law" (defArgs (top 17)) (defBody (top 17)) (defScope (top 17)) .none kV15 dc15 pm15 an15 cd15 ct15 | _ => PySem.W.fnOf "" "" (defArgs (top 0)) (defBody (top 0)) (defScope (top 0)) .none .none .none .none none .none .none
  have T : Txt K w mg (cad K) ad fd := ⟨F0, PySem.W.mg_of X Gn a0, b0, F1, PySem.W.mg_of X Gn a1, b1, F2, PySem.W.mg_of X Gn a2, b2, F3, PySem.W.mg_of X Gn a3, b3, F4, PySem.W.mg_of X Gn a4, b4, F5, PySem.W.mg_of X Gn a5, b5, F6, PySem.W.mg_of X Gn a6, b6, F7, PySem.W.mg_of X Gn a7, b7, F8, PySem.W.mg_of X Gn a8, b8, F9, PySem.W.mg_of X Gn a9, b9, F10, PySem.W.mg_of X Gn a10, b10, F11, PySem.W.mg_of X Gn a11, b11, F12, PySem.W.mg_of X Gn a12, b12, F13, PySem.W.mg_of X Gn a13, b13, F14, PySem.W.mg_of X Gn a14, b14, F15, PySem.W.mg_of X Gn a15, b15, PySem.W.mg_none_of X Gn z_bool, PySem.W.mg_none_of X Gn z_int, PySem.W.mg_none_of X Gn z_isinstance, PySem.W.mg_none_of X Gn z_len, PySem.W.mg_none_of X Gn z_list, PySem.W.mg_none_of X Gn z_range, PySem.W.mg_none_of X Gn z_reversed, PySem.W.mg_none_of X Gn z_sorted⟩
  exact ⟨fd 15, fun s v => .of_eq rfl, fun base _ _ => (all (G := ⟨K, cad K⟩) (M := M) (P := l.prog) (w := w) (base := base) T dep).f15⟩
end K32
namespace K32
open PySem L2 Mi Fu
def s_0 (Φ : Nat → List T → Option T) (M : Nat) : FS :=
  (fSeqS (fSet (fDc (fSeq (fVar 2)) (.nm 10) fYes (fVar 10) (fC (.bl true)) [10]) 3)
      (fSeqS (fFor (fSeq (fVar 1)) (gtNm 4)
      (fIfS (fTest (fOp (dinT false) (fVar 4) (fVar 3)))
      (fRet (fLst (fCons (fVar 4) fNil)))
      fNext))
      (fSeqS (fOwn (fDc (fSeq (fVar 1)) (.nm 4) fYes (fVar 4) (fC .non) [4]) 5)
      (fSeqS (fOwn (fCB dkeysT (fCons (fVar 5) fNil)) 6)
      (fSeqS (fSet (fC (.int 0)) 7)
      (fSeqS (fWhile M (fTest (fOp ltT (fVar 7) (fCB lenT (fCons (fVar 6) fNil))))
      (fSeqS (fSet (fOp ixT (fVar 6) (fVar 7)) 8)
      (fSeqS (fAugI 7 (· + ·) (fC (.int 1)))
      (fFor (fSeq (fOp ixT (fVar 0) (fVar 8))) (gtNm 9)
      (fIfS (fTest (fOp (dinT true) (fVar 9) (fVar 5)))
      (fSeqS (fDPut 5 (pVar 5) (fVar 9) (fVar 8))
      (fSeqS (fIfS (fTest (fOp (dinT false) (fVar 9) (fVar 3)))
      (fRet (fCB (Φ 1) (fCons (fVar 9) (fCons (fVar 5) fNil))))
      fNext)
      (fApp 6 (pVar 6) (fVar 9))))
      fNext)))))
      (fRet (fC .non))))))))
def s_1 (Φ : Nat → List T → Option T) (M : Nat) : FS :=
  (fSeqS (fOwn (fLst fNil) 2)
      (fSeqS (fSet (fVar 0) 3)
      (fSeqS (fWhile M (fTest (fOp (oNb isNT) (fVar 3) (fC .non)))
      (fSeqS (fApp 2 (pVar 2) (fVar 3))
      (fSet (fOp dgetT (fVar 1) (fVar 3)) 3)))
      (fSeqS (fRev 2 (pVar 2))
      (fRet (fVar 2))))))
def s_2 (Φ : Nat → List T → Option T) (M : Nat) : FS :=
  (fSeqS (fIfS (fTest (fOp ltT (fVar 1) (fCB lenT (fCons (fVar 0) fNil))))
      (fRet (fCB intT (fCons (fOp ixT (fVar 0) (fVar 1)) fNil)))
      fNext)
      (fRet (fC (.int 0))))
def s_3 (Φ : Nat → List T → Option T) (M : Nat) : FS :=
  (fSeqS (fSet (fCB (Φ 2) (fCons (fVar 0) (fCons (fVar 1) fNil))) 4)
      (fSeqS (fOwn (fLst fNil) 5)
      (fSeqS (fIfS (fTest (fOp geT (fVar 4) (fOp powT (fC (.int 10)) (fC (.int 18)))))
      (fSeqS (fSet (fOp subT (fVar 4) (fOp powT (fC (.int 10)) (fC (.int 18)))) 8)
      (fSeqS (fFor (fR1 (fVar 2)) (gtNm 7)
      (fSeqS (fApp 5 (pVar 5) (fOp modT (fCB intT (fCons (fVar 8) fNil)) (fVar 3)))
      (fSet (fOp fdivT (fVar 8) (fVar 3)) 8)))
      (fRet (fVar 5))))
      fNext)
      (fSeqS (fSet (fOp modT (fCB intT (fCons (fOp addT (fOp mulT (fVar 4) (fC (.int 48271))) (fOp mulT (fVar 1) (fC (.int 69621)))) fNil)) (fC (.int 2147483647))) 6)
      (fSeqS (fFor (fR1 (fVar 2)) (gtNm 7)
      (fSeqS (fSet (fOp modT (fCB intT (fCons (fOp addT (fOp addT (fOp mulT (fVar 6) (fC (.int 16807))) (fOp mulT (fVar 7) (fC (.int 48271)))) (fC (.int 12345))) fNil)) (fC (.int 2147483647))) 6)
      (fSeqS (fSet (fOp modT (fCB intT (fCons (fOp addT (fOp mulT (fVar 6) (fVar 6)) (fOp mulT (fVar 6) (fC (.int 69621)))) fNil)) (fC (.int 2147483629))) 9)
      (fApp 5 (pVar 5) (fOp modT (fCB intT (fCons (fOp fdivT (fVar 9) (fC (.int 16))) fNil)) (fVar 3))))))
      (fRet (fVar 5)))))))
def s_4 (Φ : Nat → List T → Option T) (M : Nat) : FS :=
  (fSeqS (fSet (fOp addT (fC (.int 1)) (fOp modT (fCB intT (fCons (fOp ixT (fVar 1) (fC (.int 1))) fNil)) (fC (.int 6)))) 2)
      (fSeqS (fIfS (fTest (fOp (oBl eqST) (fOp modT (fCB intT (fCons (fOp ixT (fVar 1) (fC (.int 0))) fNil)) (fC (.int 8))) (fC (.int 7))))
      (fSet (fOp addT (fC (.int 7)) (fOp modT (fCB intT (fCons (fOp ixT (fVar 1) (fC (.int 1))) fNil)) (fC (.int 6)))) 2)
      fNext)
      (fSeqS (fIfS (fTest (fOp (oBl eqST) (fOp modT (fCB intT (fCons (fOp ixT (fVar 1) (fC (.int 0))) fNil)) (fC (.int 24))) (fC (.int 6))))
      (fSet (fC (.int 0)) 2)
      fNext)
      (fSeqS (fSet (fOp ixT (fLst (fCons (fC (.int 1)) (fCons (fC (.int 2)) (fCons (fC (.int 2)) (fCons (fC (.int 3)) (fCons (fC (.int 4)) (fCons (fC (.int 7)) fNil))))))) (fOp modT (fCB intT (fCons (fOp ixT (fVar 1) (fC (.int 2))) fNil)) (fC (.int 6)))) 3)
      (fSeqS (fIfS (fTest (fOp gtT (fVar 2) (fC (.int 6))))
      (fSet (fOp addT (fC (.int 1)) (fOp fdivT (fVar 3) (fC (.int 4)))) 3)
      fNext)
      (fSeqS (fSet (fCB (Φ 3) (fCons (fVar 0) (fCons (fC (.int 1)) (fCons (fOp mulT (fVar 2) (fVar 2)) (fCons (fC (.int 12)) fNil))))) 4)
      (fSeqS (fOwn (fLst fNil) 5)
      (fSeqS (fFor (fR1 (fVar 2)) (gtNm 6)
      (fApp 5 (pVar 5) (fLc (fR1 (fVar 2)) 7 (fTest (fOp ltT (fOp ixT (fVar 4) (fOp addT (fOp mulT (fVar 6) (fVar 2)) (fVar 7))) (fVar 3))) (fVar 7) [7])))
      (fRet (fVar 5))))))))))
def s_5 (Φ : Nat → List T → Option T) (M : Nat) : FS :=
  (fSeqS (fSet (fOp addT (fC (.int 20)) (fOp modT (fCB intT (fCons (fOp ixT (fVar 1) (fC (.int 1))) fNil)) (fC (.int 41)))) 2)
      (fSeqS (fSet (fOp subT (fC (.int 1)) (fOp mulT (fC (.int 2)) (fOp modT (fCB intT (fCons (fOp ixT (fVar 1) (fC (.int 3))) fNil)) (fC (.int 2))))) 3)
      (fSeqS (fSet (fCB (Φ 3) (fCons (fVar 0) (fCons (fC (.int 1)) (fCons (fVar 2) (fCons (fC (.int 240)) fNil))))) 4)
      (fSeqS (fOwn (fLst fNil) 5)
      (fSeqS (fFor (fR1 (fVar 2)) (gtNm 6)
      (fSeqS (fOwn (fLst fNil) 7)
      (fSeqS (fIfS (fAnd (fTest (fOp ltT (fOp modT (fCB intT (fCons (fOp ixT (fVar 4) (fVar 6)) fNil)) (fC (.int 4))) (fC (.int 2)))) (fTest (fOp ltT (fOp fdivT (fOp ixT (fVar 4) (fVar 6)) (fC (.int 4))) (fVar 2))))
      (fApp 7 (pVar 7) (fOp fdivT (fOp ixT (fVar 4) (fVar 6)) (fC (.int 4))))
      fNext)
      (fSeqS (fIfS (fAnd (fTest (fOp gtT (fOp modT (fCB intT (fCons (fOp ixT (fVar 4) (fVar 6)) fNil)) (fC (.int 4))) (fC (.int 0)))) (fAnd (fTest (fChain leT ltT (fC (.int 0)) (fOp addT (fVar 6) (fVar 3)) (fVar 2))) (fTest (fOp (memDT true) (fOp addT (fVar 6) (fVar 3)) (fVar 7)))))
      (fApp 7 (pVar 7) (fOp addT (fVar 6) (fVar 3)))
      fNext)
      (fApp 5 (pVar 5) (fCB sortT (fCons (fVar 7) fNil)))))))
      (fRet (fVar 5)))))))
def s_6 (Φ : Nat → List T → Option T) (M : Nat) : FS :=
  (fSeqS (fSet (fCB (Φ 3) (fCons (fVar 0) (fCons (fVar 1) (fCons (fVar 2) (fCons (fC (.int 12)) fNil))))) 4)
      (fRet (fLc (fR1 (fVar 2)) 5 (fTest (fOp ltT (fOp ixT (fVar 4) (fVar 5)) (fVar 3))) (fVar 5) [5])))
def s_7 (Φ : Nat → List T → Option T) (M : Nat) : FS :=
  (fSeqS (fIfS (fTest (fOp (oBl eqST) (fOp modT (fCB intT (fCons (fVar 1) fNil)) (fC (.int 4))) (fC (.int 2))))
      (fRet (fUn lrevT (fVar 0)))
      fNext)
      (fSeqS (fIfS (fTest (fOp (oBl eqST) (fOp modT (fCB intT (fCons (fVar 1) fNil)) (fC (.int 4))) (fC (.int 3))))
      (fRet (fOp catT (fOp addT (fSl slT (fVar 0) (foSome (fC (.int 1))) foNone) (fVar 0)) (fSl slT (fVar 0) foNone (foSome (fC (.int 1))))))
      fNext)
      (fRet (fCB lstT (fCons (fVar 0) fNil)))))
def s_8 (Φ : Nat → List T → Option T) (M : Nat) : FS :=
  (fSeqS (fOwn (fCB (Φ 6) (fCons (fVar 0) (fCons (fVar 1) (fCons (fVar 2) (fCons (fOp ixT (fLst (fCons (fC (.int 1)) (fCons (fC (.int 2)) (fCons (fC (.int 4)) (fCons (fC (.int 12)) fNil))))) (fOp modT (fCB intT (fCons (fVar 3) fNil)) (fC (.int 4)))) fNil))))) 4)
      (fSeqS (fIfS (fAnd (fTest (fOp gtT (fVar 2) (fC (.int 0)))) (fTest (fOp gtT (fOp modT (fCB intT (fCons (fOp fdivT (fVar 3) (fC (.int 4))) fNil)) (fC (.int 6))) (fC (.int 0)))))
      (fSeqS (fSet (fOp modT (fCB intT (fCons (fOp fdivT (fVar 3) (fC (.int 24))) fNil)) (fVar 2)) 5)
      (fIfS (fTest (fOp (memDT true) (fVar 5) (fVar 4)))
      (fApp 4 (pVar 4) (fVar 5))
      fNext))
      fNext)
      (fRet (fVar 4))))
def s_9 (Φ : Nat → List T → Option T) (M : Nat) : FS :=
  (fRet (fAndV (fIsi Ty.int (fVar 0)) (fNotV (fIsi Ty.bool (fVar 0)))))
def s_10 (Φ : Nat → List T → Option T) (M : Nat) : FS :=
  (fSeqS (fIfS (fNot (fTest (fIsi Ty.list (fVar 0))))
      (fRet (fC (.bl false)))
      fNext)
      (fSeqS (fFor (fSeq (fVar 0)) (gtNm 2)
      (fIfS (fOr (fNot (fTest (fCB (Φ 9) (fCons (fVar 2) fNil)))) (fOr (fTest (fOp ltT (fVar 2) (fC (.int 0)))) (fTest (fOp geT (fVar 2) (fVar 1)))))
      (fRet (fC (.bl false)))
      fNext))
      (fRet (fC (.bl true)))))
def s_11 (Φ : Nat → List T → Option T) (M : Nat) : FS :=
  (fSeqS (fFor (fR2 (fC (.int 1)) (fCB lenT (fCons (fVar 1) fNil))) (gtNm 2)
      (fIfS (fTest (fOp (memDT true) (fOp ixT (fVar 1) (fVar 2)) (fOp ixT (fVar 0) (fOp ixT (fVar 1) (fOp subT (fVar 2) (fC (.int 1)))))))
      (fRet (fC (.bl false)))
      fNext))
      (fRet (fC (.bl true))))
def s_12 (Φ : Nat → List T → Option T) (M : Nat) : FS :=
  (fSeqS (fFor (fSeq (fVar 0)) (gtNm 2)
      (fIfS (fTest (fOp (memDT false) (fVar 2) (fVar 1)))
      (fRet (fC (.bl true)))
      fNext))
      (fRet (fC (.bl false))))
def s_13 (Φ : Nat → List T → Option T) (M : Nat) : FS :=
  (fRet (fLc (fSeq (fVar 0)) 1 fYes (fCB lstT (fCons (fVar 1) fNil)) [1]))
def s_14 (Φ : Nat → List T → Option T) (M : Nat) : FS :=
  (fSeqS (fOwn (fLst fNil) 3)
      (fSeqS (fOwn (fLst fNil) 4)
      (fSeqS (fFor (fSeq (fVar 1)) (gtNm 5)
      (fIfS (fTest (fOp (memDT true) (fVar 5) (fVar 3)))
      (fSeqS (fApp 3 (pVar 3) (fVar 5))
      (fApp 4 (pVar 4) (fVar 5)))
      fNext))
      (fSeqS (fFor (fR1 (fCB lenT (fCons (fVar 0) fNil))) (gtNm 6)
      (fSeqS (fIfS (fTest (fCB (Φ 12) (fCons (fVar 4) (fCons (fVar 2) fNil))))
      (fRet (fOp addT (fVar 6) (fC (.int 1))))
      fNext)
      (fSeqS (fOwn (fLst fNil) 7)
      (fSeqS (fFor (fSeq (fVar 4)) (gtNm 8)
      (fFor (fSeq (fOp ixT (fVar 0) (fVar 8))) (gtNm 5)
      (fIfS (fTest (fOp (memDT true) (fVar 5) (fVar 3)))
      (fSeqS (fApp 3 (pVar 3) (fVar 5))
      (fApp 7 (pVar 7) (fVar 5)))
      fNext)))
      (fSet (fVar 7) 4)))))
      (fRet (fC (.int 0)))))))
def s_15 (Φ : Nat → List T → Option T) (M : Nat) : FS :=
  (fSeqS (fSet (fCB (Φ 3) (fCons (fVar 0) (fCons (fC (.int 0)) (fCons (fC (.int 8)) (fCons (fC (.int 840)) fNil))))) 1)
      (fSeqS (fSet (fCB (Φ 4) (fCons (fVar 0) (fCons (fVar 1) fNil))) 2)
      (fSeqS (fIfS (fTest (fOp (oBl eqST) (fOp modT (fCB intT (fCons (fOp ixT (fVar 1) (fC (.int 0))) fNil)) (fC (.int 8))) (fC (.int 5))))
      (fSet (fCB (Φ 5) (fCons (fVar 0) (fCons (fVar 1) fNil))) 2)
      fNext)
      (fSeqS (fSet (fCB (Φ 7) (fCons (fCB (Φ 8) (fCons (fVar 0) (fCons (fC (.int 2)) (fCons (fCB lenT (fCons (fVar 2) fNil)) (fCons (fOp ixT (fVar 1) (fC (.int 4))) fNil))))) (fCons (fOp ixT (fVar 1) (fC (.int 5))) fNil))) 3)
      (fSeqS (fSet (fCB (Φ 7) (fCons (fCB (Φ 8) (fCons (fVar 0) (fCons (fC (.int 3)) (fCons (fCB lenT (fCons (fVar 2) fNil)) (fCons (fOp ixT (fVar 1) (fC (.int 6))) fNil))))) (fCons (fOp ixT (fVar 1) (fC (.int 7))) fNil))) 4)
      (fSeqS (fSet (fLst (fCons (fCB (Φ 13) (fCons (fVar 2) fNil)) (fCons (fCB lstT (fCons (fVar 3) fNil)) (fCons (fCB lstT (fCons (fVar 4) fNil)) fNil)))) 5)
      (fSeqS (fOwn (fCB (Φ 0) (fCons (fOp ixT (fVar 5) (fC (.int 0))) (fCons (fOp ixT (fVar 5) (fC (.int 1))) (fCons (fOp ixT (fVar 5) (fC (.int 2))) fNil)))) 6)
      (fSeqS (fSet (fCB (Φ 14) (fCons (fVar 2) (fCons (fVar 3) (fCons (fVar 4) fNil)))) 7)
      (fSeqS (fIfS (fTest (fOp (oBl eqST) (fVar 7) (fC (.int 0))))
      (fRet (fAndV (fOp (oBl isNT) (fVar 6) (fC .non)) (fAndV (fOp (oBl eqT) (fOp ixT (fVar 5) (fC (.int 0))) (fVar 2)) (fAndV (fOp (oBl eqT) (fOp ixT (fVar 5) (fC (.int 1))) (fVar 3)) (fOp (oBl eqT) (fOp ixT (fVar 5) (fC (.int 2))) (fVar 4))))))
      fNext)
      (fSeqS (fIfS (fOr (fNot (fTest (fCBF (Φ 10) (fCons (fVar 6) (fCons (fCB lenT (fCons (fVar 2) fNil)) fNil))))) (fTest (fOp (oNb eqT) (fCB lenT (fCons (fVar 6) fNil)) (fVar 7))))
      (fRet (fC (.bl false)))
      fNext)
      (fSeqS (fIfS (fOr (fTest (fOp (memDT true) (fOp ixT (fVar 6) (fC (.int 0))) (fVar 3))) (fOr (fTest (fOp (memDT true) (fOp ixT (fVar 6) (fOp subT (fVar 7) (fC (.int 1)))) (fVar 4))) (fNot (fTest (fCBF (Φ 11) (fCons (fVar 2) (fCons (fVar 6) fNil)))))))
      (fRet (fC (.bl false)))
      fNext)
      (fSeqS (fApp 6 (pSome (pVar 6)) (fUn negT (fC (.int 1))))
      (fRet (fAndV (fOp (oBl eqT) (fOp ixT (fVar 5) (fC (.int 0))) (fVar 2)) (fAndV (fOp (oBl eqT) (fOp ixT (fVar 5) (fC (.int 1))) (fVar 3)) (fOp (oBl eqT) (fOp ixT (fVar 5) (fC (.int 2))) (fVar 4)))))))))))))))))
section
def fuB (M : Nat) (Φ : Nat → List T → Option T) : Nat → List T → Option T
  | 0 => funT true 3 11 (s_0 Φ M)
  | 1 => funT true 2 4 (s_1 Φ M)
  | 2 => funT false 2 2 (s_2 Φ M)
  | 3 => funT true 4 10 (s_3 Φ M)
  | 4 => funT true 2 8 (s_4 Φ M)
  | 5 => funT true 2 8 (s_5 Φ M)
  | 6 => funT true 4 6 (s_6 Φ M)
  | 7 => funT true 2 2 (s_7 Φ M)
  | 8 => funT true 4 6 (s_8 Φ M)
  | 9 => funT false 1 1 (s_9 Φ M)
  | 10 => funT false 2 3 (s_10 Φ M)
  | 11 => funT false 2 3 (s_11 Φ M)
  | 12 => funT false 2 3 (s_12 Φ M)
  | 13 => funT true 1 2 (s_13 Φ M)
  | 14 => funT false 3 9 (s_14 Φ M)
  | 15 => funT false 1 8 (s_15 Φ M)
  | _ => fun _ => none
def fu (M : Nat) : Nat → Nat → List T → Option T
  | 0 => fun _ _ => none
  | k + 1 => fuB M (fu M k)
theorem u_0 {M k : Nat} {xs : List T} : fu M (k + 1) 0 xs = funT true 3 11 (s_0 (fu M k) M) xs := rfl
theorem u_1 {M k : Nat} {xs : List T} : fu M (k + 1) 1 xs = funT true 2 4 (s_1 (fu M k) M) xs := rfl
theorem u_2 {M k : Nat} {xs : List T} : fu M (k + 1) 2 xs = funT false 2 2 (s_2 (fu M k) M) xs := rfl
theorem u_3 {M k : Nat} {xs : List T} : fu M (k + 1) 3 xs = funT true 4 10 (s_3 (fu M k) M) xs := rfl
theorem u_4 {M k : Nat} {xs : List T} : fu M (k + 1) 4 xs = funT true 2 8 (s_4 (fu M k) M) xs := rfl
theorem u_5 {M k : Nat} {xs : List T} : fu M (k + 1) 5 xs = funT true 2 8 (s_5 (fu M k) M) xs := rfl
theorem u_6 {M k : Nat} {xs : List T} : fu M (k + 1) 6 xs = funT true 4 6 (s_6 (fu M k) M) xs := rfl
theorem u_7 {M k : Nat} {xs : List T} : fu M (k + 1) 7 xs = funT true 2 2 (s_7 (fu M k) M) xs := rfl
theorem u_8 {M k : Nat} {xs : List T} : fu M (k + 1) 8 xs = funT true 4 6 (s_8 (fu M k) M) xs := rfl
theorem u_9 {M k : Nat} {xs : List T} : fu M (k + 1) 9 xs = funT false 1 1 (s_9 (fu M k) M) xs := rfl
theorem u_10 {M k : Nat} {xs : List T} : fu M (k + 1) 10 xs = funT false 2 3 (s_10 (fu M k) M) xs := rfl
theorem u_11 {M k : Nat} {xs : List T} : fu M (k + 1) 11 xs = funT false 2 3 (s_11 (fu M k) M) xs := rfl
theorem u_12 {M k : Nat} {xs : List T} : fu M (k + 1) 12 xs = funT false 2 3 (s_12 (fu M k) M) xs := rfl
theorem u_13 {M k : Nat} {xs : List T} : fu M (k + 1) 13 xs = funT true 1 2 (s_13 (fu M k) M) xs := rfl
theorem u_14 {M k : Nat} {xs : List T} : fu M (k + 1) 14 xs = funT false 3 9 (s_14 (fu M k) M) xs := rfl
theorem u_15 {M k : Nat} {xs : List T} : fu M (k + 1) 15 xs = funT false 1 8 (s_15 (fu M k) M) xs := rfl
structure Sims (M k : Nat) : Prop where
  f0 : SF (.m (.l .s)) (fn M k 0) (fu M k 0)
  f1 : SF (.l .s) (fn M k 1) (fu M k 1)
  f2 : SF .s (fn M k 2) (fu M k 2)
  f3 : SF (.l .s) (fn M k 3) (fu M k 3)
  f4 : SF (.l .s) (fn M k 4) (fu M k 4)
  f5 : SF (.l .s) (fn M k 5) (fu M k 5)
  f6 : SF (.l .s) (fn M k 6) (fu M k 6)
  f7 : SF (.l .s) (fn M k 7) (fu M k 7)
  f8 : SF (.l .s) (fn M k 8) (fu M k 8)
  f9 : SF .s (fn M k 9) (fu M k 9)
  f10 : SF .s (fn M k 10) (fu M k 10)
  f11 : SF .s (fn M k 11) (fu M k 11)
  f12 : SF .s (fn M k 12) (fu M k 12)
  f13 : SF (.l .s) (fn M k 13) (fu M k 13)
  f14 : SF .s (fn M k 14) (fu M k 14)
  f15 : SF .s (fn M k 15) (fu M k 15)
theorem q_0 {M k : Nat} (H : Sims M k) : SF (.m (.l .s)) (fn M (k + 1) 0) (fu M (k + 1) 0) := by
  show SF (.m (.l .s)) (runF 3 11 (b_0 (fn M k) M)) (funT true 3 11 (s_0 (fu M k) M))
  refine sf_def (wn := []) (wl := []) ?_ (.inr rfl)
  unfold b_0 s_0
  exact (ss_seq (ss_set (SX.se (sx_dc (si_seq (se_var (by decide))) st_yes (se_var (by decide)) (se_c fun _ _ => val_bl.mpr rfl) (by decide) (by decide))) (by decide) (by decide))
      (ss_seq (ss_for (si_seq (se_var (by decide))) (sg_name (by decide) (by decide))
      (ss_if (st_test (SE.sn (se_din (sb_var (by decide)) (sb_var (by decide)))))
      (ss_ret (sx_mS (sx_lstS (sa_cons (se_var (by decide)) sa_nil))) (by simp))
      ss_next))
      (ss_seq (ss_own (sh := (.d .s)) (sx_dc (si_seq (se_var (by decide))) st_yes (se_var (by decide)) (se_c fun _ _ => val_non.mpr rfl) (by decide) (by decide)) (by decide) (by decide))
      (ss_seq (ss_own (sh := (.l .s)) (sx_cb x_dkeys (sba_cons (sb_var (by decide)) sba_nil)) (by decide) (by decide))
      (ss_seq (ss_set (se_c fun _ _ => val_int.mpr rfl) (by decide) (by decide))
      (ss_seq (ss_while (st_test (SE.sn (se_opF o_lt fr_lt sn_var (SE.sn (se_cbF c_len fc_len (sna_cons sn_var sna_nil))))))
      (ss_seq (ss_set (se_op o_ix (sb_var (by decide)) (sb_var (by decide))) (by decide) (by decide))
      (ss_seq (ss_addI (SE.sn (se_c fun _ _ => val_int.mpr rfl)) (by decide) (by decide))
      (ss_for (si_seq (se_op o_ix (sb_var (by decide)) (sb_var (by decide)))) (sg_name (by decide) (by decide))
      (ss_if (st_test (SE.sn (se_din (sb_var (by decide)) (sb_var (by decide)))))
      (ss_seq (ss_dput (sp_var (sh := (.d .s)) (by simp)) sn_var (SE.sx (se_var (by decide))))
      (ss_seq (ss_if (st_test (SE.sn (se_din (sb_var (by decide)) (sb_var (by decide)))))
      (ss_ret (sx_mS (sx_call H.f1 (sa_cons (se_var (by decide)) (sa_cons (se_var (by decide)) sa_nil)))) (by simp))
      ss_next)
      (ss_app (sp_var (sh := (.l .s)) (by simp)) (SE.sx (se_var (by decide))))))
      ss_next)))))
      (ss_ret sx_mN (by simp))))))))
theorem q_1 {M k : Nat} (H : Sims M k) : SF (.l .s) (fn M (k + 1) 1) (fu M (k + 1) 1) := by
  show SF (.l .s) (runF 2 4 (b_1 (fn M k) M)) (funT true 2 4 (s_1 (fu M k) M))
  refine sf_def (wn := []) (wl := []) ?_ (.inr rfl)
  unfold b_1 s_1
  exact (ss_seq (ss_own (sh := (.l .s)) (sx_lstS sa_nil) (by decide) (by decide))
      (ss_seq (ss_set (se_var (by decide)) (by decide) (by decide))
      (ss_seq (ss_while (st_test (SE.sn (se_opF o_ntN fr_nb sn_var (SE.sn (se_c fun _ _ => val_non.mpr rfl)))))
      (ss_seq (ss_app (sp_var (sh := (.l .s)) (by simp)) (SE.sx (se_var (by decide))))
      (ss_set (se_dget (sb_var (by decide)) (sb_var (by decide))) (by decide) (by decide))))
      (ss_seq (ss_rev (sp_var (sh := (.l .s)) (by simp)))
      (ss_retO (by simp) (by simp) (by simp))))))
theorem q_2 {M k : Nat} (H : Sims M k) : SF .s (fn M (k + 1) 2) (fu M (k + 1) 2) := by
  show SF .s (runF 2 2 (b_2 (fn M k) M)) (funT false 2 2 (s_2 (fu M k) M))
  refine sf_def (wn := []) (wl := []) ?_ (.inl rfl)
  unfold b_2 s_2
  exact (ss_seq (ss_if (st_test (SE.sn (se_opF o_lt fr_lt sn_var (SE.sn (se_cbF c_len fc_len (sna_cons sn_var sna_nil))))))
      (ss_ret (SE.sx (se_cbF c_int fc_int (sna_cons (SE.sn (se_op o_ix (sb_var (by decide)) (sb_var (by decide)))) sna_nil))) (by simp))
      ss_next)
      (ss_ret (SE.sx (se_c fun _ _ => val_int.mpr rfl)) (by simp)))
theorem q_3 {M k : Nat} (H : Sims M k) : SF (.l .s) (fn M (k + 1) 3) (fu M (k + 1) 3) := by
  show SF (.l .s) (runF 4 10 (b_3 (fn M k) M)) (funT true 4 10 (s_3 (fu M k) M))
  refine sf_def (wn := []) (wl := []) ?_ (.inr rfl)
  unfold b_3 s_3
  exact (ss_seq (ss_set (se_call H.f2 (sa_cons (se_var (by decide)) (sa_cons (se_var (by decide)) sa_nil))) (by decide) (by decide))
      (ss_seq (ss_own (sh := (.l .s)) (sx_lstS sa_nil) (by decide) (by decide))
      (ss_seq (ss_if (st_test (SE.sn (se_opF o_ge fr_ge sn_var (SE.sn (se_opF o_pow fr_pow (SE.sn (se_c fun _ _ => val_int.mpr rfl)) (SE.sn (se_c fun _ _ => val_int.mpr rfl)))))))
      (ss_seq (ss_set (se_opF o_sub fr_sub sn_var (SE.sn (se_opF o_pow fr_pow (SE.sn (se_c fun _ _ => val_int.mpr rfl)) (SE.sn (se_c fun _ _ => val_int.mpr rfl))))) (by decide) (by decide))
      (ss_seq (ss_for (si_r1 sn_var) (sg_name (by decide) (by decide))
      (ss_seq (ss_app (sp_var (sh := (.l .s)) (by simp)) (SE.sx (se_opF o_mod fr_mod (SE.sn (se_cbF c_int fc_int (sna_cons sn_var sna_nil))) sn_var)))
      (ss_set (se_opF o_fdiv fr_fdiv sn_var sn_var) (by decide) (by decide))))
      (ss_retO (by simp) (by simp) (by simp))))
      ss_next)
      (ss_seq (ss_set (se_opF o_mod fr_mod (SE.sn (se_cbF c_int fc_int (sna_cons (SE.sn (se_op o_add (SE.sb (se_op o_mul (sb_var (by decide)) (SE.sb (se_c fun _ _ => val_int.mpr rfl)))) (SE.sb (se_op o_mul (sb_var (by decide)) (SE.sb (se_c fun _ _ => val_int.mpr rfl)))))) sna_nil))) (SE.sn (se_c fun _ _ => val_int.mpr rfl))) (by decide) (by decide))
      (ss_seq (ss_for (si_r1 sn_var) (sg_name (by decide) (by decide))
      (ss_seq (ss_set (se_opF o_mod fr_mod (SE.sn (se_cbF c_int fc_int (sna_cons (SE.sn (se_op o_add (SE.sb (se_op o_add (SE.sb (se_op o_mul (sb_var (by decide)) (SE.sb (se_c fun _ _ => val_int.mpr rfl)))) (SE.sb (se_op o_mul (sb_var (by decide)) (SE.sb (se_c fun _ _ => val_int.mpr rfl)))))) (SE.sb (se_c fun _ _ => val_int.mpr rfl)))) sna_nil))) (SE.sn (se_c fun _ _ => val_int.mpr rfl))) (by decide) (by decide))
      (ss_seq (ss_set (se_opF o_mod fr_mod (SE.sn (se_cbF c_int fc_int (sna_cons (SE.sn (se_op o_add (SE.sb (se_op o_mul (sb_var (by decide)) (sb_var (by decide)))) (SE.sb (se_op o_mul (sb_var (by decide)) (SE.sb (se_c fun _ _ => val_int.mpr rfl)))))) sna_nil))) (SE.sn (se_c fun _ _ => val_int.mpr rfl))) (by decide) (by decide))
      (ss_app (sp_var (sh := (.l .s)) (by simp)) (SE.sx (se_opF o_mod fr_mod (SE.sn (se_cbF c_int fc_int (sna_cons (SE.sn (se_opF o_fdiv fr_fdiv sn_var (SE.sn (se_c fun _ _ => val_int.mpr rfl)))) sna_nil))) sn_var))))))
      (ss_retO (by simp) (by simp) (by simp)))))))
theorem q_4 {M k : Nat} (H : Sims M k) : SF (.l .s) (fn M (k + 1) 4) (fu M (k + 1) 4) := by
  show SF (.l .s) (runF 2 8 (b_4 (fn M k) M)) (funT true 2 8 (s_4 (fu M k) M))
  refine sf_def (wn := []) (wl := []) ?_ (.inr rfl)
  unfold b_4 s_4
  exact (ss_seq (ss_set (se_op o_add (SE.sb (se_c fun _ _ => val_int.mpr rfl)) (SE.sb (se_opF o_mod fr_mod (SE.sn (se_cbF c_int fc_int (sna_cons (SE.sn (se_op o_ix (sb_var (by decide)) (SE.sb (se_c fun _ _ => val_int.mpr rfl)))) sna_nil))) (SE.sn (se_c fun _ _ => val_int.mpr rfl))))) (by decide) (by decide))
      (ss_seq (ss_if (st_test (SE.sn (se_opF o_eq fr_bl (SE.sn (se_opF o_mod fr_mod (SE.sn (se_cbF c_int fc_int (sna_cons (SE.sn (se_op o_ix (sb_var (by decide)) (SE.sb (se_c fun _ _ => val_int.mpr rfl)))) sna_nil))) (SE.sn (se_c fun _ _ => val_int.mpr rfl)))) (SE.sn (se_c fun _ _ => val_int.mpr rfl)))))
      (ss_set (se_op o_add (SE.sb (se_c fun _ _ => val_int.mpr rfl)) (SE.sb (se_opF o_mod fr_mod (SE.sn (se_cbF c_int fc_int (sna_cons (SE.sn (se_op o_ix (sb_var (by decide)) (SE.sb (se_c fun _ _ => val_int.mpr rfl)))) sna_nil))) (SE.sn (se_c fun _ _ => val_int.mpr rfl))))) (by decide) (by decide))
      ss_next)
      (ss_seq (ss_if (st_test (SE.sn (se_opF o_eq fr_bl (SE.sn (se_opF o_mod fr_mod (SE.sn (se_cbF c_int fc_int (sna_cons (SE.sn (se_op o_ix (sb_var (by decide)) (SE.sb (se_c fun _ _ => val_int.mpr rfl)))) sna_nil))) (SE.sn (se_c fun _ _ => val_int.mpr rfl)))) (SE.sn (se_c fun _ _ => val_int.mpr rfl)))))
      (ss_set (se_c fun _ _ => val_int.mpr rfl) (by decide) (by decide))
      ss_next)
      (ss_seq (ss_set (se_op o_ix (SE.sb (SX.se (sx_lstS (sa_cons (se_c fun _ _ => val_int.mpr rfl) (sa_cons (se_c fun _ _ => val_int.mpr rfl) (sa_cons (se_c fun _ _ => val_int.mpr rfl) (sa_cons (se_c fun _ _ => val_int.mpr rfl) (sa_cons (se_c fun _ _ => val_int.mpr rfl) (sa_cons (se_c fun _ _ => val_int.mpr rfl) sa_nil))))))))) (SE.sb (se_opF o_mod fr_mod (SE.sn (se_cbF c_int fc_int (sna_cons (SE.sn (se_op o_ix (sb_var (by decide)) (SE.sb (se_c fun _ _ => val_int.mpr rfl)))) sna_nil))) (SE.sn (se_c fun _ _ => val_int.mpr rfl))))) (by decide) (by decide))
      (ss_seq (ss_if (st_test (SE.sn (se_opF o_gt fr_gt sn_var (SE.sn (se_c fun _ _ => val_int.mpr rfl)))))
      (ss_set (se_op o_add (SE.sb (se_c fun _ _ => val_int.mpr rfl)) (SE.sb (se_opF o_fdiv fr_fdiv sn_var (SE.sn (se_c fun _ _ => val_int.mpr rfl))))) (by decide) (by decide))
      ss_next)
      (ss_seq (ss_set (se_call H.f3 (sa_cons (se_var (by decide)) (sa_cons (se_c fun _ _ => val_int.mpr rfl) (sa_cons (se_op o_mul (sb_var (by decide)) (sb_var (by decide))) (sa_cons (se_c fun _ _ => val_int.mpr rfl) sa_nil))))) (by decide) (by decide))
      (ss_seq (ss_own (sh := (.l .s)) (sx_lstS sa_nil) (by decide) (by decide))
      (ss_seq (ss_for (si_r1 sn_var) (sg_name (by decide) (by decide))
      (ss_app (sp_var (sh := (.l .s)) (by simp)) (SE.sx (SX.se (sx_lc (si_r1 sn_var) (st_test (SE.sn (se_opF o_lt fr_lt (SE.sn (se_op o_ix (sb_var (by decide)) (SE.sb (se_op o_add (SE.sb (se_op o_mul (sb_var (by decide)) (sb_var (by decide)))) (sb_var (by decide)))))) sn_var))) (SE.sx (se_var (by decide))) (by decide) (by decide))))))
      (ss_retO (by simp) (by simp) (by simp))))))))))
theorem q_5 {M k : Nat} (H : Sims M k) : SF (.l .s) (fn M (k + 1) 5) (fu M (k + 1) 5) := by
  show SF (.l .s) (runF 2 8 (b_5 (fn M k) M)) (funT true 2 8 (s_5 (fu M k) M))
  refine sf_def (wn := []) (wl := []) ?_ (.inr rfl)
  unfold b_5 s_5
  exact (ss_seq (ss_set (se_op o_add (SE.sb (se_c fun _ _ => val_int.mpr rfl)) (SE.sb (se_opF o_mod fr_mod (SE.sn (se_cbF c_int fc_int (sna_cons (SE.sn (se_op o_ix (sb_var (by decide)) (SE.sb (se_c fun _ _ => val_int.mpr rfl)))) sna_nil))) (SE.sn (se_c fun _ _ => val_int.mpr rfl))))) (by decide) (by decide))
      (ss_seq (ss_set (se_opF o_sub fr_sub (SE.sn (se_c fun _ _ => val_int.mpr rfl)) (SE.sn (se_op o_mul (SE.sb (se_c fun _ _ => val_int.mpr rfl)) (SE.sb (se_opF o_mod fr_mod (SE.sn (se_cbF c_int fc_int (sna_cons (SE.sn (se_op o_ix (sb_var (by decide)) (SE.sb (se_c fun _ _ => val_int.mpr rfl)))) sna_nil))) (SE.sn (se_c fun _ _ => val_int.mpr rfl))))))) (by decide) (by decide))
      (ss_seq (ss_set (se_call H.f3 (sa_cons (se_var (by decide)) (sa_cons (se_c fun _ _ => val_int.mpr rfl) (sa_cons (se_var (by decide)) (sa_cons (se_c fun _ _ => val_int.mpr rfl) sa_nil))))) (by decide) (by decide))
      (ss_seq (ss_own (sh := (.l .s)) (sx_lstS sa_nil) (by decide) (by decide))
      (ss_seq (ss_for (si_r1 sn_var) (sg_name (by decide) (by decide))
      (ss_weak (wn' := [(5, (.l .s))]) (ss_seq (ss_own (sh := (.l .s)) (sx_lstS sa_nil) (by decide) (by decide))
      (ss_seq (ss_if (st_and (st_test (SE.sn (se_opF o_lt fr_lt (SE.sn (se_opF o_mod fr_mod (SE.sn (se_cbF c_int fc_int (sna_cons (SE.sn (se_op o_ix (sb_var (by decide)) (sb_var (by decide)))) sna_nil))) (SE.sn (se_c fun _ _ => val_int.mpr rfl)))) (SE.sn (se_c fun _ _ => val_int.mpr rfl))))) (st_test (SE.sn (se_opF o_lt fr_lt (SE.sn (se_opF o_fdiv fr_fdiv (SE.sn (se_op o_ix (sb_var (by decide)) (sb_var (by decide)))) (SE.sn (se_c fun _ _ => val_int.mpr rfl)))) sn_var))))
      (ss_app (sp_var (sh := (.l .s)) (by simp)) (SE.sx (se_opF o_fdiv fr_fdiv (SE.sn (se_op o_ix (sb_var (by decide)) (sb_var (by decide)))) (SE.sn (se_c fun _ _ => val_int.mpr rfl)))))
      ss_next)
      (ss_seq (ss_if (st_and (st_test (SE.sn (se_opF o_gt fr_gt (SE.sn (se_opF o_mod fr_mod (SE.sn (se_cbF c_int fc_int (sna_cons (SE.sn (se_op o_ix (sb_var (by decide)) (sb_var (by decide)))) sna_nil))) (SE.sn (se_c fun _ _ => val_int.mpr rfl)))) (SE.sn (se_c fun _ _ => val_int.mpr rfl))))) (st_and (st_test (SE.sn (se_chain o_le o_lt fr_lt (SE.sn (se_c fun _ _ => val_int.mpr rfl)) (SE.sn (se_op o_add (sb_var (by decide)) (sb_var (by decide)))) sn_var))) (st_test (SE.sn (se_opF (o_inD true) fr_memD (SE.sn (se_op o_add (sb_var (by decide)) (sb_var (by decide)))) sn_var)))))
      (ss_app (sp_var (sh := (.l .s)) (by simp)) (SE.sx (se_op o_add (sb_var (by decide)) (sb_var (by decide)))))
      ss_next)
      (ss_app (sp_var (sh := (.l .s)) (by simp)) (SE.sx (SX.se (sx_cb x_sort (sba_cons (sb_var (by decide)) sba_nil)))))))) (by simp) (fun _ z => z)))
      (ss_retO (by simp) (by simp) (by simp)))))))
theorem q_6 {M k : Nat} (H : Sims M k) : SF (.l .s) (fn M (k + 1) 6) (fu M (k + 1) 6) := by
  show SF (.l .s) (runF 4 6 (b_6 (fn M k) M)) (funT true 4 6 (s_6 (fu M k) M))
  refine sf_def (wn := []) (wl := []) ?_ (.inr rfl)
  unfold b_6 s_6
  exact (ss_seq (ss_set (se_call H.f3 (sa_cons (se_var (by decide)) (sa_cons (se_var (by decide)) (sa_cons (se_var (by decide)) (sa_cons (se_c fun _ _ => val_int.mpr rfl) sa_nil))))) (by decide) (by decide))
      (ss_ret (sx_lc (si_r1 sn_var) (st_test (SE.sn (se_opF o_lt fr_lt (SE.sn (se_op o_ix (sb_var (by decide)) (sb_var (by decide)))) sn_var))) (SE.sx (se_var (by decide))) (by decide) (by decide)) (by simp)))
theorem q_7 {M k : Nat} (H : Sims M k) : SF (.l .s) (fn M (k + 1) 7) (fu M (k + 1) 7) := by
  show SF (.l .s) (runF 2 2 (b_7 (fn M k) M)) (funT true 2 2 (s_7 (fu M k) M))
  refine sf_def (wn := []) (wl := []) ?_ (.inr rfl)
  unfold b_7 s_7
  exact (ss_seq (ss_if (st_test (SE.sn (se_opF o_eq fr_bl (SE.sn (se_opF o_mod fr_mod (SE.sn (se_cbF c_int fc_int (sna_cons sn_var sna_nil))) (SE.sn (se_c fun _ _ => val_int.mpr rfl)))) (SE.sn (se_c fun _ _ => val_int.mpr rfl)))))
      (ss_ret (sx_un x_lrev (sb_var (by decide))) (by simp))
      ss_next)
      (ss_seq (ss_if (st_test (SE.sn (se_opF o_eq fr_bl (SE.sn (se_opF o_mod fr_mod (SE.sn (se_cbF c_int fc_int (sna_cons sn_var sna_nil))) (SE.sn (se_c fun _ _ => val_int.mpr rfl)))) (SE.sn (se_c fun _ _ => val_int.mpr rfl)))))
      (ss_ret (sx_op x_cat (SE.sb (se_op o_add (SE.sb (se_sl (sb_var (by decide)) (so_some (SE.sn (se_c fun _ _ => val_int.mpr rfl))) so_none)) (sb_var (by decide)))) (SE.sb (se_sl (sb_var (by decide)) so_none (so_some (SE.sn (se_c fun _ _ => val_int.mpr rfl)))))) (by simp))
      ss_next)
      (ss_ret (sx_cb x_lst (sba_cons (sb_var (by decide)) sba_nil)) (by simp))))
theorem q_8 {M k : Nat} (H : Sims M k) : SF (.l .s) (fn M (k + 1) 8) (fu M (k + 1) 8) := by
  show SF (.l .s) (runF 4 6 (b_8 (fn M k) M)) (funT true 4 6 (s_8 (fu M k) M))
  refine sf_def (wn := []) (wl := []) ?_ (.inr rfl)
  unfold b_8 s_8
  exact (ss_seq (ss_own (sh := (.l .s)) (sx_call H.f6 (sa_cons (se_var (by decide)) (sa_cons (se_var (by decide)) (sa_cons (se_var (by decide)) (sa_cons (se_op o_ix (SE.sb (SX.se (sx_lstS (sa_cons (se_c fun _ _ => val_int.mpr rfl) (sa_cons (se_c fun _ _ => val_int.mpr rfl) (sa_cons (se_c fun _ _ => val_int.mpr rfl) (sa_cons (se_c fun _ _ => val_int.mpr rfl) sa_nil))))))) (SE.sb (se_opF o_mod fr_mod (SE.sn (se_cbF c_int fc_int (sna_cons sn_var sna_nil))) (SE.sn (se_c fun _ _ => val_int.mpr rfl))))) sa_nil))))) (by decide) (by decide))
      (ss_seq (ss_if (st_and (st_test (SE.sn (se_opF o_gt fr_gt sn_var (SE.sn (se_c fun _ _ => val_int.mpr rfl))))) (st_test (SE.sn (se_opF o_gt fr_gt (SE.sn (se_opF o_mod fr_mod (SE.sn (se_cbF c_int fc_int (sna_cons (SE.sn (se_opF o_fdiv fr_fdiv sn_var (SE.sn (se_c fun _ _ => val_int.mpr rfl)))) sna_nil))) (SE.sn (se_c fun _ _ => val_int.mpr rfl)))) (SE.sn (se_c fun _ _ => val_int.mpr rfl))))))
      (ss_seq (ss_set (se_opF o_mod fr_mod (SE.sn (se_cbF c_int fc_int (sna_cons (SE.sn (se_opF o_fdiv fr_fdiv sn_var (SE.sn (se_c fun _ _ => val_int.mpr rfl)))) sna_nil))) sn_var) (by decide) (by decide))
      (ss_if (st_test (SE.sn (se_opF (o_inD true) fr_memD sn_var sn_var)))
      (ss_app (sp_var (sh := (.l .s)) (by simp)) (SE.sx (se_var (by decide))))
      ss_next))
      ss_next)
      (ss_retO (by simp) (by simp) (by simp))))
theorem q_9 {M k : Nat} (H : Sims M k) : SF .s (fn M (k + 1) 9) (fu M (k + 1) 9) := by
  show SF .s (runF 1 1 (b_9 (fn M k) M)) (funT false 1 1 (s_9 (fu M k) M))
  refine sf_def (wn := []) (wl := []) ?_ (.inl rfl)
  unfold b_9 s_9
  exact (ss_ret (SE.sx (se_and (SE.sn (se_isi sn_var)) (se_not (SE.sn (se_isi sn_var))))) (by simp))
theorem q_10 {M k : Nat} (H : Sims M k) : SF .s (fn M (k + 1) 10) (fu M (k + 1) 10) := by
  show SF .s (runF 2 3 (b_10 (fn M k) M)) (funT false 2 3 (s_10 (fu M k) M))
  refine sf_def (wn := []) (wl := []) ?_ (.inl rfl)
  unfold b_10 s_10
  exact (ss_seq (ss_if (st_not (st_test (SE.sn (se_isi sn_var))))
      (ss_ret (SE.sx (se_c fun _ _ => val_bl.mpr rfl)) (by simp))
      ss_next)
      (ss_seq (ss_for (si_seq (se_var (by decide))) (sg_name (by decide) (by decide))
      (ss_if (st_or (st_not (st_test (SE.sn (se_call H.f9 (sa_cons (se_var (by decide)) sa_nil))))) (st_or (st_test (SE.sn (se_opF o_lt fr_lt sn_var (SE.sn (se_c fun _ _ => val_int.mpr rfl))))) (st_test (SE.sn (se_opF o_ge fr_ge sn_var sn_var)))))
      (ss_ret (SE.sx (se_c fun _ _ => val_bl.mpr rfl)) (by simp))
      ss_next))
      (ss_ret (SE.sx (se_c fun _ _ => val_bl.mpr rfl)) (by simp))))
theorem q_11 {M k : Nat} (H : Sims M k) : SF .s (fn M (k + 1) 11) (fu M (k + 1) 11) := by
  show SF .s (runF 2 3 (b_11 (fn M k) M)) (funT false 2 3 (s_11 (fu M k) M))
  refine sf_def (wn := []) (wl := []) ?_ (.inl rfl)
  unfold b_11 s_11
  exact (ss_seq (ss_for (si_r2 (SE.sn (se_c fun _ _ => val_int.mpr rfl)) (SE.sn (se_cbF c_len fc_len (sna_cons sn_var sna_nil)))) (sg_name (by decide) (by decide))
      (ss_if (st_test (SE.sn (se_opF (o_inD true) fr_memD (SE.sn (se_op o_ix (sb_var (by decide)) (sb_var (by decide)))) (SE.sn (se_op o_ix (sb_var (by decide)) (SE.sb (se_op o_ix (sb_var (by decide)) (SE.sb (se_opF o_sub fr_sub sn_var (SE.sn (se_c fun _ _ => val_int.mpr rfl)))))))))))
      (ss_ret (SE.sx (se_c fun _ _ => val_bl.mpr rfl)) (by simp))
      ss_next))
      (ss_ret (SE.sx (se_c fun _ _ => val_bl.mpr rfl)) (by simp)))
theorem q_12 {M k : Nat} (H : Sims M k) : SF .s (fn M (k + 1) 12) (fu M (k + 1) 12) := by
  show SF .s (runF 2 3 (b_12 (fn M k) M)) (funT false 2 3 (s_12 (fu M k) M))
  refine sf_def (wn := []) (wl := []) ?_ (.inl rfl)
  unfold b_12 s_12
  exact (ss_seq (ss_for (si_seq (se_var (by decide))) (sg_name (by decide) (by decide))
      (ss_if (st_test (SE.sn (se_opF (o_inD false) fr_memD sn_var sn_var)))
      (ss_ret (SE.sx (se_c fun _ _ => val_bl.mpr rfl)) (by simp))
      ss_next))
      (ss_ret (SE.sx (se_c fun _ _ => val_bl.mpr rfl)) (by simp)))
theorem q_13 {M k : Nat} (H : Sims M k) : SF (.l .s) (fn M (k + 1) 13) (fu M (k + 1) 13) := by
  show SF (.l .s) (runF 1 2 (b_13 (fn M k) M)) (funT true 1 2 (s_13 (fu M k) M))
  refine sf_def (wn := []) (wl := []) ?_ (.inr rfl)
  unfold b_13 s_13
  exact (ss_ret (sx_lc (si_seq (se_var (by decide))) st_yes (SE.sx (SX.se (sx_cb x_lst (sba_cons (sb_var (by decide)) sba_nil)))) (by decide) (by decide)) (by simp))
theorem q_14 {M k : Nat} (H : Sims M k) : SF .s (fn M (k + 1) 14) (fu M (k + 1) 14) := by
  show SF .s (runF 3 9 (b_14 (fn M k) M)) (funT false 3 9 (s_14 (fu M k) M))
  refine sf_def (wn := []) (wl := []) ?_ (.inl rfl)
  unfold b_14 s_14
  exact (ss_seq (ss_own (sh := (.l .s)) (sx_lstS sa_nil) (by decide) (by decide))
      (ss_seq (ss_own (sh := (.l .s)) (sx_lstS sa_nil) (by decide) (by decide))
      (ss_seq (ss_for (si_seq (se_var (by decide))) (sg_name (by decide) (by decide))
      (ss_if (st_test (SE.sn (se_opF (o_inD true) fr_memD sn_var sn_var)))
      (ss_seq (ss_app (sp_var (sh := (.l .s)) (by simp)) (SE.sx (se_var (by decide))))
      (ss_app (sp_var (sh := (.l .s)) (by simp)) (SE.sx (se_var (by decide)))))
      ss_next))
      (ss_seq (ss_free (w1 := [(3, (.l .s))]) (ss_for (si_r1 (SE.sn (se_cbF c_len fc_len (sna_cons sn_var sna_nil)))) (sg_name (by decide) (by decide))
      (ss_seq (ss_if (st_test (SE.sn (se_call H.f12 (sa_cons (se_var (by decide)) (sa_cons (se_var (by decide)) sa_nil)))))
      (ss_ret (SE.sx (se_op o_add (sb_var (by decide)) (SE.sb (se_c fun _ _ => val_int.mpr rfl)))) (by simp))
      ss_next)
      (ss_seq (ss_own (sh := (.l .s)) (sx_lstS sa_nil) (by decide) (by decide))
      (ss_seq (ss_for (si_seq (se_var (by decide))) (sg_name (by decide) (by decide))
      (ss_for (si_seq (se_op o_ix (sb_var (by decide)) (sb_var (by decide)))) (sg_name (by decide) (by decide))
      (ss_if (st_test (SE.sn (se_opF (o_inD true) fr_memD sn_var sn_var)))
      (ss_seq (ss_app (sp_var (sh := (.l .s)) (by simp)) (SE.sx (se_var (by decide))))
      (ss_app (sp_var (sh := (.l .s)) (by simp)) (SE.sx (se_var (by decide)))))
      ss_next)))
      (ss_free (w1 := [(3, (.l .s))]) (ss_set (se_var (by decide)) (by decide) (by decide)) (by simp)))))) (by simp))
      (ss_ret (SE.sx (se_c fun _ _ => val_int.mpr rfl)) (by simp))))))
theorem q_15 {M k : Nat} (H : Sims M k) : SF .s (fn M (k + 1) 15) (fu M (k + 1) 15) := by
  show SF .s (runF 1 8 (b_15 (fn M k) M)) (funT false 1 8 (s_15 (fu M k) M))
  refine sf_def (wn := []) (wl := []) ?_ (.inl rfl)
  unfold b_15 s_15
  exact (ss_seq (ss_set (se_call H.f3 (sa_cons (se_var (by decide)) (sa_cons (se_c fun _ _ => val_int.mpr rfl) (sa_cons (se_c fun _ _ => val_int.mpr rfl) (sa_cons (se_c fun _ _ => val_int.mpr rfl) sa_nil))))) (by decide) (by decide))
      (ss_seq (ss_set (se_call H.f4 (sa_cons (se_var (by decide)) (sa_cons (se_var (by decide)) sa_nil))) (by decide) (by decide))
      (ss_seq (ss_if (st_test (SE.sn (se_opF o_eq fr_bl (SE.sn (se_opF o_mod fr_mod (SE.sn (se_cbF c_int fc_int (sna_cons (SE.sn (se_op o_ix (sb_var (by decide)) (SE.sb (se_c fun _ _ => val_int.mpr rfl)))) sna_nil))) (SE.sn (se_c fun _ _ => val_int.mpr rfl)))) (SE.sn (se_c fun _ _ => val_int.mpr rfl)))))
      (ss_set (se_call H.f5 (sa_cons (se_var (by decide)) (sa_cons (se_var (by decide)) sa_nil))) (by decide) (by decide))
      ss_next)
      (ss_seq (ss_set (se_call H.f7 (sa_cons (se_call H.f8 (sa_cons (se_var (by decide)) (sa_cons (se_c fun _ _ => val_int.mpr rfl) (sa_cons (se_cbF c_len fc_len (sna_cons sn_var sna_nil)) (sa_cons (se_op o_ix (sb_var (by decide)) (SE.sb (se_c fun _ _ => val_int.mpr rfl))) sa_nil))))) (sa_cons (se_op o_ix (sb_var (by decide)) (SE.sb (se_c fun _ _ => val_int.mpr rfl))) sa_nil))) (by decide) (by decide))
      (ss_seq (ss_set (se_call H.f7 (sa_cons (se_call H.f8 (sa_cons (se_var (by decide)) (sa_cons (se_c fun _ _ => val_int.mpr rfl) (sa_cons (se_cbF c_len fc_len (sna_cons sn_var sna_nil)) (sa_cons (se_op o_ix (sb_var (by decide)) (SE.sb (se_c fun _ _ => val_int.mpr rfl))) sa_nil))))) (sa_cons (se_op o_ix (sb_var (by decide)) (SE.sb (se_c fun _ _ => val_int.mpr rfl))) sa_nil))) (by decide) (by decide))
      (ss_seq (ss_set (SX.se (sx_lstS (sa_cons (se_call H.f13 (sa_cons (se_var (by decide)) sa_nil)) (sa_cons (SX.se (sx_cb x_lst (sba_cons (sb_var (by decide)) sba_nil))) (sa_cons (SX.se (sx_cb x_lst (sba_cons (sb_var (by decide)) sba_nil))) sa_nil))))) (by decide) (by decide))
      (ss_seq (ss_own (sh := (.m (.l .s))) (sx_call H.f0 (sa_cons (se_op o_ix (sb_var (by decide)) (SE.sb (se_c fun _ _ => val_int.mpr rfl))) (sa_cons (se_op o_ix (sb_var (by decide)) (SE.sb (se_c fun _ _ => val_int.mpr rfl))) (sa_cons (se_op o_ix (sb_var (by decide)) (SE.sb (se_c fun _ _ => val_int.mpr rfl))) sa_nil)))) (by decide) (by decide))
      (ss_seq (ss_set (se_call H.f14 (sa_cons (se_var (by decide)) (sa_cons (se_var (by decide)) (sa_cons (se_var (by decide)) sa_nil)))) (by decide) (by decide))
      (ss_seq (ss_if (st_test (SE.sn (se_opF o_eq fr_bl sn_var (SE.sn (se_c fun _ _ => val_int.mpr rfl)))))
      (ss_ret (SE.sx (se_and (SE.sn (se_opF o_isN fr_bl sn_var (SE.sn (se_c fun _ _ => val_non.mpr rfl)))) (se_and (SE.sn (se_opF o_eqD fr_bl (SE.sn (se_op o_ix (sb_var (by decide)) (SE.sb (se_c fun _ _ => val_int.mpr rfl)))) sn_var)) (se_and (SE.sn (se_opF o_eqD fr_bl (SE.sn (se_op o_ix (sb_var (by decide)) (SE.sb (se_c fun _ _ => val_int.mpr rfl)))) sn_var)) (se_opF o_eqD fr_bl (SE.sn (se_op o_ix (sb_var (by decide)) (SE.sb (se_c fun _ _ => val_int.mpr rfl)))) sn_var))))) (by simp))
      ss_next)
      (ss_seq (ss_if (st_or (st_not (st_test (SE.sn (se_callF H.f10 (sna_cons sn_var (sna_cons (SE.sn (se_cbF c_len fc_len (sna_cons sn_var sna_nil))) sna_nil)))))) (st_test (SE.sn (se_opF o_neD fr_nb (SE.sn (se_cbF c_len fc_len (sna_cons sn_var sna_nil))) sn_var))))
      (ss_ret (SE.sx (se_c fun _ _ => val_bl.mpr rfl)) (by simp))
      ss_next)
      (ss_seq (ss_if (st_or (st_test (SE.sn (se_opF (o_inD true) fr_memD (sn_op o_ix sn_var (SE.sn (se_c fun _ _ => val_int.mpr rfl))) sn_var))) (st_or (st_test (SE.sn (se_opF (o_inD true) fr_memD (sn_op o_ix sn_var (SE.sn (se_opF o_sub fr_sub sn_var (SE.sn (se_c fun _ _ => val_int.mpr rfl))))) sn_var))) (st_not (st_test (SE.sn (se_callF H.f11 (sna_cons sn_var (sna_cons sn_var sna_nil))))))))
      (ss_ret (SE.sx (se_c fun _ _ => val_bl.mpr rfl)) (by simp))
      ss_next)
      (ss_seq (ss_app (sp_some (sp_var (sh := (.m (.l .s))) (by simp))) (SE.sx (se_neg (SE.sn (se_c fun _ _ => val_int.mpr rfl)))))
      (ss_ret (SE.sx (se_and (SE.sn (se_opF o_eqD fr_bl (SE.sn (se_op o_ix (sb_var (by decide)) (SE.sb (se_c fun _ _ => val_int.mpr rfl)))) sn_var)) (se_and (SE.sn (se_opF o_eqD fr_bl (SE.sn (se_op o_ix (sb_var (by decide)) (SE.sb (se_c fun _ _ => val_int.mpr rfl)))) sn_var)) (se_opF o_eqD fr_bl (SE.sn (se_op o_ix (sb_var (by decide)) (SE.sb (se_c fun _ _ => val_int.mpr rfl)))) sn_var)))) (by simp))))))))))))))
theorem sims (M : Nat) : ∀ k, Sims M k
  | 0 => ⟨(fun A xs ts h _ _ t q => by cases q), (fun A xs ts h _ _ t q => by cases q), (fun A xs ts h _ _ t q => by cases q), (fun A xs ts h _ _ t q => by cases q), (fun A xs ts h _ _ t q => by cases q), (fun A xs ts h _ _ t q => by cases q), (fun A xs ts h _ _ t q => by cases q), (fun A xs ts h _ _ t q => by cases q), (fun A xs ts h _ _ t q => by cases q), (fun A xs ts h _ _ t q => by cases q), (fun A xs ts h _ _ t q => by cases q), (fun A xs ts h _ _ t q => by cases q), (fun A xs ts h _ _ t q => by cases q), (fun A xs ts h _ _ t q => by cases q), (fun A xs ts h _ _ t q => by cases q), (fun A xs ts h _ _ t q => by cases q)⟩
  | k + 1 => have H := sims M k; ⟨q_0 H, q_1 H, q_2 H, q_3 H, q_4 H, q_5 H, q_6 H, q_7 H, q_8 H, q_9 H, q_10 H, q_11 H, q_12 H, q_13 H, q_14 H, q_15 H⟩
end
end K32
namespace K32
open PySem L2 Mi Fu LA GR
local macro_rules | `(tactic| walk_at "kw") => `(tactic| try simp (decide := true) only [Fu.k_c, Fu.k_var, Fu.k_op, Fu.k_un, Fu.k_nil, Fu.k_cons, Fu.k_star, Fu.k_tup, Fu.k_lst, Fu.k_cb, Fu.k_cbF, Fu.flatT_i, Fu.flatT_s, Fu.flatT_b, Fu.flatT_n, Fu.k_test, Fu.asB_bl, Fu.asI_int, Fu.k_not, Fu.k_and, Fu.k_or, Fu.k_yes, Fu.k_notV, Fu.k_andV, Fu.k_orV, Fu.k_if, Fu.k_oN, Fu.k_oS, Fu.k_sl, Fu.k_chain, Fu.k_isi, Fu.asS_str, Fu.k_kd, Fu.k_kin, Fu.k_lc, Fu.k_seq, Fu.k_r1, Fu.k_r2, Fu.s_next, Fu.s_seq, Fu.s_set, Fu.s_own, Fu.s_asg, Fu.s_drop, Fu.s_ret, Fu.s_retN, Fu.s_brk, Fu.s_cnt, Fu.s_if, Fu.s_aug, Fu.k_gNm, Fu.k_gNil, Fu.k_gCons, Fu.k_gTp, Fu.asL_lst, Fu.asTp_tup, Fu.p_var, Fu.k_pth, Fu.p_ix, Fu.p_cm, id, Fu.s_app, Fu.s_pop, Fu.s_popD, Fu.s_rev, Fu.s_clr, Fu.s_put, Fu.s_callP, Fu.s_mvP, Fu.k_cbP, Fu.asP_mk, Fu.k_lcP, Fu.k_en, Fu.k_rv, Fu.k_zp, Fu.lstO_l, Fu.lstO_f, Fu.bOpT_bb, Fu.k_fld, Fu.asO_obj, Fu.s_for, Fu.s_while, Fu.ok_some, Fu.ok_ite, Fu.wipeT,
  Fu.addT_ii, Fu.addT_ll, Fu.addT_ss, Fu.addT_tt, Fu.catT_ll, Fu.subT_ii, Fu.mulT_ii, Fu.mulT_li, Fu.repT_li, Fu.fdivT_ii, Fu.modT_ii, Fu.powT_ii, Fu.negT_i, Fu.ltT_ii, Fu.leT_ii, Fu.gtT_ii, Fu.geT_ii, Fu.eqST_ii, Fu.eqST_ss, Fu.eqST_bb, Fu.eqT_ii, Fu.eqT_ss, Fu.eqT_bb, Fu.ok_oBl, Fu.ok_oNb, Fu.isNT_n, Fu.isNT_i, Fu.isNT_l, Fu.isNT_t, Fu.isNT_b, Fu.isNT_s, Fu.lenT_l, Fu.lenT_t, Fu.lenT_f, Fu.itemsT_l, Fu.itemsT_t, Fu.itemsT_f, Fu.lstT_l, Fu.lstT_t, Fu.lstT_f, Fu.tupT_l, Fu.tupT_t, Fu.ixT_l, Fu.ixT_t, Fu.ixT_f, Fu.intT_i, Fu.absT_i, Fu.max2T_i, Fu.min2T_i, Fu.slT_l, Fu.slLT_l, Fu.tyT_i, Fu.tyT_s, Fu.tyT_b, Fu.tyT_t, Fu.tyT_l, Fu.tyT_f, Fu.tyT_n,
  List.getElem?_cons_zero, List.getElem?_cons_succ, List.getD_cons_zero, List.getD_cons_succ, List.set_cons_zero, List.set_cons_succ, List.map_cons, List.map_nil, List.replicate, List.append_nil, List.cons_append, List.nil_append, List.length_cons, List.length_nil, Nat.reduceAdd, Nat.reduceSub, Nat.reduceLT, Nat.reduceLeDiff, Nat.zero_add, Int.reduceToNat, Int.reducePow, Int.reduceNeg, Mi.mulC_r, Mi.atI_0, Mi.atI_1, Mi.atI_2,
  subTy, decide_true, decide_false, Bool.or_self, Bool.or_true, Bool.true_or, Bool.or_false, Bool.false_or, Bool.and_true, Bool.true_and, Bool.and_false, Bool.false_and, Bool.and_self, Bool.not_true, Bool.not_false, Bool.false_eq_true, Bool.true_eq_false, true_and, and_true, and_self, if_true, if_false, ite_true, ite_false])
local macro_rules | `(tactic| walk_at "k1") => `(tactic| try simp (decide := true) only [Fu.k_c, Fu.k_var, Fu.k_op, Fu.k_un, Fu.k_nil, Fu.k_cons, Fu.k_star, Fu.k_tup, Fu.k_lst, Fu.k_cb, Fu.k_cbF, Fu.flatT_i, Fu.flatT_s, Fu.flatT_b, Fu.flatT_n, Fu.k_test, Fu.asB_bl, Fu.asI_int, Fu.k_not, Fu.k_and, Fu.k_or, Fu.k_yes, Fu.k_notV, Fu.k_andV, Fu.k_orV, Fu.k_if, Fu.k_oN, Fu.k_oS, Fu.k_sl, Fu.k_chain, Fu.k_isi, Fu.asS_str, Fu.k_kd, Fu.k_kin, Fu.k_lc, Fu.k_seq, Fu.k_r1, Fu.k_r2, Fu.s_next, Fu.s_set, Fu.s_own, Fu.s_asg, Fu.s_drop, Fu.s_ret, Fu.s_retN, Fu.s_brk, Fu.s_cnt, Fu.s_if, Fu.s_aug, Fu.k_gNm, Fu.k_gNil, Fu.k_gCons, Fu.k_gTp, Fu.asL_lst, Fu.asTp_tup, Fu.p_var, Fu.k_pth, Fu.p_ix, Fu.p_cm, id, Fu.s_app, Fu.s_pop, Fu.s_popD, Fu.s_rev, Fu.s_clr, Fu.s_put, Fu.s_callP, Fu.s_mvP, Fu.k_cbP, Fu.asP_mk, Fu.k_lcP, Fu.k_en, Fu.k_rv, Fu.k_zp, Fu.lstO_l, Fu.lstO_f, Fu.bOpT_bb, Fu.k_fld, Fu.asO_obj, Fu.s_for, Fu.s_while, Fu.ok_some, Fu.ok_ite, Fu.wipeT,
  Fu.addT_ii, Fu.addT_ll, Fu.addT_ss, Fu.addT_tt, Fu.catT_ll, Fu.subT_ii, Fu.mulT_ii, Fu.mulT_li, Fu.repT_li, Fu.fdivT_ii, Fu.modT_ii, Fu.powT_ii, Fu.negT_i, Fu.ltT_ii, Fu.leT_ii, Fu.gtT_ii, Fu.geT_ii, Fu.eqST_ii, Fu.eqST_ss, Fu.eqST_bb, Fu.eqT_ii, Fu.eqT_ss, Fu.eqT_bb, Fu.ok_oBl, Fu.ok_oNb, Fu.isNT_n, Fu.isNT_i, Fu.isNT_l, Fu.isNT_t, Fu.isNT_b, Fu.isNT_s, Fu.lenT_l, Fu.lenT_t, Fu.lenT_f, Fu.itemsT_l, Fu.itemsT_t, Fu.itemsT_f, Fu.lstT_l, Fu.lstT_t, Fu.lstT_f, Fu.tupT_l, Fu.tupT_t, Fu.ixT_l, Fu.ixT_t, Fu.ixT_f, Fu.intT_i, Fu.absT_i, Fu.max2T_i, Fu.min2T_i, Fu.slT_l, Fu.slLT_l, Fu.tyT_i, Fu.tyT_s, Fu.tyT_b, Fu.tyT_t, Fu.tyT_l, Fu.tyT_f, Fu.tyT_n,
  List.getElem?_cons_zero, List.getElem?_cons_succ, List.getD_cons_zero, List.getD_cons_succ, List.set_cons_zero, List.set_cons_succ, List.map_cons, List.map_nil, List.replicate, List.append_nil, List.cons_append, List.nil_append, List.length_cons, List.length_nil, Nat.reduceAdd, Nat.reduceSub, Nat.reduceLT, Nat.reduceLeDiff, Nat.zero_add, Int.reduceToNat, Int.reducePow, Int.reduceNeg, Mi.mulC_r, Mi.atI_0, Mi.atI_1, Mi.atI_2,
  subTy, decide_true, decide_false, Bool.or_self, Bool.or_true, Bool.true_or, Bool.or_false, Bool.false_or, Bool.and_true, Bool.true_and, Bool.and_false, Bool.false_and, Bool.and_self, Bool.not_true, Bool.not_false, Bool.false_eq_true, Bool.true_eq_false, true_and, and_true, and_self, if_true, if_false, ite_true, ite_false])
local macro_rules | `(tactic| walk_at "ks") => `(tactic| (rw [Fu.s_seq]; walk_at "k1"))
/-- the way back that a dict tells, in the order of the way -/
inductive Back (ks : List (Key × T)) : Int → List Int → Prop where
  | one {v : Int} : lookK ks (.inl v) = some .non → Back ks v [v]
  | more {v u : Int} {ps : List Int} : lookK ks (.inl v) = some (.int u) → Back ks u ps → Back ks v (ps ++ [v])
theorem path_F {M k : Nat} {v : Int} {ks : List (Key × T)} {ps : List Int} (h : Back ks v ps) (hl : ps.length ≤ 100) (hM : 1000 ≤ M) : fu M (k + 1) 1 [.int v, .dic ks] = some (rowI ps) := by
  refine eq_ok ?_
  rw [u_1]
  refine k_fun rfl ?_
  unfold s_1
  walk_at "ks"
  walk_at "ks"
  rw [s_seq, s_while]
  refine while_inv (fun m e' => ∃ (done : List Int) (t : T), e' = [some (.int v), some (.dic ks), some (.lst (done.map T.int)), some t] ∧ ((m = 0 ∧ t = .non ∧ ps = done.reverse) ∨ ∃ u qs, t = .int u ∧ Back ks u qs ∧ m = qs.length ∧ ps = qs ++ done.reverse)) ?_ _ ps.length _ (by omega) ⟨[], _, rfl, .inr ⟨v, ps, rfl, h, rfl, by simp⟩⟩
  rintro m _ ⟨done, t, rfl, (⟨rfl, rfl, e⟩ | ⟨u, qs, rfl, hb, rfl, e⟩)⟩
  · walk_at "k1"
    walk_at "ks"
    rw [e, ← List.map_reverse]; rfl
  · walk_at "k1"
    have dl : done.length ≤ 100 := by
      have := congrArg List.length e
      rw [List.length_append, List.length_reverse] at this
      omega
    walk_at "ks"
    refine ⟨by rw [List.length_map]; omega, ?_⟩
    cases hb with
    | one hq =>
      rw [ok_eq (show dgetT (.dic ks) (.int u) = some .non from hq)]
      exact ⟨0, by show 0 < 1; omega, done ++ [u], _, by rw [List.map_append]; rfl, .inl ⟨rfl, rfl, by rw [e, List.reverse_append]; rfl⟩⟩
    | more hq hb' =>
      rename_i u' ps'
      rw [ok_eq (show dgetT (.dic ks) (.int u) = some (.int u') from hq)]
      exact ⟨ps'.length, by rw [List.length_append]; exact Nat.lt_succ_self _, done ++ [u], _, by rw [List.map_append]; rfl, .inr ⟨u', ps', rfl, hb', rfl, by rw [e, List.reverse_append, List.append_assoc]; rfl⟩⟩
section
variable {k : Nat}
abbrev F (k i : Nat) := fu 1000000 k i
theorem cF : CellF (F (k + 1) 2) := gcell_F
theorem dF : DrawF (F (k + 2) 3) := draw_F cF
theorem grF : GraphF (F (k + 3) 4) := graph_F dF
theorem lgF : GraphF (F (k + 3) 5) := lgraph_F dF
theorem chF : ChosenF (F (k + 3) 6) := chosen_F dF
theorem tuF : TurnedF (F (k + 1) 7) := turned_F
theorem stF : StartsF (F (k + 4) 8) := starts_F chF
theorem cpF : CopyF (F (k + 1) 13) := copy_F
end
theorem int_F {M k : Nat} (d : Int) : fu M (k + 1) 9 [.int d] = some (.bl true) := by
  refine eq_ok ?_
  rw [u_9]
  refine k_fun rfl ?_
  unfold s_9
  walk_at "k1"
theorem inF {k : Nat} : IsNodesF (F (k + 2) 10) := isNodes_F fun d => int_F d
theorem walk_F {M k n : Nat} {g : List (List Int)} {ps : List Int} (hg : Gr n g) (hr : ∀ v ∈ ps, 0 ≤ v ∧ v < (n : Int)) (hl : ps.length ≤ 1000) (hw : ∀ (i : Nat) u v r, ps[i]? = some u → ps[i + 1]? = some v → g[u.toNat]? = some r → v ∈ r) : fu M (k + 1) 11 [grT g, rowI ps] = some (.bl true) := by
  have gl := hg.len
  refine eq_ok ?_
  rw [u_11]
  refine k_fun rfl ?_
  unfold s_11 grT rowI
  walk_at "ks"
  rw [List.length_map]
  refine ⟨by omega, ?_⟩
  refine for_inv (fun i e' => ∃ o, e' = [some (.lst (g.map rowI)), some (.lst (ps.map T.int)), o]) ⟨_, rfl⟩ ?_ ?_
  · rintro i x _ hx ⟨o, rfl⟩
    obtain ⟨il, rfl⟩ := rngT_get hx
    obtain ⟨u, eu⟩ : ∃ u, ps[i]? = some u := ⟨_, List.getElem?_eq_getElem (by omega)⟩
    obtain ⟨v, ev⟩ : ∃ v, ps[i + 1]? = some v := ⟨_, List.getElem?_eq_getElem (by omega)⟩
    obtain ⟨u0, u1⟩ := hr u (List.mem_of_getElem? eu)
    obtain ⟨r, er⟩ : ∃ r, g[u.toNat]? = some r := ⟨_, List.getElem?_eq_getElem (by omega)⟩
    walk_at "k1"
    rw [show (1 + (i : Int)) = ((i + 1 : Nat) : Int) from by omega, show (((i + 1 : Nat) : Int) - 1) = ((i : Nat) : Int) from by omega, ok_eq (at_g2 ev), ok_eq (at_g2 eu)]
    walk_at "k1"
    rw [ok_eq (at_gi u0 er), ok_eq mem_ints, decide_eq_true (hw i u v r eu ev er)]
    walk_at "k1"
    exact ⟨_, rfl⟩
  · rintro _ ⟨o, rfl⟩
    walk_at "k1"
theorem meets_F {M k : Nat} {xs ys : List Int} : fu M (k + 1) 12 [rowI xs, rowI ys] = some (.bl (decide (∃ v ∈ xs, v ∈ ys))) := by
  refine eq_ok ?_
  rw [u_12]
  refine k_fun rfl ?_
  unfold s_12 rowI
  walk_at "ks"
  refine for_inv (fun i e' => (∃ o, e' = [some (.lst (xs.map T.int)), some (.lst (ys.map T.int)), o]) ∧ ∀ v ∈ xs.take i, v ∉ ys) ⟨⟨_, rfl⟩, fun v h => by simp at h⟩ ?_ ?_
  · rintro i x _ hx ⟨⟨o, rfl⟩, hi⟩
    rw [List.getElem?_map] at hx
    obtain ⟨a, ea, rfl⟩ := Option.map_eq_some_iff.mp hx
    walk_at "k1"
    rw [ok_eq mem_ints]
    walk_at "k1"
    by_cases c : a ∈ ys
    · rw [decide_eq_true c]
      walk_at "k1"
      rw [decide_eq_true ⟨a, List.mem_of_getElem? ea, c⟩]
    · rw [decide_eq_false c]
      walk_at "k1"
      refine ⟨⟨_, rfl⟩, fun v hv => ?_⟩
      rw [show xs.take (i + 1) = xs.take i ++ [a] from by rw [List.take_succ, ea]; rfl] at hv
      rcases List.mem_append.mp hv with m | m
      · exact hi v m
      · rw [List.mem_singleton.mp m]; exact c
  · rintro _ ⟨⟨o, rfl⟩, hi⟩
    rw [List.length_map, List.take_length] at hi
    walk_at "k1"
    rw [decide_eq_false fun ⟨v, h1, h2⟩ => hi v h1 h2]
theorem lev {n : Nat} {g : List (List Int)} {st : List Int} {f : List (Option Int)} (hd : Dist n g st f) : ∀ (d v : Nat), f[v]? = some (some (d : Int)) → ∃ xs : List Int, xs.length = d + 1 ∧ xs.Nodup ∧ (∀ x ∈ xs, 0 ≤ x ∧ x < (n : Int)) ∧ ∀ x ∈ xs, ∃ e : Int, f[x.toNat]? = some (some e) ∧ e ≤ d
  | 0, v, h => by
    have l := (List.getElem?_eq_some_iff.mp h).1
    rw [hd.len] at l
    refine ⟨[(v : Int)], rfl, List.nodup_cons.mpr ⟨List.not_mem_nil, List.nodup_nil⟩, fun x hx => ?_, fun x hx => ?_⟩
    · rw [List.mem_singleton.mp hx]; omega
    · rw [List.mem_singleton.mp hx, Int.toNat_natCast]; exact ⟨_, h, Int.le_refl _⟩
  | d + 1, v, h => by
    have l := (List.getElem?_eq_some_iff.mp h).1
    rw [hd.len] at l
    obtain ⟨u, r, _, eu, _, _⟩ := hd.back v _ h (by omega)
    obtain ⟨xs, x1, x2, x3, x4⟩ := lev hd d u (by rw [eu]; congr 2; omega)
    refine ⟨(v : Int) :: xs, by rw [List.length_cons, x1], List.nodup_cons.mpr ⟨fun m => ?_, x2⟩, fun x hx => ?_, fun x hx => ?_⟩
    · obtain ⟨e, e1, e2⟩ := x4 _ m
      rw [Int.toNat_natCast, h] at e1
      cases e1
      omega
    · rcases List.mem_cons.mp hx with z | z
      · rw [z]; omega
      · exact x3 x z
    · rcases List.mem_cons.mp hx with z | z
      · rw [z, Int.toNat_natCast]; exact ⟨_, h, Int.le_refl _⟩
      · obtain ⟨e, e1, e2⟩ := x4 x z; exact ⟨e, e1, by omega⟩
theorem dist_lt {n : Nat} {g : List (List Int)} {st : List Int} {f : List (Option Int)} (hd : Dist n g st f) {v : Nat} {d : Int} (h : f[v]? = some (some d)) : d < n := by
  have d0 := hd.nn v d h
  obtain ⟨xs, x1, x2, x3, _⟩ := lev hd d.toNat v (by rw [h, Int.toNat_of_nonneg d0])
  have := nodup_le n xs x2 x3
  omega
theorem nodup_snoc {xs : List Int} {a : Int} (h : xs.Nodup) (n : a ∉ xs) : (xs ++ [a]).Nodup := by
  rw [List.nodup_append]
  refine ⟨h, List.nodup_cons.mpr ⟨List.not_mem_nil, List.nodup_nil⟩, fun x hx y hy e => ?_⟩
  rw [List.mem_singleton] at hy
  exact n (by rw [← hy, ← e]; exact hx)
theorem least_F {k n : Nat} {g : List (List Int)} {st go : List Int} {f : List (Option Int)} (hg : Gr n g) (hs : ∀ x ∈ st, 0 ≤ x ∧ x < (n : Int)) (hd : Dist n g st f) : ∃ L : Int, fu 1000000 (k + 2) 14 [grT g, rowI st, rowI go] = some (.int L) ∧ ((L = 0 ∧ ∀ w ∈ go, ∀ d, 0 ≤ w → f[w.toNat]? ≠ some (some d)) ∨ (∃ w ∈ go, 0 ≤ w ∧ f[w.toNat]? = some (some (L - 1))) ∧ ∀ w ∈ go, ∀ d, 0 ≤ w → f[w.toNat]? = some (some d) → L - 1 ≤ d) := by
  have gl := hg.len
  have gle := hg.le
  have key : Ok (fu 1000000 (k + 2) 14 [grT g, rowI st, rowI go]) fun v => ∃ L : Int, v = .int L ∧ ((L = 0 ∧ ∀ w ∈ go, ∀ d, 0 ≤ w → f[w.toNat]? ≠ some (some d)) ∨ (∃ w ∈ go, 0 ≤ w ∧ f[w.toNat]? = some (some (L - 1))) ∧ ∀ w ∈ go, ∀ d, 0 ≤ w → f[w.toNat]? = some (some d) → L - 1 ≤ d) := by
    rw [u_14]
    refine k_fun rfl ?_
    unfold s_14 grT rowI
    walk_at "ks"
    walk_at "ks"
    refine n_cutF (fun e' => ∃ (fo : List Int) (o5 : Option T), e' = [some (.lst (g.map rowI)), some (.lst (st.map T.int)), some (.lst (go.map T.int)), some (.lst (fo.map T.int)), some (.lst (fo.map T.int)), o5, none, none, none] ∧ fo.Nodup ∧ ∀ v, v ∈ fo ↔ v ∈ st) ?_ ?_
    · walk_at "k1"
      refine for_inv (fun i e' => ∃ (fo : List Int) (o5 : Option T), e' = [some (.lst (g.map rowI)), some (.lst (st.map T.int)), some (.lst (go.map T.int)), some (.lst (fo.map T.int)), some (.lst (fo.map T.int)), o5, none, none, none] ∧ fo.Nodup ∧ ∀ v, v ∈ fo ↔ v ∈ st.take i) ⟨[], _, rfl, List.nodup_nil, fun v => by simp⟩ ?_ ?_
      · rintro i x _ hx ⟨fo, o5, rfl, nd, hi⟩
        rw [List.getElem?_map] at hx
        obtain ⟨a, ea, rfl⟩ := Option.map_eq_some_iff.mp hx
        have et : st.take (i + 1) = st.take i ++ [a] := by rw [List.take_succ, ea]; rfl
        have fle := nodup_le n fo nd fun x h => hs x (List.mem_of_mem_take ((hi x).mp h))
        walk_at "k1"
        rw [ok_eq mem_ints]
        walk_at "k1"
        by_cases c : a ∈ fo
        · rw [decide_eq_true c]
          walk_at "k1"
          refine ⟨fo, _, rfl, nd, fun v => ?_⟩
          rw [et, List.mem_append, List.mem_singleton, hi]
          exact ⟨.inl, fun h => h.elim id fun h => by rw [h]; exact (hi a).mp c⟩
        · rw [decide_eq_false c]
          walk_at "ks"
          refine ⟨by rw [List.length_map]; omega, by rw [List.length_map]; omega, fo ++ [a], _, by rw [List.map_append]; rfl, nodup_snoc nd c, fun v => ?_⟩
          rw [et, List.mem_append, List.mem_append, hi]
      · rintro _ ⟨fo, o5, rfl, nd, hi⟩
        refine ⟨fo, o5, rfl, nd, fun v => ?_⟩
        rw [hi, List.length_map, List.take_length]
    rintro _ ⟨fo, o5, rfl, nd, hi⟩
    walk_at "ks"
    rw [List.length_map, gl]
    refine ⟨by omega, ?_⟩
    have sg : ∀ r ∈ g, ∀ x ∈ r, 0 ≤ x ∧ x < (n : Int) := hg.nd
    refine for_inv (fun k' e' => ∃ (seen layer : List Int) (o5 o6 o7 o8 : Option T), e' = [some (.lst (g.map rowI)), some (.lst (st.map T.int)), some (.lst (go.map T.int)), some (.lst (seen.map T.int)), some (.lst (layer.map T.int)), o5, o6, o7, o8] ∧ seen.Nodup ∧ (∀ v, v ∈ seen ↔ 0 ≤ v ∧ ∃ d, f[v.toNat]? = some (some d) ∧ d ≤ k') ∧ (∀ v, v ∈ layer ↔ 0 ≤ v ∧ f[v.toNat]? = some (some (k' : Int))) ∧ ∀ w ∈ go, ∀ d, 0 ≤ w → f[w.toNat]? = some (some d) → (k' : Int) ≤ d) ⟨fo, fo, _, _, _, _, rfl, nd, fun v => ?_, fun v => ?_, fun w _ d h0 e => hd.nn _ _ e⟩ ?_ ?_
    · rw [hi]
      constructor
      · intro hv
        obtain ⟨v0, v1⟩ := hs v hv
        exact ⟨v0, 0, (hd.zero v.toNat (by omega)).mpr (by rw [Int.toNat_of_nonneg v0]; exact hv), by omega⟩
      · rintro ⟨v0, d, e, hle⟩
        have d0 := hd.nn _ _ e
        have l := (List.getElem?_eq_some_iff.mp e).1
        rw [hd.len] at l
        have := (hd.zero v.toNat l).mp (by rw [e, show d = 0 from by omega])
        rwa [Int.toNat_of_nonneg v0] at this
    · rw [hi]
      constructor
      · intro hv
        obtain ⟨v0, v1⟩ := hs v hv
        exact ⟨v0, (hd.zero v.toNat (by omega)).mpr (by rw [Int.toNat_of_nonneg v0]; exact hv)⟩
      · rintro ⟨v0, e⟩
        have l := (List.getElem?_eq_some_iff.mp e).1
        rw [hd.len] at l
        have := (hd.zero v.toNat l).mp e
        rwa [Int.toNat_of_nonneg v0] at this
    · rintro k' x _ hx ⟨seen, layer, o5, o6, o7, o8, rfl, nds, hsn, hly, hgo⟩
      obtain ⟨_, rfl⟩ := rngT_get hx
      rw [Int.zero_add]
      walk_at "k1"; walk_at "ks"
      rw [ok_eq (show fu 1000000 (k + 1) 12 [.lst (layer.map T.int), .lst (go.map T.int)] = some (.bl (decide (∃ v ∈ layer, v ∈ go))) from meets_F)]
      walk_at "k1"
      by_cases c : ∃ v ∈ layer, v ∈ go
      · rw [decide_eq_true c]
        walk_at "k1"
        obtain ⟨v, v1, v2⟩ := c
        obtain ⟨v0, ev⟩ := (hly v).mp v1
        exact ⟨_, rfl, .inr ⟨⟨v, v2, v0, by rw [ev]; congr 2; omega⟩, fun w hw d h0 e => by have := hgo w hw d h0 e; omega⟩⟩
      · rw [decide_eq_false c]
        walk_at "ks"; walk_at "ks"
        have hgo' : ∀ w ∈ go, ∀ d, 0 ≤ w → f[w.toNat]? = some (some d) → ((k' + 1 : Nat) : Int) ≤ d := fun w hw d h0 e => by
          have h1 := hgo w hw d h0 e
          by_cases z : d = k'
          · exact absurd ⟨w, (hly w).mpr ⟨h0, by rw [e, z]⟩, hw⟩ c
          · omega
        refine for_inv (fun i e' => ∃ (sn fr : List Int) (o5 o8 : Option T), e' = [some (.lst (g.map rowI)), some (.lst (st.map T.int)), some (.lst (go.map T.int)), some (.lst (sn.map T.int)), some (.lst (layer.map T.int)), o5, some (.int k'), some (.lst (fr.map T.int)), o8] ∧ (sn.Nodup ∧ (∀ x ∈ sn, 0 ≤ x ∧ x < (n : Int)) ∧ (∀ v, v ∈ sn ↔ v ∈ seen ∨ v ∈ fr) ∧ (∀ v ∈ fr, 0 ≤ v ∧ f[v.toNat]? = some (some ((k' + 1 : Nat) : Int))) ∧ fr.length ≤ sn.length) ∧ ∀ v ∈ layer.take i, ∀ r, g[v.toNat]? = some r → ∀ a ∈ r, a ∈ sn) ⟨seen, [], _, _, rfl, ⟨nds, fun x hx => ?_, fun v => by simp, fun v h => (nomatch h), Nat.zero_le _⟩, fun v h => by simp at h⟩ ?_ ?_
        · obtain ⟨h0, d, e, _⟩ := (hsn x).mp hx
          have l := (List.getElem?_eq_some_iff.mp e).1
          rw [hd.len] at l
          omega
        · rintro i x _ hx ⟨sn, fr, o5, o8, rfl, hI, ht⟩
          rw [List.getElem?_map] at hx
          obtain ⟨v, ev, rfl⟩ := Option.map_eq_some_iff.mp hx
          obtain ⟨v0, fv⟩ := (hly v).mp (List.mem_of_getElem? ev)
          have vl := (List.getElem?_eq_some_iff.mp fv).1
          rw [hd.len] at vl
          obtain ⟨r, er⟩ : ∃ r, g[v.toNat]? = some r := ⟨_, List.getElem?_eq_getElem (by omega)⟩
          have et : layer.take (i + 1) = layer.take i ++ [v] := by rw [List.take_succ, ev]; rfl
          walk_at "k1"
          rw [ok_eq (at_gi v0 er)]
          walk_at "k1"
          refine for_inv (fun j e' => ∃ (sn' fr' : List Int) (o5 : Option T), e' = [some (.lst (g.map rowI)), some (.lst (st.map T.int)), some (.lst (go.map T.int)), some (.lst (sn'.map T.int)), some (.lst (layer.map T.int)), o5, some (.int k'), some (.lst (fr'.map T.int)), some (.int v)] ∧ (sn'.Nodup ∧ (∀ x ∈ sn', 0 ≤ x ∧ x < (n : Int)) ∧ (∀ v, v ∈ sn' ↔ v ∈ seen ∨ v ∈ fr') ∧ (∀ v ∈ fr', 0 ≤ v ∧ f[v.toNat]? = some (some ((k' + 1 : Nat) : Int))) ∧ fr'.length ≤ sn'.length) ∧ (∀ x ∈ sn, x ∈ sn') ∧ ∀ a ∈ r.take j, a ∈ sn') ⟨sn, fr, _, rfl, hI, fun x h => h, fun a h => by simp at h⟩ ?_ ?_
          · rintro j y _ hy ⟨sn', fr', o5, rfl, ⟨i1, i2, i3, i4, i5⟩, hsub, hj⟩
            rw [List.getElem?_map] at hy
            obtain ⟨a, ea, rfl⟩ := Option.map_eq_some_iff.mp hy
            have ain := List.mem_of_getElem? ea
            have rin := List.mem_of_getElem? er
            obtain ⟨a0, a1⟩ := sg r rin a ain
            have et' : r.take (j + 1) = r.take j ++ [a] := by rw [List.take_succ, ea]; rfl
            have sle := nodup_le n sn' i1 i2
            walk_at "k1"
            rw [ok_eq mem_ints]
            walk_at "k1"
            by_cases z : a ∈ sn'
            · rw [decide_eq_true z]
              walk_at "k1"
              refine ⟨sn', fr', _, rfl, ⟨i1, i2, i3, i4, i5⟩, hsub, fun b hb => ?_⟩
              rw [et'] at hb
              rcases List.mem_append.mp hb with m | m
              · exact hj b m
              · rw [List.mem_singleton.mp m]; exact z
            · rw [decide_eq_false z]
              walk_at "ks"
              obtain ⟨d', hle, ed⟩ := hd.succ v.toNat k' r fv er a ain
              have nk : ¬ d' ≤ k' := fun q => z ((i3 a).mpr (.inl ((hsn a).mpr ⟨a0, d', ed, q⟩)))
              have dk : d' = ((k' + 1 : Nat) : Int) := by omega
              refine ⟨by rw [List.length_map]; omega, by rw [List.length_map]; omega, sn' ++ [a], fr' ++ [a], some (.int a), by rw [List.map_append, List.map_append]; rfl, ⟨nodup_snoc i1 z, fun x hx => ?_, fun x => ?_, fun x hx => ?_, by rw [List.length_append, List.length_append]; omega⟩, fun x hx => List.mem_append_left _ (hsub x hx), fun b hb => ?_⟩
              · rcases List.mem_append.mp hx with m | m
                · exact i2 x m
                · rw [List.mem_singleton.mp m]; exact ⟨a0, a1⟩
              · rw [List.mem_append, List.mem_append, i3]; exact or_assoc
              · rcases List.mem_append.mp hx with m | m
                · exact i4 x m
                · rw [List.mem_singleton.mp m, ed, dk]; exact ⟨a0, rfl⟩
              · rw [et'] at hb
                rcases List.mem_append.mp hb with m | m
                · exact List.mem_append_left _ (hj b m)
                · exact List.mem_append_right _ m
          · rintro _ ⟨sn', fr', o5, rfl, hI', hsub, hj⟩
            rw [List.length_map, List.take_length] at hj
            refine ⟨sn', fr', _, _, rfl, hI', fun w hw r' hr' a ha => ?_⟩
            rw [et] at hw
            rcases List.mem_append.mp hw with m | m
            · exact hsub a (ht w m r' hr' a ha)
            · rw [List.mem_singleton.mp m, er] at hr'
              cases hr'
              exact hj a ha
        · rintro _ ⟨sn, fr, o5, o8, rfl, ⟨i1, i2, i3, i4, i5⟩, ht⟩
          rw [List.length_map, List.take_length] at ht
          have lay : ∀ v, v ∈ fr ↔ 0 ≤ v ∧ f[v.toNat]? = some (some ((k' + 1 : Nat) : Int)) := fun v => by
            refine ⟨i4 v, fun ⟨v0, e⟩ => ?_⟩
            obtain ⟨u, r, _, eu, er, hv⟩ := hd.back v.toNat _ e (by omega)
            rw [Int.toNat_of_nonneg v0] at hv
            have ul : (u : Int) ∈ layer := (hly u).mpr ⟨by omega, by rw [Int.toNat_natCast, eu]; congr 2; omega⟩
            rcases (i3 v).mp (ht u ul r (by rw [Int.toNat_natCast]; exact er) v hv) with m | m
            · obtain ⟨_, d, e', q⟩ := (hsn v).mp m
              rw [e] at e'; cases e'; omega
            · exact m
          refine ⟨sn, fr, _, _, _, _, rfl, i1, fun v => ?_, lay, hgo'⟩
          rw [i3, hsn, lay]
          constructor
          · rintro (⟨h0, d, e, q⟩ | ⟨h0, e⟩)
            · exact ⟨h0, d, e, by omega⟩
            · exact ⟨h0, _, e, Int.le_refl _⟩
          · rintro ⟨h0, d, e, q⟩
            by_cases z : d ≤ k'
            · exact .inl ⟨h0, d, e, z⟩
            · exact .inr ⟨h0, by rw [e]; congr 2; omega⟩
    · rintro _ ⟨seen, layer, o5, o6, o7, o8, rfl, nds, hsn, hly, hgo⟩
      rw [rngT_len] at hgo
      exact ⟨0, rfl, .inl ⟨rfl, fun w hw d h0 e => by have := hgo w hw d h0 e; have := dist_lt hd e; omega⟩⟩
  obtain ⟨v, q, L, rfl, h⟩ := key.eq
  exact ⟨L, q, h⟩
theorem any_inl {ks : List (Key × T)} {fo : List Int} (h : ks.map (·.1) = fo.map Sum.inl) (x : Int) : (ks.any fun kv => decide (kv.1 = Sum.inl x)) = decide (x ∈ fo) := by
  have e : (ks.any fun kv => decide (kv.1 = Sum.inl x)) = ((ks.map (·.1)).any fun k => decide (k = Sum.inl x)) := by rw [List.any_map]; rfl
  rw [e, h, List.any_map]
  by_cases c : x ∈ fo
  · rw [decide_eq_true c]; exact List.any_eq_true.mpr ⟨x, c, by simp⟩
  · rw [decide_eq_false c]
    refine List.any_eq_false.mpr fun y hy z => c ?_
    have : (Sum.inl y : Key) = Sum.inl x := of_decide_eq_true z
    cases this
    exact hy
theorem dc_ints {j : Nat} {c : T} {e : FSt} (hj : j < e.length) : ∀ (xs : List Int) (acc : List (Key × T)) (fo : List Int), acc.map (·.1) = fo.map Sum.inl → fo.Nodup → (∀ p ∈ acc, p.2 = c) → ∃ (ks : List (Key × T)) (fo' : List Int), dcTP (.nm j) fYes (fVar j) (fC c) e (xs.map T.int) acc = some ks ∧ ks.map (·.1) = fo'.map Sum.inl ∧ fo'.Nodup ∧ (∀ p ∈ ks, p.2 = c) ∧ ∀ v, v ∈ fo' ↔ v ∈ fo ∨ v ∈ xs
  | [], acc, fo, h1, h2, h3 => ⟨acc, fo, rfl, h1, h2, h3, fun v => by simp⟩
  | x :: xs, acc, fo, h1, h2, h3 => by
    have st : dcTP (.nm j) fYes (fVar j) (fC c) e ((x :: xs).map T.int) acc = dcTP (.nm j) fYes (fVar j) (fC c) e (xs.map T.int) (setK acc (Sum.inl x) c) := by
      have gv : (fVar j) (e.set j (some (T.int x))) = some (.int x) := by
        unfold fVar
        rw [List.getD_eq_getElem?_getD, List.getElem?_set_self hj]; rfl
      rw [List.map_cons, dcTP]
      show ((fVar j) (e.set j (some (T.int x)))).bind _ = _
      rw [gv]; rfl
    rw [st]
    by_cases m : x ∈ fo
    · have hs : setK acc (Sum.inl x) c = acc.map fun kv => if kv.1 = Sum.inl x then (kv.1, c) else kv := by
        unfold setK; rw [if_pos (by rw [any_inl h1]; exact decide_eq_true m)]
      obtain ⟨ks, fo', q1, q2, q3, q4, q5⟩ := dc_ints hj xs (setK acc (Sum.inl x) c) fo (by
        rw [hs, List.map_map, ← h1]
        refine List.map_congr_left fun p hp => ?_
        by_cases z : p.1 = Sum.inl x
        · show (if p.1 = Sum.inl x then (p.1, c) else p).1 = p.1; rw [if_pos z]
        · show (if p.1 = Sum.inl x then (p.1, c) else p).1 = p.1; rw [if_neg z]) h2 (fun p hp => by
        rw [hs] at hp
        obtain ⟨p0, hp0, rfl⟩ := List.mem_map.mp hp
        by_cases z : p0.1 = Sum.inl x
        · rw [if_pos z]
        · rw [if_neg z]; exact h3 p0 hp0)
      refine ⟨ks, fo', q1, q2, q3, q4, fun v => ?_⟩
      rw [q5, List.mem_cons]
      exact ⟨fun h => h.elim .inl fun h => .inr (.inr h), fun h => h.elim .inl fun h => h.elim (fun h => .inl (by rw [h]; exact m)) .inr⟩
    · have hs : setK acc (Sum.inl x) c = acc ++ [(Sum.inl x, c)] := by
        unfold setK; rw [if_neg (by rw [any_inl h1, decide_eq_false m]; decide)]
      obtain ⟨ks, fo', q1, q2, q3, q4, q5⟩ := dc_ints hj xs (setK acc (Sum.inl x) c) (fo ++ [x]) (by rw [hs, List.map_append, List.map_append, h1]; rfl) (nodup_snoc h2 m) (fun p hp => by
        rw [hs] at hp
        rcases List.mem_append.mp hp with z | z
        · exact h3 p z
        · rw [List.mem_singleton.mp z])
      refine ⟨ks, fo', q1, q2, q3, q4, fun v => ?_⟩
      rw [q5, List.mem_append, List.mem_singleton, List.mem_cons]
      exact or_assoc
structure Wk (n : Nat) (g : List (List Int)) (st : List Int) (f : List (Option Int)) (v : Int) (ps : List Int) (d : Nat) : Prop where
  len : ps.length = d + 1
  last : ps[d]? = some v
  hd : ∃ s, ps[0]? = some s ∧ s ∈ st
  rg : ∀ x ∈ ps, 0 ≤ x ∧ x < (n : Int)
  ed : ∀ (i : Nat) u v r, ps[i]? = some u → ps[i + 1]? = some v → g[u.toNat]? = some r → v ∈ r
  fv : f[v.toNat]? = some (some (d : Int))
theorem Wk.snoc {n d : Nat} {g : List (List Int)} {st : List Int} {f : List (Option Int)} {u a : Int} {ps r : List Int} (w : Wk n g st f u ps d) (er : g[u.toNat]? = some r) (ha : a ∈ r) (a0 : 0 ≤ a ∧ a < (n : Int)) (fa : f[a.toNat]? = some (some ((d + 1 : Nat) : Int))) : Wk n g st f a (ps ++ [a]) (d + 1) := by
  have l := w.len
  refine ⟨by rw [List.length_append, l]; rfl, ?_, ?_, fun x hx => ?_, fun i u' v' r' e1 e2 e3 => ?_, fa⟩
  · rw [List.getElem?_append_right (by omega), l, Nat.sub_self]; rfl
  · obtain ⟨s, h1, h2⟩ := w.hd
    exact ⟨s, by rw [List.getElem?_append_left (by omega)]; exact h1, h2⟩
  · rcases List.mem_append.mp hx with m | m
    · exact w.rg x m
    · rw [List.mem_singleton.mp m]; exact a0
  · by_cases c : i + 1 < ps.length
    · rw [List.getElem?_append_left (by omega)] at e1
      rw [List.getElem?_append_left c] at e2
      exact w.ed i u' v' r' e1 e2 e3
    · have il := (List.getElem?_eq_some_iff.mp e2).1
      rw [List.length_append, List.length_singleton] at il
      have : i = d := by omega
      subst this
      rw [List.getElem?_append_left (by omega), w.last] at e1
      cases e1
      rw [List.getElem?_append_right (by omega), show i + 1 - ps.length = 0 from by omega] at e2
      cases e2
      rw [er] at e3
      cases e3
      exact ha
theorem look_some {α : Type} {k : Key} {t : α} : ∀ {ks : List (Key × α)}, lookK ks k = some t → ∃ p ∈ ks, p.1 = k ∧ p.2 = t
  | [], h => by cases h
  | q :: l, h => by
    rw [look_cons] at h
    by_cases c : q.1 = k
    · rw [if_pos c] at h; cases h; exact ⟨q, List.mem_cons_self, c, rfl⟩
    · rw [if_neg c] at h
      obtain ⟨p, h1, h2⟩ := look_some h
      exact ⟨p, List.mem_cons_of_mem _ h1, h2⟩
theorem look_is {ks : List (Key × T)} {qs : List Int} (h : ks.map (·.1) = qs.map Sum.inl) (x : Int) : (lookK ks (.inl x)).isSome = decide (x ∈ qs) := by
  unfold lookK
  rw [Option.isSome_map, ← any_inl h, Bool.eq_iff_iff, List.find?_isSome, List.any_eq_true]
theorem look_in {ks : List (Key × T)} {qs : List Int} (h : ks.map (·.1) = qs.map Sum.inl) {x : Int} (hx : x ∈ qs) : ∃ t, lookK ks (.inl x) = some t := Option.isSome_iff_exists.mp (by rw [look_is h]; exact decide_eq_true hx)
theorem look_out {ks : List (Key × T)} {qs : List Int} (h : ks.map (·.1) = qs.map Sum.inl) {x : Int} (hx : x ∉ qs) : lookK ks (.inl x) = none := by
  have := look_is h x
  rw [decide_eq_false hx] at this
  cases e : lookK ks (.inl x) with
  | none => rfl
  | some t => rw [e] at this; cases this
theorem Back.mono {ks : List (Key × T)} {a : Int} {t : T} (ha : lookK ks (.inl a) = none) {v : Int} {ps : List Int} (b : Back ks v ps) : Back (setK ks (.inl a) t) v ps := by
  induction b with
  | one h =>
    refine .one ?_
    rw [look_set, if_neg fun e => by cases e; rw [ha] at h; cases h]
    exact h
  | more h _ ih =>
    refine .more ?_ ih
    rw [look_set, if_neg fun e => by cases e; rw [ha] at h; cases h]
    exact h
structure Qi (n : Nat) (g : List (List Int)) (st go : List Int) (f : List (Option Int)) (ks : List (Key × T)) (qs : List Int) (k : Nat) : Prop where
  keys : ks.map (·.1) = qs.map Sum.inl
  nd : qs.Nodup
  wk : ∀ v ∈ qs, ∃ ps d, Back ks v ps ∧ Wk n g st f v ps d
  rg : ∀ v ∈ qs, 0 ≤ v ∧ v < (n : Int)
  mono : ∀ (i j : Nat) (u v du dv : Int), i ≤ j → qs[i]? = some u → qs[j]? = some v → f[u.toNat]? = some (some du) → f[v.toNat]? = some (some dv) → du ≤ dv
  bnd : ∀ (i : Nat) (u du : Int), k ≤ i → qs[i]? = some u → f[u.toNat]? = some (some du) → ∀ w ∈ qs, ∀ dw, f[w.toNat]? = some (some dw) → dw ≤ du + 1
  cl : ∀ i, i < k → ∀ u, qs[i]? = some u → ∀ r, g[u.toNat]? = some r → ∀ a ∈ r, a ∈ qs
  st : ∀ s ∈ st, s ∈ qs
  ng : ∀ v ∈ qs, v ∉ go
theorem Qi.all {n k : Nat} {g : List (List Int)} {st go : List Int} {f : List (Option Int)} {ks : List (Key × T)} {qs : List Int} (hd : Dist n g st f) (q : Qi n g st go f ks qs k) (B : Int) (hB : ∀ i u du, k ≤ i → qs[i]? = some u → f[u.toNat]? = some (some du) → B ≤ du) : ∀ (m w : Nat), f[w]? = some (some (m : Int)) → (m : Int) ≤ B → (w : Int) ∈ qs
  | 0, w, e, _ => by
    have l := (List.getElem?_eq_some_iff.mp e).1
    rw [hd.len] at l
    exact q.st _ ((hd.zero w l).mp e)
  | m + 1, w, e, hm => by
    obtain ⟨x, r, xn, ex, gx, hw⟩ := hd.back w _ e (by omega)
    have ex' : f[x]? = some (some (m : Int)) := by rw [ex]; congr 2; omega
    have xin := q.all hd B hB m x ex' (by omega)
    obtain ⟨i, hi⟩ := List.getElem?_of_mem xin
    have ik : i < k := by
      rcases Nat.lt_or_ge i k with c | c
      · exact c
      · have := hB i _ _ c hi (by rw [Int.toNat_natCast]; exact ex')
        omega
    exact q.cl i ik _ hi r (by rw [Int.toNat_natCast]; exact gx) _ hw
theorem Qi.at_ {n k : Nat} {g : List (List Int)} {st go : List Int} {f : List (Option Int)} {ks : List (Key × T)} {qs : List Int} (hd : Dist n g st f) (q : Qi n g st go f ks qs k) {u : Int} {d : Nat} (eu : qs[k]? = some u) (fu : f[u.toNat]? = some (some (d : Int))) (w : Int) (m : Int) (w0 : 0 ≤ w) (e : f[w.toNat]? = some (some m)) (hm : m ≤ d) : w ∈ qs := by
  have m0 := hd.nn _ _ e
  have := q.all hd d (fun i v dv hi ev fv => q.mono k i u v d dv hi eu ev fu fv) m.toNat w.toNat (by rw [e, Int.toNat_of_nonneg m0]) (by omega)
  rwa [Int.toNat_of_nonneg w0] at this
theorem Qi.end_ {n k : Nat} {g : List (List Int)} {st go : List Int} {f : List (Option Int)} {ks : List (Key × T)} {qs : List Int} (hd : Dist n g st f) (q : Qi n g st go f ks qs k) (hk : qs.length ≤ k) (w : Int) (m : Int) (w0 : 0 ≤ w) (e : f[w.toNat]? = some (some m)) : w ∈ qs := by
  have m0 := hd.nn _ _ e
  have := q.all hd m (fun i v dv hi ev fv => absurd (List.getElem?_eq_some_iff.mp ev).1 (by omega)) m.toNat w.toNat (by rw [e, Int.toNat_of_nonneg m0]) (by omega)
  rwa [Int.toNat_of_nonneg w0] at this
/-- a node found anew -/
theorem Qi.dist {n k d : Nat} {g : List (List Int)} {st go : List Int} {f : List (Option Int)} {ks : List (Key × T)} {qs r : List Int} (hd : Dist n g st f) (hg : Gr n g) (q : Qi n g st go f ks qs k) {u a : Int} (eu : qs[k]? = some u) (fu : f[u.toNat]? = some (some (d : Int))) (er : g[u.toNat]? = some r) (ha : a ∈ r) (na : a ∉ qs) : f[a.toNat]? = some (some ((d + 1 : Nat) : Int)) := by
  obtain ⟨a0, _⟩ := hg.nd r (List.mem_of_getElem? er) a ha
  obtain ⟨d', hle, ed⟩ := hd.succ u.toNat d r fu er a ha
  have : ¬ d' ≤ d := fun c => na (q.at_ hd eu fu a d' a0 ed c)
  rw [ed]; congr 2; omega
theorem Qi.add {n k d : Nat} {g : List (List Int)} {st go : List Int} {f : List (Option Int)} {ks : List (Key × T)} {qs r : List Int} (hd : Dist n g st f) (hg : Gr n g) (q : Qi n g st go f ks qs k) {u a : Int} (eu : qs[k]? = some u) (fu : f[u.toNat]? = some (some (d : Int))) (er : g[u.toNat]? = some r) (ha : a ∈ r) (na : a ∉ qs) (ng : a ∉ go) : Qi n g st go f (setK ks (.inl a) (.int u)) (qs ++ [a]) k := by
  have fa := q.dist hd hg eu fu er ha na
  have a0 := hg.nd r (List.mem_of_getElem? er) a ha
  have la := look_out q.keys na
  have lk : setK ks (.inl a) (.int u) = ks ++ [(.inl a, .int u)] := by
    unfold setK; rw [if_neg (by rw [any_inl q.keys, decide_eq_false na]; decide)]
  have kl := (List.getElem?_eq_some_iff.mp eu).1
  have uin := List.mem_of_getElem? eu
  have split : ∀ (i : Nat) (v : Int), (qs ++ [a])[i]? = some v → qs[i]? = some v ∨ (i = qs.length ∧ v = a) := fun i v h => by
    have il := (List.getElem?_eq_some_iff.mp h).1
    rw [List.length_append, List.length_singleton] at il
    by_cases c : i < qs.length
    · rw [List.getElem?_append_left c] at h; exact .inl h
    · rw [List.getElem?_append_right (by omega), show i - qs.length = 0 from by omega] at h
      cases h; exact .inr ⟨by omega, rfl⟩
  have big : ∀ w ∈ qs, ∀ dw, f[w.toNat]? = some (some dw) → dw ≤ (d : Int) + 1 := fun w hw dw e => q.bnd k u d (Nat.le_refl _) eu fu w hw dw e
  have wkm : ∀ {v ps}, Back ks v ps → Back (setK ks (.inl a) (.int u)) v ps := fun b => b.mono la
  refine ⟨by rw [lk, List.map_append, List.map_append, q.keys]; rfl, nodup_snoc q.nd na, fun v hv => ?_, fun v hv => ?_, fun i j x y dx dy hij ex ey fx fy => ?_, fun i x dx hi ex fx w hw dw ew => ?_, fun i hi x ex r' er' b hb => ?_, fun s hs => List.mem_append_left _ (q.st s hs), fun v hv => ?_⟩
  · rcases List.mem_append.mp hv with m | m
    · obtain ⟨ps, d', h1, h2⟩ := q.wk v m
      exact ⟨ps, d', wkm h1, h2⟩
    · rw [List.mem_singleton.mp m]
      obtain ⟨ps, d', h1, h2⟩ := q.wk u uin
      have dd : d' = d := by
        have h := h2.fv
        rw [fu] at h
        injection h with h; injection h with h; omega
      subst dd
      exact ⟨ps ++ [a], d' + 1, .more (by rw [look_set, if_pos rfl]) (wkm h1), h2.snoc er ha a0 fa⟩
  · rcases List.mem_append.mp hv with m | m
    · exact q.rg v m
    · rw [List.mem_singleton.mp m]; exact a0
  · rcases split i x ex with h | ⟨h, rfl⟩
    · rcases split j y ey with h' | ⟨h', rfl⟩
      · exact q.mono i j x y dx dy hij h h' fx fy
      · have := big x (List.mem_of_getElem? h) dx fx
        rw [fa] at fy; injection fy with fy; injection fy with fy
        omega
    · rcases split j y ey with h' | ⟨h', rfl⟩
      · have := (List.getElem?_eq_some_iff.mp h').1
        omega
      · rw [fx] at fy; injection fy with fy; injection fy with fy
        omega
  · have dxl : (d : Int) ≤ dx := by
      rcases split i x ex with h | ⟨_, rfl⟩
      · exact q.mono k i u x d dx hi eu h fu fx
      · rw [fa] at fx; injection fx with fx; injection fx with fx; omega
    rcases List.mem_append.mp hw with m | m
    · have := big w m dw ew; omega
    · rw [List.mem_singleton.mp m, fa] at ew
      injection ew with ew; injection ew with ew; omega
  · rcases split i x ex with h | ⟨h, rfl⟩
    · exact List.mem_append_left _ (q.cl i hi x h r' er' b hb)
    · omega
  · rcases List.mem_append.mp hv with m | m
    · exact q.ng v m
    · rw [List.mem_singleton.mp m]; exact ng
theorem Qi.step {n k : Nat} {g : List (List Int)} {st go : List Int} {f : List (Option Int)} {ks : List (Key × T)} {qs r : List Int} (q : Qi n g st go f ks qs k) {u : Int} (eu : qs[k]? = some u) (er : g[u.toNat]? = some r) (h : ∀ a ∈ r, a ∈ qs) : Qi n g st go f ks qs (k + 1) := by
  refine ⟨q.keys, q.nd, q.wk, q.rg, q.mono, fun i x dx hi => q.bnd i x dx (by omega), fun i hi x ex r' er' b hb => ?_, q.st, q.ng⟩
  by_cases c : i < k
  · exact q.cl i c x ex r' er' b hb
  · rw [show i = k from by omega, eu] at ex
    cases ex
    rw [er] at er'
    cases er'
    exact h b hb
theorem ok_dc {j : Nat} {c : T} {e : FSt} {P : List (Key × T) → Prop} (hj : j < e.length) (xs : List Int) (p : ∀ (ks : List (Key × T)) (fo : List Int), ks.map (·.1) = fo.map Sum.inl → fo.Nodup → (∀ p ∈ ks, p.2 = c) → (∀ v, v ∈ fo ↔ v ∈ xs) → P ks) : Ok (dcTP (.nm j) fYes (fVar j) (fC c) e (xs.map T.int) []) P := by
  obtain ⟨ks, fo, q, h1, h2, h3, h4⟩ := dc_ints (c := c) hj xs [] [] rfl List.nodup_nil (fun p h => nomatch h)
  rw [ok_eq q]
  exact p ks fo h1 h2 h3 fun v => by rw [h4]; simp
theorem keys_ints {ks : List (Key × T)} {qs : List Int} (h : ks.map (·.1) = qs.map Sum.inl) : (ks.map fun kv => keyV kv.1) = qs.map T.int := by
  have : (ks.map fun kv => keyV kv.1) = (ks.map (·.1)).map keyV := by rw [List.map_map]; rfl
  rw [this, h, List.map_map]; rfl
def SpR (n : Nat) (g : List (List Int)) (st go : List Int) (f : List (Option Int)) (t : T) : Prop := (t = .non ∧ ∀ w ∈ go, ∀ d, 0 ≤ w → f[w.toNat]? ≠ some (some d)) ∨ ∃ ps v d, t = rowI ps ∧ Wk n g st f v ps d ∧ v ∈ go ∧ ∀ w ∈ go, ∀ e, 0 ≤ w → f[w.toNat]? = some (some e) → (d : Int) ≤ e
theorem sp_F {k n : Nat} {g : List (List Int)} {st go : List Int} {f : List (Option Int)} (hg : Gr n g) (hs : ∀ x ∈ st, 0 ≤ x ∧ x < (n : Int)) (hd : Dist n g st f) (ls : st.length ≤ 1000) (lg : go.length ≤ 1000) : ∃ t, fu 1000000 (k + 2) 0 [grT g, rowI st, rowI go] = some t ∧ SpR n g st go f t := by
  have gl := hg.len
  have gle := hg.le
  have key : Ok (fu 1000000 (k + 2) 0 [grT g, rowI st, rowI go]) (SpR n g st go f) := by
    rw [u_0]
    refine k_fun rfl ?_
    unfold s_0 grT rowI
    rw [s_seq, Fu.s_set, k_dc]
    walk_at "k1"
    refine ⟨by rw [List.length_map]; omega, ?_⟩
    refine ok_dc (by show 10 < 11; decide) go fun W wo w1 w2 w3 w4 => ?_
    have win : ∀ x : Int, (lookK W (.inl x)).isSome = decide (x ∈ go) := fun x => by
      rw [look_is w1]; exact decide_eq_decide.mpr (w4 x)
    walk_at "k1"
    refine n_cutF (fun e' => ∃ o4, e' = [some (.lst (g.map rowI)), some (.lst (st.map T.int)), some (.lst (go.map T.int)), some (.dic W), o4, none, none, none, none, none, none] ∧ ∀ v ∈ st, v ∉ go) ?_ ?_
    · walk_at "k1"
      refine for_inv (fun i e' => (∃ o4, e' = [some (.lst (g.map rowI)), some (.lst (st.map T.int)), some (.lst (go.map T.int)), some (.dic W), o4, none, none, none, none, none, none]) ∧ ∀ v ∈ st.take i, v ∉ go) ⟨⟨_, rfl⟩, fun v h => by simp at h⟩ ?_ ?_
      · rintro i x _ hx ⟨⟨o, rfl⟩, hi⟩
        rw [List.getElem?_map] at hx
        obtain ⟨a, ea, rfl⟩ := Option.map_eq_some_iff.mp hx
        have ain := List.mem_of_getElem? ea
        obtain ⟨a0, a1⟩ := hs a ain
        walk_at "k1"
        rw [dinT_d, win]
        walk_at "k1"
        by_cases c : a ∈ go
        · rw [decide_eq_true c]
          walk_at "k1"
          have fa := (hd.zero a.toNat (by omega)).mpr (by rw [Int.toNat_of_nonneg a0]; exact ain)
          refine .inr ⟨[a], a, 0, rfl, ⟨rfl, rfl, ⟨a, rfl, ain⟩, fun y hy => by rw [List.mem_singleton.mp hy]; exact ⟨a0, a1⟩, fun i u v r e1 e2 => (by cases e2), fa⟩, c, fun w _ e _ he => hd.nn _ _ he⟩
        · rw [decide_eq_false c]
          walk_at "k1"
          refine ⟨⟨_, rfl⟩, fun v hv => ?_⟩
          rw [show st.take (i + 1) = st.take i ++ [a] from by rw [List.take_succ, ea]; rfl] at hv
          rcases List.mem_append.mp hv with m | m
          · exact hi v m
          · rw [List.mem_singleton.mp m]; exact c
      · rintro _ ⟨⟨o, rfl⟩, hi⟩
        rw [List.length_map, List.take_length] at hi
        exact ⟨_, rfl, hi⟩
    rintro _ ⟨o4, rfl, hng⟩
    rw [s_seq, s_own, k_dc]
    walk_at "k1"
    refine ⟨by rw [List.length_map]; omega, ?_⟩
    refine ok_dc (by show 4 < 11; decide) st fun ks0 qs0 w5 w6 w7 w8 => ?_
    walk_at "k1"
    rw [s_seq, s_own]
    walk_at "k1"
    rw [dkeysT_d, keys_ints w5]
    walk_at "k1"; walk_at "ks"
    have q0 : Qi n g st go f ks0 qs0 0 := by
      have z : ∀ v ∈ qs0, f[v.toNat]? = some (some 0) ∧ 0 ≤ v ∧ v < (n : Int) := fun v hv => by
        have vs := (w8 v).mp hv
        obtain ⟨v0, v1⟩ := hs v vs
        exact ⟨(hd.zero v.toNat (by omega)).mpr (by rw [Int.toNat_of_nonneg v0]; exact vs), v0, v1⟩
      refine ⟨w5, w6, fun v hv => ?_, fun v hv => (z v hv).2, fun i j u v du dv _ eu ev fu fv => ?_, fun i u du _ eu fu w hw dw fw => ?_, fun i hi => absurd hi (Nat.not_lt_zero _), fun s hs' => (w8 s).mpr hs', fun v hv => hng v ((w8 v).mp hv)⟩
      · obtain ⟨t, et⟩ := look_in w5 hv
        obtain ⟨p, p1, p2, p3⟩ := look_some et
        rw [w7 p p1] at p3
        obtain ⟨z1, z2⟩ := z v hv
        exact ⟨[v], 0, .one (by rw [et, ← p3]), ⟨rfl, rfl, ⟨v, rfl, (w8 v).mp hv⟩, fun y hy => by rw [List.mem_singleton.mp hy]; exact z2, fun i u v r e1 e2 => (by cases e2), z1⟩⟩
      · rw [(z u (List.mem_of_getElem? eu)).1] at fu
        rw [(z v (List.mem_of_getElem? ev)).1] at fv
        cases fu; cases fv; exact Int.le_refl _
      · have := hd.nn _ _ fu
        rw [(z w hw).1] at fw
        cases fw; omega
    rw [s_seq, s_while]
    refine while_inv (fun m e' => ∃ (ks : List (Key × T)) (qs : List Int) (j : Nat) (o4 o8 o9 : Option T), e' = [some (.lst (g.map rowI)), some (.lst (st.map T.int)), some (.lst (go.map T.int)), some (.dic W), o4, some (.dic ks), some (.lst (qs.map T.int)), some (.int j), o8, o9, none] ∧ Qi n g st go f ks qs j ∧ m + j = n ∧ j ≤ qs.length) ?_ _ n _ (by omega) ⟨ks0, qs0, 0, _, _, _, rfl, q0, rfl, Nat.zero_le _⟩
    rintro m _ ⟨ks, qs, j, o4, o8, o9, rfl, q, hm, hj⟩
    have qle := nodup_le n qs q.nd q.rg
    walk_at "k1"
    rw [List.length_map]
    by_cases c : j < qs.length
    · rw [if_pos (by rw [decide_eq_true_eq]; omega)]
      obtain ⟨u, eu⟩ : ∃ u, qs[j]? = some u := ⟨_, List.getElem?_eq_getElem c⟩
      have uin := List.mem_of_getElem? eu
      obtain ⟨u0, u1⟩ := q.rg u uin
      obtain ⟨r, er⟩ : ∃ r, g[u.toNat]? = some r := ⟨_, List.getElem?_eq_getElem (by omega)⟩
      obtain ⟨pu, d, _, wu⟩ := q.wk u uin
      have fu := wu.fv
      walk_at "ks"
      rw [ok_eq (at_g2 eu)]
      walk_at "k1"; walk_at "ks"
      rw [ok_eq (at_gi u0 er)]
      walk_at "k1"
      refine for_inv (fun i e' => ∃ (ks : List (Key × T)) (qs : List Int) (o9 : Option T), e' = [some (.lst (g.map rowI)), some (.lst (st.map T.int)), some (.lst (go.map T.int)), some (.dic W), o4, some (.dic ks), some (.lst (qs.map T.int)), some (.int ((j : Int) + 1)), some (.int u), o9, none] ∧ Qi n g st go f ks qs j ∧ qs[j]? = some u ∧ ∀ a ∈ r.take i, a ∈ qs) ⟨ks, qs, _, rfl, q, eu, fun a h => by simp at h⟩ ?_ ?_
      · rintro i x _ hx ⟨ks, qs, o9, rfl, q, eu, hi⟩
        rw [List.getElem?_map] at hx
        obtain ⟨a, ea, rfl⟩ := Option.map_eq_some_iff.mp hx
        have ain := List.mem_of_getElem? ea
        obtain ⟨a0, a1⟩ := hg.nd r (List.mem_of_getElem? er) a ain
        have qle := nodup_le n qs q.nd q.rg
        have et : r.take (i + 1) = r.take i ++ [a] := by rw [List.take_succ, ea]; rfl
        walk_at "k1"
        rw [dinT_d, look_is q.keys]
        walk_at "k1"
        by_cases z : a ∈ qs
        · rw [decide_eq_true z]
          walk_at "k1"
          refine ⟨ks, qs, _, rfl, q, eu, fun b hb => ?_⟩
          rw [et] at hb
          rcases List.mem_append.mp hb with m | m
          · exact hi b m
          · rw [List.mem_singleton.mp m]; exact z
        · rw [decide_eq_false z]
          walk_at "k1"
          rw [s_seq, s_dput]
          walk_at "k1"
          rw [keyT_i]
          simp only [asDc_d, ok_some]
          refine ⟨?_, ?_⟩
          · have := congrArg List.length q.keys
            rw [List.length_map, List.length_map] at this
            omega
          walk_at "ks"
          rw [dinT_d, win]
          walk_at "k1"
          have fa := q.dist hd hg eu fu er ain z
          by_cases y : a ∈ go
          · rw [decide_eq_true y]
            walk_at "k1"
            obtain ⟨ps, d', bu, wu'⟩ := q.wk u (List.mem_of_getElem? eu)
            have dd : d' = d := by
              have h := wu'.fv
              rw [fu] at h
              injection h with h; injection h with h; omega
            subst dd
            have wa := wu'.snoc er ain ⟨a0, a1⟩ fa
            have ba : Back (setK ks (.inl a) (.int u)) a (ps ++ [a]) := .more (by rw [look_set, if_pos rfl]) (bu.mono (look_out q.keys z))
            have pl : (ps ++ [a]).length ≤ 100 := by
              have := wa.len
              have := dist_lt hd fa
              omega
            rw [ok_eq (path_F ba pl (by decide))]
            refine .inr ⟨_, a, d' + 1, rfl, wa, y, fun w hw e w0 he => ?_⟩
            by_cases c : e ≤ (d' : Int)
            · exact absurd hw (q.ng w (q.at_ hd eu fu w e w0 he c))
            · omega
          · rw [decide_eq_false y]
            walk_at "k1"
            refine ⟨by rw [List.length_map]; omega, _, qs ++ [a], _, by rw [List.map_append]; rfl, q.add hd hg eu fu er ain z y, ?_, fun b hb => ?_⟩
            · rw [List.getElem?_append_left (List.getElem?_eq_some_iff.mp eu).1]; exact eu
            · rw [et] at hb
              rcases List.mem_append.mp hb with m | m
              · exact List.mem_append_left _ (hi b m)
              · exact List.mem_append_right _ m
      · rintro _ ⟨ks, qs, o9, rfl, q, eu, hi⟩
        rw [List.length_map, List.take_length] at hi
        have jl := (List.getElem?_eq_some_iff.mp eu).1
        have qle := nodup_le n qs q.nd q.rg
        exact ⟨m - 1, by omega, ks, qs, j + 1, _, _, _, rfl, q.step eu er hi, by omega, jl⟩
    · rw [if_neg (by rw [decide_eq_true_eq]; omega)]
      walk_at "k1"
      exact .inl ⟨rfl, fun w hw d w0 e => q.ng w (q.end_ hd (by omega) w d w0 e) hw⟩
  obtain ⟨t, q, h⟩ := key.eq
  exact ⟨t, q, h⟩
theorem mainF (ns : List Int) : fu 1000000 115 15 [scT ns] = some (.bl true) := by
  refine eq_ok ?_
  rw [u_15]
  refine k_fun rfl ?_
  unfold s_15
  walk_at "ks"
  obtain ⟨zs, q1, zl, zr⟩ := dF (k := 112) ns 0 8 840 (by decide) (by decide) (by decide)
  rw [ok_eq q1]
  have hz : Szs zs := ⟨zl, fun z h => (zr z h).1⟩
  walk_at "k1"; walk_at "ks"
  obtain ⟨n0, g0, q2, hg0⟩ := grF (k := 111) ns zs hz
  rw [ok_eq q2]
  refine n_cutF (fun e' => ∃ (n : Nat) (g : List (List Int)), e' = [some (scT ns), some (.lst (zs.map T.int)), some (grT g), none, none, none, none, none] ∧ Gr n g) ?_ ?_
  · obtain ⟨z0, e0, n0'⟩ := hz.at_ (k := 0) (by decide) (by decide)
    obtain ⟨n1, g1, q3, hg1⟩ := lgF (k := 111) ns zs hz
    walk_at "k1"
    rw [ok_eq e0]
    walk_at "k1"
    rw [ok_eq q3]
    refine w_ifE (fun _ => ⟨_, _, rfl, hg1⟩) fun _ => ⟨_, _, rfl, hg0⟩
  rintro _ ⟨n, g, rfl, hg⟩
  have gl := hg.len
  have gle := hg.le
  obtain ⟨z4, e4, n4⟩ := hz.at_ (k := 4) (by decide) (by decide)
  obtain ⟨z5, e5, n5⟩ := hz.at_ (k := 5) (by decide) (by decide)
  obtain ⟨z6, e6, n6⟩ := hz.at_ (k := 6) (by decide) (by decide)
  obtain ⟨z7, e7, n7⟩ := hz.at_ (k := 7) (by decide) (by decide)
  obtain ⟨st, q4, hs, sl⟩ := stF (k := 110) ns 2 z4 n (by decide) gle
  obtain ⟨s2, q5, sm, sl2⟩ := tuF (k := 113) st z5 (by omega)
  obtain ⟨go, q4', hgo, sl'⟩ := stF (k := 110) ns 3 z6 n (by decide) gle
  obtain ⟨g2, q5', sm', sl2'⟩ := tuF (k := 113) go z7 (by omega)
  have hs2 : ∀ x ∈ s2, 0 ≤ x ∧ x < (n : Int) := fun x h => hs x ((sm x).mp h)
  have hg2 : ∀ x ∈ g2, 0 ≤ x ∧ x < (n : Int) := fun x h => hgo x ((sm' x).mp h)
  obtain ⟨f, _, hd⟩ := GR.dist_F n g s2 hg hs2 (by omega)
  have fl := hd.len
  unfold grT
  walk_at "ks"
  rw [List.length_map, gl, ok_eq e4]
  walk_at "k1"
  rw [ok_eq q4, ok_eq e5]
  walk_at "k1"
  rw [ok_eq q5]
  walk_at "k1"; walk_at "ks"
  rw [List.length_map, gl, ok_eq e6]
  walk_at "k1"
  rw [ok_eq q4', ok_eq e7]
  walk_at "k1"
  rw [ok_eq q5']
  walk_at "k1"; walk_at "ks"
  have cp : fu 1000000 114 13 [.lst (g.map rowI)] = some (.lst (g.map rowI)) := cpF (k := 113) g (by omega)
  rw [ok_eq cp]
  unfold rowI
  walk_at "k1"
  obtain ⟨t, qt, ht⟩ := sp_F (k := 112) hg hs2 hd (by omega) (go := g2) (by omega)
  have qt : fu 1000000 114 0 [.lst (g.map rowI), .lst (s2.map T.int), .lst (g2.map T.int)] = some t := qt
  obtain ⟨L, ql, hl⟩ := least_F (k := 112) (go := g2) hg hs2 hd
  have ql : fu 1000000 114 14 [.lst (g.map rowI), .lst (s2.map T.int), .lst (g2.map T.int)] = some (.int L) := ql
  have e1 : eqT (.lst (g.map rowI)) (.lst (g.map rowI)) = some true := eqT_self (b := false) (j := 4) (.lst fun x hx => by
    obtain ⟨r, _, rfl⟩ := List.mem_map.mp hx
    exact Py.ints (k := 1) r) (by decide)
  have e2 : eqT (.lst (s2.map T.int)) (.lst (s2.map T.int)) = some true := eqT_self (b := false) (j := 4) (Py.ints (k := 2) s2) (by decide)
  have e3 : eqT (.lst (g2.map T.int)) (.lst (g2.map T.int)) = some true := eqT_self (b := false) (j := 4) (Py.ints (k := 2) g2) (by decide)
  rw [show (T.lst (g.map fun r => T.lst (r.map T.int))) = T.lst (g.map rowI) from rfl]
  walk_at "ks"
  rw [ok_eq qt]
  walk_at "k1"; walk_at "ks"
  rw [ok_eq ql]
  walk_at "k1"; walk_at "ks"
  rcases hl with ⟨rfl, hn⟩ | ⟨⟨w, hw, w0, ew⟩, hmin⟩
  · rcases ht with ⟨rfl, _⟩ | ⟨ps, v, d, _, wv, hv, _⟩
    · walk_at "k1"
      rw [ok_eq e1]
      walk_at "k1"
      rw [ok_eq e2]
      walk_at "k1"
      rw [ok_eq e3]
    · exact absurd wv.fv (hn v hv _ (hg2 v hv).1)
  rcases ht with ⟨rfl, hn⟩ | ⟨ps, v, d, rfl, wv, hv, hle⟩
  · exact absurd ew (hn w hw _ w0)
  have hL : L = (d : Int) + 1 := by
    have a := hle w hw _ w0 ew
    have b := hmin v hv _ (hg2 v hv).1 wv.fv
    omega
  subst hL
  have dn := dist_lt hd wv.fv
  rw [if_neg (by rw [decide_eq_true_eq]; omega)]
  obtain ⟨s0, h0, hs0⟩ := wv.hd
  have i1 : fu 1000000 114 10 [.lst (ps.map T.int), .int n] = some (.bl true) := inF (k := 112) n ps wv.rg
  have i2 : fu 1000000 114 11 [.lst (g.map rowI), .lst (ps.map T.int)] = some (.bl true) := walk_F (k := 113) hg wv.rg (by have := wv.len; omega) wv.ed
  have pl := wv.len
  unfold rowI
  walk_at "ks"
  rw [List.length_map, gl, ok_eq i1]
  walk_at "k1"
  rw [List.length_map, pl]
  walk_at "k1"
  have a0 : atI (ps.map T.int) 0 = some (.int s0) := at_g2 (j := 0) h0
  have a1 : atI (ps.map T.int) ((d : Int) + 1 - 1) = some (.int v) := by rw [show (d : Int) + 1 - 1 = ((d : Nat) : Int) from by omega]; exact at_g2 wv.last
  rw [if_neg (by rw [decide_eq_true (show ((d + 1 : Nat) : Int) = (d : Int) + 1 from by omega)]; decide)]
  walk_at "ks"
  rw [ok_eq a0, ok_eq mem_ints, decide_eq_true hs0]
  walk_at "k1"
  rw [ok_eq a1, ok_eq mem_ints, decide_eq_true hv]
  walk_at "k1"
  rw [show (T.lst (g.map fun r => T.lst (r.map T.int))) = T.lst (g.map rowI) from rfl, ok_eq i2]
  walk_at "k1"
  rw [s_seq, Fu.s_app, p_some]
  walk_at "k1"
  refine ⟨by rw [List.length_map]; omega, ?_⟩
  walk_at "k1"
  rw [ok_eq e1]
  walk_at "k1"
  rw [ok_eq e2]
  walk_at "k1"
  rw [ok_eq e3]
theorem main : ∀ ns : List Int, ns.length ≤ 63 → ∃ h', fn 1000000 115 15 [.ref 0] [.fro (ns.map D.int)] = .ok (.bl true) h' := fun ns _ => ((sims 1000000 115).f15).law (mainF ns)
end K32
open PySem PySem.W PyProof.Rows in
set_option maxRecDepth 100000 in
set_option maxHeartbeats 0 in
theorem PySem.Challenge.cw_lassoproof_k32_shortest_path_holds : PySem.Challenge.rw_lassoproof_k32_shortest_path.Holds := by
  w_on; o_law; k_head; (case hw => w_witness2)
  k_fill
  refine Mi.walk_law (l := PySem.Challenge.rw_lassoproof_k32_shortest_path) (F := K32.fn 1000000 115 15) (k := 2 * 115) (cad := K32.cad) rfl rfl ⟨rfl, by decide, by decide⟩ (fun w h Y => PySem.W.kIn_of Y) ?F K32.main
  case F =>
    intro w mg fa h KX G hmg
    refine' K32.all_mk KX G hmg ?a0 ?l0 ?c0 ?k0 ?a1 ?l1 ?c1 ?k1 ?a2 ?l2 ?c2 ?k2 ?a3 ?l3 ?c3 ?k3 ?a4 ?l4 ?c4 ?k4 ?a5 ?l5 ?c5 ?k5 ?a6 ?l6 ?c6 ?k6 ?a7 ?l7 ?c7 ?k7 ?a8 ?l8 ?c8 ?k8 ?a9 ?l9 ?c9 ?k9 ?a10 ?l10 ?c10 ?k10 ?a11 ?l11 ?c11 ?k11 ?a12 ?l12 ?c12 ?k12 ?a13 ?l13 ?c13 ?k13 ?a14 ?l14 ?c14 ?k14 ?a15 ?l15 ?c15 ?k15 ?z_bool ?z_int ?z_isinstance ?z_len ?z_list ?z_range ?z_reversed ?z_sorted
    (case a0 => k_is)
    (case l0 => k_is)
    (case c0 => k_is)
    (case k0 => k_is)
    (case a1 => k_is)
    (case l1 => k_is)
    (case c1 => k_is)
    (case k1 => k_is)
    (case a2 => k_is)
    (case l2 => k_is)
    (case c2 => k_is)
    (case k2 => k_is)
    (case a3 => k_is)
    (case l3 => k_is)
    (case c3 => k_is)
    (case k3 => k_is)
    (case a4 => k_is)
    (case l4 => k_is)
    (case c4 => k_is)
    (case k4 => k_is)
    (case a5 => k_is)
    (case l5 => k_is)
    (case c5 => k_is)
    (case k5 => k_is)
    (case a6 => k_is)
    (case l6 => k_is)
    (case c6 => k_is)
    (case k6 => k_is)
    (case a7 => k_is)
    (case l7 => k_is)
    (case c7 => k_is)
    (case k7 => k_is)
    (case a8 => k_is)
    (case l8 => k_is)
    (case c8 => k_is)
    (case k8 => k_is)
    (case a9 => k_is)
    (case l9 => k_is)
    (case c9 => k_is)
    (case k9 => k_is)
    (case a10 => k_is)
    (case l10 => k_is)
    (case c10 => k_is)
    (case k10 => k_is)
    (case a11 => k_is)
    (case l11 => k_is)
    (case c11 => k_is)
    (case k11 => k_is)
    (case a12 => k_is)
    (case l12 => k_is)
    (case c12 => k_is)
    (case k12 => k_is)
    (case a13 => k_is)
    (case l13 => k_is)
    (case c13 => k_is)
    (case k13 => k_is)
    (case a14 => k_is)
    (case l14 => k_is)
    (case c14 => k_is)
    (case k14 => k_is)
    (case a15 => k_is)
    (case l15 => k_is)
    (case c15 => k_is)
    (case k15 => k_is)
    (case z_bool => k_is)
    (case z_int => k_is)
    (case z_isinstance => k_is)
    (case z_len => k_is)
    (case z_list => k_is)
    (case z_range => k_is)
    (case z_reversed => k_is)
    (case z_sorted => k_is)

import PyProof.Rows.All
import HandS.Conv
import Wide.All
import OpenK.AllK
import Wide.FinOn
import HandS.ForMost
import HandS.ForExc
import HandS.AnyAll
import HandS.GenList
import HandS.Comp
import HandS.CallSlots
import HandS.Defaults
import HandS.EndTab
import HandS.Iter
import HandS.Rev
import HandS.Zip
import HandS.IsInst
import HandS.TupAny
import HandS.Deep
import HandS.More
import HandS.Star
import HandS.Dict
import HandS.DictComp
import HandS.SortInts
import KE.KDictList
import KE.KRevIter
import HandS.RevTup
import HandS.List
import HandS.SetFor
import HandS.Set
import HandS.FStr
import HandS.WideBits
import KE.KNest
import HandS.TupLe
import KE.KDictZip
import KE.GoesZip
import KE.GoesMore
import HandS.Text
import HandS.StrMore
import HandS.MapJoin
import KE.DataMinKey
import PyProof.WalkInts
import HandS.Strs
import HandS.RaiseMore
import PyProof.ReprRoads
import HandS.TryOnly
import PyProof.Rows.Range3
import PyProof.StrLawsRepr
import HandS.Codes
import HandS.ExcInit
import HandS.ExcField
import HandS.ExcIs
import KE.KExcIs
import HandS.Wide
import PySem.Challenge.RW_lassoproof_k03_value_and_truth
set_option Elab.async false
set_option linter.all false
set_option maxRecDepth 100000
set_option maxHeartbeats 4000000
namespace Mi
open PySem PySem.Spec PyProof.Rows L2
structure Room (k : Nat) (A : Around) : Prop where
  rm : L2.Room k A
  gd : A.guards = some []
section
variable {j k : Nat} {A : Around}
theorem Room.hd (r : Room k A) : A.handled = none := r.rm.hd
theorem Room.un (r : Room k A) : A.units + 16 * k + 200 < cLine := r.rm.un
theorem Room.depth (r : Room k A) : A.depth < recursionLimit := r.rm.depth
theorem Room.units (r : Room k A) : A.units + 64 < cLine := r.rm.units
theorem Room.mono (r : Room k A) (h : j ≤ k) : Room j A := ⟨r.rm.mono h, r.gd⟩
theorem Room.deeper (r : Room (k + 1) A) (env : Env) : Room k (A.deeper env) := ⟨r.rm.deeper env, r.gd⟩
end
structure FnOk (P : Program) (w : World) (K : PySem.W.Frag) (mg : Str → Option Value) (base : Heap) (cx : CXT) (k : Nat) (f : Addr) (fd : FuncData) (ps : List Str) (sp : Sp) : Prop where
  len : ∀ vs H Q E, sp vs H Q E → vs.length = ps.length
  run : ∀ (A : Around) (outer : List Env) (s : Shared) (H : Hp) (args : Args) (us : List Value) (vs : List V) (Q : VK) (E : XK), Mi.Room k A → Env0 P w K mg base A outer s H →
    BindsTo s fd args (ps.zip us) → Vals vs us → sp vs H Q E → codeAny (model P w) A (.call (.ref f) args) (CR cx outer P w H s Q E) s
section
variable {P : Program} {w : World} {K : PySem.W.Frag} {mg : Str → Option Value} {base : Heap} {cx : CXT} {j k : Nat} {f : Addr} {fd : FuncData} {ps : List Str} {sp sp' : Sp}
theorem FnOk.mono (F : FnOk P w K mg base cx j f fd ps sp) (h : j ≤ k) : FnOk P w K mg base cx k f fd ps sp := ⟨F.len, fun A o s H ar us vs Q E r => F.run A o s H ar us vs Q E (r.mono h)⟩
theorem FnOk.imp (F : FnOk P w K mg base cx k f fd ps sp) (h : ∀ vs H Q E, sp' vs H Q E → sp vs H Q E) : FnOk P w K mg base cx k f fd ps sp' :=
  ⟨fun vs H Q E q => F.len vs H Q E (h _ _ _ _ q), fun A o s H ar us vs Q E r e b v q => F.run A o s H ar us vs Q E r e b v (h _ _ _ _ q)⟩
end
/-- a def keeps its promise if its body does -/
theorem fn_of {cx : CXT} {P : Program} {w : World} {K : PySem.W.Frag} {mg : Str → Option Value} {base : Heap} {k : Nat} {f : Addr} {name qual : Str} {params : Arguments} {body : List Stmt} {scope : Scope} {dV kV doc pm cdv ct oc : Value} {an od : Option Addr}
    {osl : Array (Option Value)} {N ps : List Str} {sp : Sp} (at_ : K.lookup f = some ⟨oc, od, .func (PySem.W.fnOf name qual params body scope dV kV doc pm an cdv ct), osl⟩) (cod : PySem.W.codeIn K cdv qual = true) (S : FnScope N ps scope)
    (ln : ∀ vs H Q E, sp vs H Q E → vs.length = ps.length)
    (bd : ∀ (A : Around) (outer : List Env) (s : Shared) (H : Hp) (vs : List V) (Q : VK) (E : XK), Mi.Room k (A.deeper (envOfC qual scope s.heap.objs.size f cdv)) → sp vs H Q E →
      ∃ t, PSs (cxOf cx P w K mg base N qual scope f cdv A outer s H E) body t ∧ t { nx := fun _ H' => Q .non H', rt := Q } (L2.start N vs) H) :
    FnOk P w K mg base cx (k + 1) f (PySem.W.fnOf name qual params body scope dV kV doc pm an cdv ct) ps sp := by
  refine ⟨ln, fun A outer s H ar us vs Q E room e0 bnd rel wish => ?_⟩
  have keep : ∀ b o, base.get? b = some o → s.heap.get? b = some o := fun b o e => (e0.bs b o e).1
  have kinds : ∀ y ∈ ps.zip us, scope.names.lookup y.1 = some .local ∨ (scope.names.lookup y.1 = some .cell ∧ ((cellsFrom (s.heap.objs.size + 1) scope.names []).lookup y.1).isSome = true) := by
    rintro ⟨n, v⟩ hy
    exact (S.par n (List.of_mem_zip hy).1).imp id fun q => ⟨q, PySem.W.cellsFrom_some _ _ _ (.inl q)⟩
  refine codeAny_call_function room.depth (e0.mod.kin.keeps keep _ _ at_) rfl S.co S.gen rfl (PySem.W.codeRec_of (e0.mod.kin.keeps keep) cod) (bnd _ _ _ _ (wpAny_newFunctionEnv_cells S.kind kinds fun env he s1 x => ?_))
  cases he
  refine ⟨(e0.mod.nolimit.keeps keep).keeps x.toInCall.keep, codeAny_func ?_⟩
  obtain ⟨t, ht, hq⟩ := bd A outer s H vs Q E (room.deeper _) wish
  have I := inv_start (CX := cx) (E := E) S room.hd e0 (ln _ _ _ _ wish) rel x
  have fin : ∀ (σ1 : L2.St) (H1 : Hp) (v : V) (u : Value) (s2 : Shared), Inv (cxOf cx P w K mg base N qual scope f cdv A outer s H E) [] σ1 H1 s2 → RelV v u → Q v H1 → CE outer P w H s Q u s2 := fun σ1 H1 v u s2 J r q => ⟨v, H1, J.os, J.bare, J.base, J.hok, r, q⟩
  refine wpAny_mono (ht.run [] s1 _ H _ I hq) (fun fl s2 hs => ?_) fun e s2 hs => hs
  cases fl with
  | ret u => obtain ⟨v, σ1, H1, J, r, q⟩ := hs; exact fin σ1 H1 v u s2 J r q
  | next => obtain ⟨σ1, H1, J, q⟩ := hs; exact fin σ1 H1 .non .none s2 J rfl q
  | brk => obtain ⟨_, _, _, q⟩ := hs; exact q.elim
  | cont => obtain ⟨_, _, _, q⟩ := hs; exact q.elim
section
variable {X : Cx} {cx : CXT} {k : Nat} {f C : Addr} {fd : FuncData} {ps : List Str} {sp : Sp} {dvs : List V} {ds : List Value} {E : L2.St → XK} {x : Str} {p pos : Pos} {e : Expr} {es : List Expr} {t : TA}
/-- a known def runs -/
theorem FnOk.go {pins : List (Addr × Obj)} {σ : L2.St} {H : Hp} {s : Shared} {Q : VK} {E : XK} {ar : Args} {us : List Value} {vs : List V} (F : Mi.FnOk X.prog X.w X.K X.mg X.base cx k f fd ps sp) (room : Mi.Room k X.A) (I : Inv X pins σ H s)
    (b : BindsTo s fd ar (ps.zip us)) (r : Vals vs us) (h : sp vs H Q E) (out : ∀ e s1, cx X.stack H s E e s1 → X.xe e s1) :
    codeAny (model X.prog X.w) X.A (.call (.ref f) ar) (wants (EP X pins σ Q) X.xe) s := codeAny_mono (F.run X.A X.stack s H ar us vs Q E room I.env0 b r h) fun a s1 q => by
  match a, q with
  | .error e, q => exact out e s1 q
  | .ok (.ret u), q => exact I.after q
  | .ok .next, q => exact q.elim
  | .ok .brk, q => exact q.elim
  | .ok .cont, q => exact q.elim
theorem run_fnSD {pins : List (Addr × Obj)} {σ : L2.St} {H : Hp} {s : Shared} {Q : VK} {us : List Value} {vs : List V} (F : Mi.FnOk X.prog X.w X.K X.mg X.base cx k f fd ps sp) (room : Mi.Room k X.A) (b : Binds X.K fd ps ds) (d : Vals dvs ds)
    (out : PassesAt cx X σ (E σ)) (I : Inv X pins σ H s) (r : Vals vs us) (h : sp (vs ++ dvs) H Q (E σ)) : wpAny (model X.prog X.w) X.A (call (.ref f) us) (EP X pins σ Q) X.xe s :=
  have r2 := r.append d
  wpAny_call (F.go room I (b s us I.kIn (by rw [← r2.length]; exact F.len _ _ _ _ h)) r2 h fun e s1 q => out pins H s e s1 I q)
theorem run_fnS {pins : List (Addr × Obj)} {σ : L2.St} {H : Hp} {s : Shared} {Q : VK} {us : List Value} {vs : List V} (F : Mi.FnOk X.prog X.w X.K X.mg X.base cx k f fd ps sp) (room : Mi.Room k X.A) (b : Binds X.K fd ps [])
    (out : PassesAt cx X σ (E σ)) (I : Inv X pins σ H s) (r : Vals vs us) (h : sp vs H Q (E σ)) : wpAny (model X.prog X.w) X.A (call (.ref f) us) (EP X pins σ Q) X.xe s :=
  run_fnSD (dvs := []) F room b .nil out I r (by rw [List.append_nil]; exact h)
theorem pe_callSD (F : Mi.FnOk X.prog X.w X.K X.mg X.base cx k f fd ps sp) (room : Mi.Room k X.A) (gl : Gl X x) (m : X.mg x = some (.ref f)) (kp : PySem.W.keepIn X.K (.ref f) = true) (b : Binds X.K fd ps ds) (d : Vals dvs ds) (out : ∀ σ, PassesAt cx X σ (E σ))
    (ha : PA X (e :: es) t) (nd : (x == ("__debug__" : Str)) = false := by decide) (st : starEach (e :: es) X.env = (false, eval e X.env) :: starEach es X.env := by rfl) (pl : (PySem.backTo pos (starEach es X.env)).any (·.1) = false := by rfl) :
    PE X (.Call (.Name x p) (e :: es) [] pos) (tCallSD sp dvs E t) := ⟨fun pins s σ H Q I h => wpAny_Call_Name_kw (ld_glob I gl m (PySem.W.callWith_K (h₀ := X.base) I.ok.mod.kin kp (thn (ha.run pos pins s σ H _ I h) fun us s1 ⟨vs, H1, I1, r, q⟩ => ⟨I1.kIn, run_fnSD F room b d (out σ) I1 r q⟩) st pl) nd)⟩
theorem pe_callS (F : Mi.FnOk X.prog X.w X.K X.mg X.base cx k f fd ps sp) (room : Mi.Room k X.A) (gl : Gl X x) (m : X.mg x = some (.ref f)) (kp : PySem.W.keepIn X.K (.ref f) = true) (b : Binds X.K fd ps []) (out : ∀ σ, PassesAt cx X σ (E σ))
    (ha : PA X (e :: es) t) (nd : (x == ("__debug__" : Str)) = false := by decide) (st : starEach (e :: es) X.env = (false, eval e X.env) :: starEach es X.env := by rfl) (pl : (PySem.backTo pos (starEach es X.env)).any (·.1) = false := by rfl) :
    PE X (.Call (.Name x p) (e :: es) [] pos) (tCallS sp E t) := ⟨fun pins s σ H Q I h => wpAny_Call_Name_kw (ld_glob I gl m (PySem.W.callWith_K (h₀ := X.base) I.ok.mod.kin kp (thn (ha.run pos pins s σ H _ I h) fun us s1 ⟨vs, H1, I1, r, q⟩ => ⟨I1.kIn, run_fnS F room b (out σ) I1 r q⟩) st pl) nd)⟩
theorem pe_callS0 (F : Mi.FnOk X.prog X.w X.K X.mg X.base cx k f fd ps sp) (room : Mi.Room k X.A) (gl : Gl X x) (m : X.mg x = some (.ref f)) (kp : PySem.W.keepIn X.K (.ref f) = true) (b : Binds X.K fd ps []) (out : ∀ σ, PassesAt cx X σ (E σ))
    (ht : ∀ σ H Q, t σ H Q → Q [] H) (nd : (x == ("__debug__" : Str)) = false := by decide) : PE X (.Call (.Name x p) [] [] pos) (tCallS sp E t) :=
  ⟨fun pins s σ H Q I h => wpAny_Call_Name_kw (ld_glob I gl m (PySem.W.callWith_K0 I.kIn kp (run_fnS (us := []) (vs := []) F room b (out σ) I .nil (ht σ H _ h))) nd)⟩
end
/-- a law is called over its script: T are the tables of code objects -/
theorem law_go {P : Program} {w : World} {K : PySem.W.Frag} {mg mb : Str → Option Value} {cx : CXT} {k : Nat} {fa a : Addr} {T : List (Addr × Addr)} {fd : FuncData} {x : Str} {sp : Sp} {s : Shared} {us : List Value} {ns : List Int} (kin : K.In s.heap) (hmn : s.heap.Ns mainGlobals mg)
    (hbn : s.heap.Ns builtinsNs mb) (boot : ∀ x : Str, x ≠ "__name__" → mb x = bootBuiltins x) (nolim : s.heap.NoLimit) (nog : s.gens = #[]) (tab : ∀ p ∈ T, s.heap.get? p.2 = some { cls := .none, data := .fields #[] }) (tabK : ∀ p ∈ T, K.lookup p.2 = none) (hd : ∀ p ∈ T, PySem.W.CodeHd s.heap p.1 p.2)
    (bmain : ∃ (m : Addr) (o : Obj), mg "__builtins__" = some (.ref m) ∧ m ≠ builtinsNs ∧ s.heap.get? m = some o ∧ o.cls = .type "module" ∧ o.dict = some builtinsNs ∧ o.data = .plain) (scr : s.heap.get? a = some { cls := .type "list", data := .seq us.toArray }) (intz : IntsAre us ns) (short : ns.length ≤ sizeLine)
    (room : Mi.Room k callerA) (F : ∀ base : Heap, K.In base → base.Ns mainGlobals mg → (∀ p ∈ T, LamX.TabB base mg p.1 p.2) → Mi.FnOk P w K mg base cx k fa fd [x] sp) (bnd : ∀ (s : Shared) (u : Value), BindsTo s fd ⟨[u], []⟩ [(x, u)])
    (wish : ∀ H : Hp, (∀ p ∈ T, H p.2 = some (.tbl #[])) → ((∃ o, H a = some (.frz o (.lst (ns.map V.int)))) ∨ SqL K (fun _ => none) a (ns.map V.int)) → sp [.ref a] H (fun v _ => v = .bl true) fun _ _ _ => False) (out : ∀ H e s', cx [] H s (fun _ _ _ => False) e s' → False) :
    codeAny (model P w) callerA (.call (.ref fa) ⟨[.ref a], []⟩) (fun r s' => r = .ok (.ret (.bool true)) ∧ OldK s.heap s'.heap ∧ s'.os = s.os ∧ AllBare s'.gens) s := by
  have rv := vals_ints intz
  -- what is tracked: the tables, and the script where it is no constant
  let M := T.map (·.2)
  have inM : ∀ p ∈ T, p.2 ∈ M := fun p hp => List.mem_map.mpr ⟨p, hp, rfl⟩
  have atM : ∀ b ∈ M, s.heap.get? b = some { cls := .none, data := .fields #[] } ∧ K.lookup b = none := fun b hb => by
    obtain ⟨p, hp, rfl⟩ := List.mem_map.mp hb
    exact ⟨tab p hp, tabK p hp⟩
  have aM : a ∉ M := fun z => by
    have e := (atM a z).1
    rw [scr] at e
    cases e
  let H : Hp := fun b => if b ∈ M then some (.tbl #[]) else if b = a ∧ K.lookup a = none then some (.frz { cls := .type "list", data := .seq us.toArray } (.lst (ns.map V.int))) else none
  have Htab : ∀ b ∈ M, H b = some (.tbl #[]) := fun b hb => if_pos hb
  have Hcase : ∀ b u, H b = some u → (b ∈ M ∧ u = .tbl #[]) ∨ (b = a ∧ K.lookup a = none ∧ u = .frz { cls := .type "list", data := .seq us.toArray } (.lst (ns.map V.int))) := fun b u e => by
    by_cases hb : b ∈ M
    · rw [Htab b hb] at e
      cases e
      exact .inl ⟨hb, rfl⟩
    · have e : (if b = a ∧ K.lookup a = none then some (HO.frz { cls := .type "list", data := .seq us.toArray } (.lst (ns.map V.int))) else none) = some u := (if_neg hb).symm.trans e
      by_cases c : b = a ∧ K.lookup a = none
      · rw [if_pos c] at e
        cases e
        exact .inr ⟨c.1, c.2, rfl⟩
      · rw [if_neg c] at e
        cases e
  have inH : ∀ b u, H b = some u → ∃ o, s.heap.get? b = some o ∧ K.lookup b = none ∧ ((∃ vs n, o.data = .seq vs n) ∨ o.data = .fields #[]) := fun b u e => by
    rcases Hcase b u e with ⟨hb, _⟩ | ⟨rfl, hk, _⟩
    · exact ⟨_, (atM b hb).1, (atM b hb).2, .inr rfl⟩
    · exact ⟨_, scr, hk, .inl ⟨_, _, rfl⟩⟩
  have free : ∀ {b : Addr} {o : Obj}, s.heap.get? b = some o → (K.lookup b ≠ none ∨ ((∀ vs n, o.data ≠ .seq vs n) ∧ o.data ≠ .fields #[])) → H b = none := fun {b o} e h => by
    cases q : H b with
    | none => rfl
    | some u =>
      obtain ⟨o2, e2, n, d⟩ := inH b u q
      rw [e] at e2
      cases e2
      rcases h with h | ⟨h1, h2⟩
      · exact (h n).elim
      · rcases d with ⟨vs, m, d⟩ | d
        · exact (h1 _ _ d).elim
        · exact (h2 d).elim
  have hid : ∀ {b : Addr} {o : Obj}, s.heap.get? b = some o → (K.lookup b ≠ none ∨ ((∀ vs n, o.data ≠ .seq vs n) ∧ o.data ≠ .fields #[])) → (hidT s.heap H).get? b = some o := fun e h => hidT_get e (free e h)
  have dat : ∀ {o : Obj} {d : Data}, o.data = d → (∀ vs n, d ≠ .seq vs n) → d ≠ .fields #[] → ((∀ vs n, o.data ≠ .seq vs n) ∧ o.data ≠ .fields #[]) := fun e h1 h2 => ⟨fun vs n z => h1 vs n (e.symm.trans z), fun z => h2 (e.symm.trans z)⟩
  have nsB : ∀ {b : Addr} {m : Str → Option Value}, s.heap.Ns b m → (hidT s.heap H).Ns b m := fun ⟨o, es, ep, e, d, r⟩ => ⟨o, es, ep, hid e (.inr (dat d (fun _ _ z => by cases z) fun z => by cases z)), d, r⟩
  have kinB : K.In (hidT s.heap H) := fun b o e => hid (kin b o e) (.inl fun z => by rw [z] at e; cases e)
  have modB : L2.Mod K mg (hidT s.heap H) := by
    obtain ⟨mc, n1, n2⟩ := nolim
    exact ⟨kinB, nsB hmn, ⟨mb, nsB hbn, boot⟩, ⟨mc, nsB n1, n2⟩⟩
  have tabB : ∀ p ∈ T, LamX.TabB (hidT s.heap H) mg p.1 p.2 := fun p hp => by
    refine ⟨?_, ?_, fun z => ?_⟩
    · obtain ⟨o, vs, q1, q2, q3, q4, q5, q6, q7, e1, r1, r2, r3⟩ := hd p hp
      refine ⟨o, vs, q1, q2, q3, q4, q5, q6, q7, hid e1 (.inr (dat r2 (fun _ _ z => by cases z) fun z => ?_)), r1, r2, r3⟩
      cases z
      have := r3.1
      simp at this
    · obtain ⟨m, o, b1, b2, b3, b4, b5, b6⟩ := bmain
      refine ⟨m, o, b1, b2, fun q => ?_, fun q => ?_, hid b3 (.inr (dat b6 (fun _ _ z => by cases z) fun z => by cases z)), b4, b5, b6⟩
      · obtain ⟨o', es, ep, e, d, _⟩ := hmn
        rw [q, e] at b3
        cases b3
        rw [d] at b6
        cases b6
      · rw [q, tab p hp] at b3
        cases b3
        cases b6
    · obtain ⟨o, es, ep, e, d, _⟩ := hmn
      rw [z, tab p hp] at e
      cases e
      cases d
  have seqH : (∃ o, H a = some (.frz o (.lst (ns.map V.int)))) ∨ SqL K (fun _ => none) a (ns.map V.int) := by
    cases hk : K.lookup a with
    | none => exact .inl (⟨{ cls := .type "list", data := .seq us.toArray }, (if_neg aM).trans (if_pos ⟨rfl, hk⟩)⟩)
    | some o =>
      have e := kin a o hk
      rw [scr] at e
      cases e
      exact .inr (.inr ⟨_, us.toArray, _, hk, rfl, rfl, rfl, by rw [List.size_toArray, intz.length]; exact short, by simpa using rv⟩)
  have hokH : HOk P w H s.heap := fun b u e => by
    rcases Hcase b u e with ⟨hb, rfl⟩ | ⟨rfl, hk, rfl⟩
    · exact (atM b hb).1
    · exact ⟨scr, by rw [List.length_map]; exact short, us, _, rv, scr⟩
  have e0 : Env0 P w K mg (hidT s.heap H) callerA [] s H := ⟨rfl, modB, fun b o e => of_hidT e, Nat.le_of_eq (hidT_size _ _), trivial, fun b hb => (nomatch hb), hokH, .of_eq nog⟩
  refine codeAny_mono ((F _ kinB (nsB hmn) tabB).run callerA [] s H ⟨[.ref a], []⟩ [.ref a] [.ref a] _ _ room e0 (bnd s _) (.cons rfl .nil) (wish H (fun p hp => Htab _ (inM p hp)) seqH)) fun r s' h => ?_
  match r, h with
  | .error e, h => exact (out H e s' h).elim
  | .ok .next, h => exact h.elim
  | .ok .brk, h => exact h.elim
  | .ok .cont, h => exact h.elim
  | .ok (.ret u), ⟨v, H', os, bare, un, hok', r', q⟩ =>
    have q : v = .bl true := q
    subst q
    obtain rfl : u = Value.bool true := r'
    have grown : ∀ b ∈ M, ∃ more : Array Value, s'.heap.get? b = some { cls := .none, data := .fields more } := fun b hb => by
      obtain ⟨more, z⟩ := un.tbls b #[] (Htab b hb)
      exact ⟨_, hok' b _ z⟩
    have kept : ∀ b o, b ∉ M → s.heap.get? b = some o → s'.heap.get? b = some o := fun b o nb e => by
      cases q : H b with
      | none => exact un.keep b o e q (fun z => nomatch z) (by simp)
      | some u =>
        rcases Hcase b u q with ⟨hb, _⟩ | ⟨rfl, hk, rfl⟩
        · exact absurd hb nb
        · obtain ⟨e2, _⟩ := hok' b _ (un.frzs b _ _ q)
          rw [scr] at e
          cases e
          exact e2
    refine ⟨rfl, ⟨fun b o e => ?_, fun b o e => ?_⟩, os, bare⟩ <;> by_cases hb : b ∈ M
    · obtain ⟨p, hp, rfl⟩ := List.mem_map.mp hb
      obtain ⟨more, hm⟩ := grown _ hb
      rw [tab p hp] at e
      cases e
      exact .inr (.inl ⟨((hd p hp).tab (tab p hp)).isCodeTable, rfl, #[], more, rfl, by rw [Array.empty_append]; exact hm⟩)
    · exact .inl (kept b o hb e)
    · obtain ⟨more, hm⟩ := grown _ hb
      exact ⟨_, hm⟩
    · exact ⟨o, kept b o hb e⟩
end Mi
namespace GnL
open PySem PySem.Spec PyProof.Rows L2 GxR
/-- the context of a generator expression's frame that was made at s -/
abbrev gcx (X : Cx) (s : Shared) (H : Hp) (A' : Around) (cenv : Env) (fp : List Addr) (pn : List (Addr × Obj)) : Cx := { X with A := A', s_0 := s, H_0 := H, env := cenv, outer := X.stack, stack := cenv :: X.stack, ex := fp, fn := fun _ => false, pn := pn, xe := fun _ _ => False }
abbrev scode (elt tg iter : Expr) (scope : Scope) (gpos : Pos) (it : Addr) (cenv : Env) : Code := .compStart (.GeneratorExp elt [⟨tg, iter, [], 0⟩] scope gpos) 0 (.ref it) .none cenv
section
variable {X : Cx} {pins : List (Addr × Obj)} {σ : L2.St} {H : Hp} {s : Shared} {elt tg iter : Expr} {scope : Scope} {own : List (Str × Nat)} {gpos : Pos} {wi : TI} {c P : Addr} {k : Nat}
/-- what is known of the generator that was made: s4, the state ahead of its frame -/
structure Made (X : Cx) (pins : List (Addr × Obj)) (σ : L2.St) (P : Addr) (own : List (Str × Nat)) (elt tg iter : Expr) (scope : Scope) (gpos : Pos) (J : It) (H2 H3 : Hp) (it : Addr) (fp : List Addr) (tn : Nat → Heap → Prop) (cenv : Env) (s4 s5 : Shared) (ga gi : Addr) (go : Obj) : Prop where
  tab : Tabbed P H2 H3
  inv : Inv X pins σ H3 s4
  turn : Turn X.prog X.w X.K tg J fp it tn
  fps : ∀ b ∈ fp, FpOk X pins H3 b ∧ b < s4.heap.objs.size
  pnf : ∀ b ∈ fp, ga ≠ b
  gens : s5.gens[gi]? = some (.fresh (scode elt tg iter scope gpos it cenv))
  isg : ∀ h' : Heap, h'.get? ga = some go → h'.IsGen ga gi
  st : tn 0 s5.heap
  sc : cenv.scope = scope
  start : ∀ A' : Around, A'.handled = none → A'.frames = some (cenv :: X.stack) → Inv (gcx X s4 H3 A' cenv fp [(ga, go)]) [] (wipe σ (own.map (·.2))) H3 s5
theorem back {J : It} {H2 H3 H' : Hp} {it : Addr} {fp : List Addr} {tn : Nat → Heap → Prop} {cenv : Env} {s4 s5 s' : Shared} {ga gi : Addr} {go : Obj} {A' : Around} {σ' : L2.St} {pn : List (Addr × Obj)} (M : Made X pins σ P own elt tg iter scope gpos J H2 H3 it fp tn cenv s4 s5 ga gi go) (I : Inv (gcx X s4 H3 A' cenv fp pn) [] σ' H' s') : Inv X pins σ H' s' :=
  M.inv.call' (ch := fp) I.os I.base I.hok I.bare fun b hb => ⟨(M.fps b hb).1.2.2.2.1, (M.fps b hb).1.2.1, (M.fps b hb).1.2.2.2.2.1, (M.fps b hb).1.2.2.2.2.2⟩
end
end GnL
namespace Mi
open PySem L2
inductive D where
  | non | bl (b : Bool) | int (i : Int) | str (x : Str) | tup (xs : List D) | ref (n : Nat)
  deriving Inhabited
inductive DO where
  | lst (xs : List D) | fro (xs : List D) | dK (kvs : List (Key × D)) | ins (c : Nat) (fs : List (Str × D)) | dT (kvs : List (List Key × D))
abbrev DH := List DO
structure DX where
  cls : Nat
  fs : List (Str × D)
inductive Res (α : Type) where
  | ok (a : α) (h : DH) | exc (e : DX) (h : DH) | no
def Res.bind {α β : Type} (r : Res α) (f : α → DH → Res β) : Res β :=
  match r with
  | .ok a h => f a h
  | .exc e h => .exc e h
  | .no => .no
abbrev DSt := List (Option D)
abbrev EM := DSt → DH → Res D
abbrev TM := DSt → DH → Res Bool
abbrev AM := DSt → DH → Res (List D)
inductive RS where
  | nx (s : DSt) (h : DH) | rt (d : D) (h : DH) | bk (s : DSt) (h : DH) | ct (s : DSt) (h : DH) | exc (e : DX) (s : DSt) (h : DH) | no
abbrev SM := DSt → DH → RS
def DO.mu : DO → Bool
  | .fro _ => false
  | _ => true
structure Cw where
  K : PySem.W.Frag
  cad : Nat → Addr
  tabs : List Addr
def isIntD : D → Bool
  | .int _ => true
  | _ => false
def isStrD : D → Bool
  | .str _ => true
  | _ => false
/-- a tuple that may be a key of a dict: of texts and numbers, of both -/
def mixD (xs : List D) : Bool := xs.all (fun d => isIntD d || isStrD d) && xs.any isIntD && xs.any isStrD
def SqX (K : PySem.W.Frag) (H : Hp) (a : Addr) (vs : List V) (xs : List D) : Prop := SqT K H a vs ∧ (mixD xs = true → H a = some (.tup vs))
theorem SqX.of {K : PySem.W.Frag} {H : Hp} {a : Addr} {vs : List V} {xs : List D} (h : H a = some (.tup vs)) : SqX K H a vs xs := ⟨SqT.of h, fun _ => h⟩
section
variable (G : Cw)
mutual
def RV (μ : List Addr) (H : Hp) : D → V → Prop
  | .non, v => v = .non
  | .bl b, v => v = .bl b
  | .int i, v => v = .int i
  | .str s, v => v = .str s
  | .tup xs, v => ∃ a vs, v = .ref a ∧ SqX G.K H a vs xs ∧ RVs μ H xs vs
  | .ref n, v => ∃ a, v = .ref a ∧ μ[n]? = some a
def RVs (μ : List Addr) (H : Hp) : List D → List V → Prop
  | [], vs => vs = []
  | d :: ds, vs => ∃ v ws, vs = v :: ws ∧ RV μ H d v ∧ RVs μ H ds ws
end
/-- a list that is never written: the script -/
def SqF (H : Hp) (a : Addr) (vs : List V) : Prop := (∃ o, H a = some (.frz o (.lst vs))) ∨ (∀ H' : Hp, SqL G.K H' a vs)
def RObj (μ : List Addr) (H : Hp) (a : Addr) : DO → Prop
  | .lst xs => ∃ vs, H a = some (.lst vs) ∧ RVs G μ H xs vs
  | .fro xs => ∃ vs, SqF G H a vs ∧ RVs G μ H xs vs
  | .dK kvs => ∃ ws, H a = some (.dK ws) ∧ ws.map (·.1) = kvs.map (·.1) ∧ RVs G μ H (kvs.map (·.2)) (ws.map (·.2))
  | .dT kvs => ∃ ws, H a = some (.dT ws) ∧ ws.map (·.1) = kvs.map (·.1) ∧ RVs G μ H (kvs.map (·.2)) (ws.map (·.2))
  | .ins c fs => ∃ dx ws, H a = some (.ins (G.cad c) dx ws) ∧ ws.map (·.1) = fs.map (·.1) ∧ RVs G μ H (fs.map (·.2)) (ws.map (·.2))
structure Wd (μ : List Addr) (h : DH) (H : Hp) : Prop where
  len : μ.length = h.length
  ob : ∀ (n : Nat) a o, μ[n]? = some a → h[n]? = some o → RObj G μ H a o
  nd : ∀ (n m : Nat) a o o', μ[n]? = some a → μ[m]? = some a → h[n]? = some o → h[m]? = some o' → o.mu = true → o'.mu = true → n = m
  tb : ∀ P ∈ G.tabs, GxR.TabG H P
structure Ext (μ : List Addr) (H : Hp) (μ' : List Addr) (H' : Hp) : Prop where
  pre : ∀ (n : Nat) a, μ[n]? = some a → μ'[n]? = some a
  tup : ∀ a xs, SqT G.K H a xs → SqT G.K H' a xs
  tp : ∀ a xs, H a = some (.tup xs) → H' a = some (.tup xs)
  xd : ∀ a ws, H a = some (.xd ws) → H' a = some (.xd ws)
structure RSt (μ : List Addr) (H : Hp) (ds : DSt) (σ : St) : Prop where
  len : ds.length = σ.length
  at_ : ∀ (i : Nat) d, ds[i]? = some (some d) → ∃ v, σ[i]? = some (some v) ∧ RV G μ H d v
def RX (μ : List Addr) (H : Hp) (e : DX) (cls : Value) (d : Option Addr) : Prop :=
  cls = .ref (G.cad e.cls) ∧ ∃ dd ws, d = some dd ∧ H dd = some (.xd ws) ∧ ws.map (·.1) = e.fs.map (·.1) ∧ RVs G μ H (e.fs.map (·.2)) (ws.map (·.2))
end
section
variable {G : Cw} {μ μ' μ'' : List Addr} {H H' H'' : Hp} {h h' : DH} {ds : DSt} {σ : St}
theorem Ext.refl : Ext G μ H μ H := ⟨fun _ _ e => e, fun _ _ e => e, fun _ _ e => e, fun _ _ e => e⟩
theorem Ext.trans (a : Ext G μ H μ' H') (b : Ext G μ' H' μ'' H'') : Ext G μ H μ'' H'' := ⟨fun n x e => b.pre n x (a.pre n x e), fun x xs e => b.tup x xs (a.tup x xs e), fun x xs e => b.tp x xs (a.tp x xs e), fun x xs e => b.xd x xs (a.xd x xs e)⟩
/-- a tuple stays what it is -/
theorem Ext.sqx (e : Ext G μ H μ' H') {a : Addr} {vs : List V} {xs : List D} (s : SqX G.K H a vs xs) : SqX G.K H' a vs xs := ⟨e.tup _ _ s.1, fun m => e.tp _ _ (s.2 m)⟩
mutual
theorem RV.mono (e : Ext G μ H μ' H') : ∀ (d : D) (v : V), RV G μ H d v → RV G μ' H' d v
  | .non, v, r => by simp only [RV] at r ⊢; exact r
  | .bl b, v, r => by simp only [RV] at r ⊢; exact r
  | .int i, v, r => by simp only [RV] at r ⊢; exact r
  | .str s, v, r => by simp only [RV] at r ⊢; exact r
  | .tup xs, v, r => by
    simp only [RV] at r ⊢
    obtain ⟨a, vs, e1, e2, e3⟩ := r
    exact ⟨a, vs, e1, e.sqx e2, RVs.mono e xs vs e3⟩
  | .ref n, v, r => by
    simp only [RV] at r ⊢
    obtain ⟨a, e1, e2⟩ := r
    exact ⟨a, e1, e.pre _ _ e2⟩
theorem RVs.mono (e : Ext G μ H μ' H') : ∀ (ds : List D) (vs : List V), RVs G μ H ds vs → RVs G μ' H' ds vs
  | [], vs, r => by simp only [RVs] at r ⊢; exact r
  | d :: ds, vs, r => by
    simp only [RVs] at r ⊢
    obtain ⟨v, ws, e1, e2, e3⟩ := r
    exact ⟨v, ws, e1, RV.mono e d v e2, RVs.mono e ds ws e3⟩
end
theorem RVs.nil : RVs G μ H [] [] := by simp only [RVs]
theorem RVs.cons {d : D} {v : V} {ds : List D} {vs : List V} (r : RV G μ H d v) (t : RVs G μ H ds vs) : RVs G μ H (d :: ds) (v :: vs) := by simp only [RVs]; exact ⟨v, vs, rfl, r, t⟩
theorem RVs.length : ∀ {ds : List D} {vs : List V}, RVs G μ H ds vs → ds.length = vs.length
  | [], vs, r => by simp only [RVs] at r; rw [r]; rfl
  | d :: ds, vs, r => by
    simp only [RVs] at r
    obtain ⟨v, ws, e1, _, e3⟩ := r
    rw [e1, List.length_cons, List.length_cons, RVs.length e3]
theorem RVs.get : ∀ {ds : List D} {vs : List V} {i : Nat} {d : D}, RVs G μ H ds vs → ds[i]? = some d → ∃ v, vs[i]? = some v ∧ RV G μ H d v
  | [], vs, i, d, r, e => by simp at e
  | d :: ds, vs, 0, x, r, e => by
    simp only [RVs] at r
    obtain ⟨v, ws, e1, e2, e3⟩ := r
    simp at e; subst e
    exact ⟨v, by rw [e1]; rfl, e2⟩
  | d :: ds, vs, i + 1, x, r, e => by
    simp only [RVs] at r
    obtain ⟨v, ws, e1, e2, e3⟩ := r
    obtain ⟨u, h1, h2⟩ := RVs.get (i := i) e3 (by simpa using e)
    exact ⟨u, by rw [e1]; simpa using h1, h2⟩
theorem RVs.append : ∀ {xs ys : List D} {us ws : List V}, RVs G μ H xs us → RVs G μ H ys ws → RVs G μ H (xs ++ ys) (us ++ ws)
  | [], ys, us, ws, r, s => by simp only [RVs] at r; rw [r]; exact s
  | d :: ds, ys, us, ws, r, s => by
    simp only [RVs] at r
    obtain ⟨v, vs, e1, e2, e3⟩ := r
    rw [e1]
    exact RVs.cons e2 (RVs.append e3 s)
theorem RVs.take : ∀ {xs : List D} {us : List V} (n : Nat), RVs G μ H xs us → RVs G μ H (xs.take n) (us.take n)
  | xs, us, 0, r => by simp only [List.take_zero]; exact RVs.nil
  | [], us, n + 1, r => by simp only [RVs] at r; rw [r]; simp only [List.take_nil]; exact RVs.nil
  | d :: ds, us, n + 1, r => by
    simp only [RVs] at r
    obtain ⟨v, vs, e1, e2, e3⟩ := r
    rw [e1]
    exact RVs.cons e2 (RVs.take n e3)
theorem RVs.drop : ∀ {xs : List D} {us : List V} (n : Nat), RVs G μ H xs us → RVs G μ H (xs.drop n) (us.drop n)
  | xs, us, 0, r => r
  | [], us, n + 1, r => by simp only [RVs] at r; rw [r]; simp only [List.drop_nil]; exact RVs.nil
  | d :: ds, us, n + 1, r => by
    simp only [RVs] at r
    obtain ⟨v, vs, e1, e2, e3⟩ := r
    rw [e1]
    exact RVs.drop n e3
theorem RVs.set {d : D} {v : V} (r0 : RV G μ H d v) : ∀ {xs : List D} {us : List V} (n : Nat), RVs G μ H xs us → RVs G μ H (xs.set n d) (us.set n v)
  | [], us, n, r => by simp only [RVs] at r; rw [r]; simp only [List.set_nil]; exact RVs.nil
  | x :: xs, us, 0, r => by
    simp only [RVs] at r
    obtain ⟨w, vs, e1, e2, e3⟩ := r
    rw [e1]
    exact RVs.cons r0 e3
  | x :: xs, us, n + 1, r => by
    simp only [RVs] at r
    obtain ⟨w, vs, e1, e2, e3⟩ := r
    rw [e1]
    exact RVs.cons e2 (RVs.set r0 n e3)
theorem RVs.ints {ns : List Int} : RVs G μ H (ns.map D.int) (ns.map V.int) := by
  induction ns with
  | nil => exact RVs.nil
  | cons n r ih => exact RVs.cons (by simp only [RV]) ih
theorem RSt.mono (e : Ext G μ H μ' H') (r : RSt G μ H ds σ) : RSt G μ' H' ds σ := ⟨r.len, fun i d q => let ⟨v, h1, h2⟩ := r.at_ i d q; ⟨v, h1, RV.mono e d v h2⟩⟩
theorem RSt.set {d : D} {v : V} (r : RSt G μ H ds σ) (i : Nat) (q : RV G μ H d v) : RSt G μ H (ds.set i (some d)) (σ.set i (some v)) := by
  refine ⟨by rw [List.length_set, List.length_set, r.len], fun j x e => ?_⟩
  by_cases hj : i = j
  · subst hj
    by_cases hl : i < ds.length
    · rw [List.getElem?_set_self hl] at e
      cases e
      exact ⟨v, by rw [List.getElem?_set_self (by rw [← r.len]; exact hl)], q⟩
    · rw [List.getElem?_eq_none (by simpa using hl)] at e
      cases e
  · rw [List.getElem?_set_ne hj] at e
    rw [List.getElem?_set_ne hj]
    exact r.at_ j x e
theorem RSt.unset (r : RSt G μ H ds σ) (i : Nat) (o : Option V) : RSt G μ H (ds.set i none) (σ.set i o) := by
  refine ⟨by rw [List.length_set, List.length_set, r.len], fun j x e => ?_⟩
  by_cases hj : i = j
  · subst hj
    by_cases hl : i < ds.length
    · rw [List.getElem?_set_self hl] at e
      cases e
    · rw [List.getElem?_eq_none (by simpa using hl)] at e
      cases e
  · rw [List.getElem?_set_ne hj] at e
    rw [List.getElem?_set_ne hj]
    exact r.at_ j x e
end
section
variable (G : Cw)
def post {α β : Type} (W : WX) (ds : DSt) (rel : List Addr → Hp → α → β → Prop) (μ : List Addr) (H : Hp) (r : Res α) (Q : β → Hp → Prop) : Prop :=
  match r with
  | .ok a h => ∀ μ' b H', Ext G μ H μ' H' → Wd G μ' h H' → rel μ' H' a b → Q b H'
  | .exc e h => ∀ μ' σ' cls d H', Ext G μ H μ' H' → Wd G μ' h H' → RSt G μ' H' ds σ' → RX G μ' H' e cls d → W cls d σ' H'
  | .no => False
def tE (W : WX) (m : EM) : TE := fun σ H Q => ∃ μ ds h, Wd G μ h H ∧ RSt G μ H ds σ ∧ post G W ds (RV G) μ H (m ds h) Q
def relB (_ : List Addr) (_ : Hp) (a b : Bool) : Prop := a = b
def tT (W : WX) (m : TM) : TT := fun σ H Q => ∃ μ ds h, Wd G μ h H ∧ RSt G μ H ds σ ∧ post G W ds relB μ H (m ds h) Q
def tA (W : WX) (m : AM) : TA := fun σ H Q => ∃ μ ds h, Wd G μ h H ∧ RSt G μ H ds σ ∧ post G W ds (RVs G) μ H (m ds h) Q
def postS (W : WX) (μ : List Addr) (H : Hp) (r : RS) (E : Ends) : Prop :=
  match r with
  | .nx ds h => ∀ μ' σ' H', Ext G μ H μ' H' → Wd G μ' h H' → RSt G μ' H' ds σ' → E.nx σ' H'
  | .bk ds h => ∀ μ' σ' H', Ext G μ H μ' H' → Wd G μ' h H' → RSt G μ' H' ds σ' → E.bk σ' H'
  | .ct ds h => ∀ μ' σ' H', Ext G μ H μ' H' → Wd G μ' h H' → RSt G μ' H' ds σ' → E.ct σ' H'
  | .rt d h => ∀ μ' v H', Ext G μ H μ' H' → Wd G μ' h H' → RV G μ' H' d v → E.rt v H'
  | .exc e ds h => ∀ μ' σ' cls d H', Ext G μ H μ' H' → Wd G μ' h H' → RSt G μ' H' ds σ' → RX G μ' H' e cls d → W cls d σ' H'
  | .no => False
def tS (W : WX) (m : SM) : TS := fun E σ H => ∃ μ ds h, Wd G μ h H ∧ RSt G μ H ds σ ∧ postS G W μ H (m ds h) E
end
section
variable {G : Cw} {α β γ δ : Type} {W : WX} {ds : DSt} {μ μ' : List Addr} {H H' : Hp}
theorem post_mono {rel : List Addr → Hp → α → β → Prop} {r : Res α} {Q : β → Hp → Prop} (e : Ext G μ H μ' H') (p : post G W ds rel μ H r Q) : post G W ds rel μ' H' r Q := by
  cases r with
  | ok a h => exact fun μ2 b H2 e2 => p μ2 b H2 (e.trans e2)
  | exc x h => exact fun μ2 σ2 c d H2 e2 => p μ2 σ2 c d H2 (e.trans e2)
  | no => exact p
theorem postS_mono {r : RS} {E : Ends} (e : Ext G μ H μ' H') (p : postS G W μ H r E) : postS G W μ' H' r E := by
  cases r with
  | nx a h => exact fun μ2 b H2 e2 => p μ2 b H2 (e.trans e2)
  | bk a h => exact fun μ2 b H2 e2 => p μ2 b H2 (e.trans e2)
  | ct a h => exact fun μ2 b H2 e2 => p μ2 b H2 (e.trans e2)
  | rt a h => exact fun μ2 b H2 e2 => p μ2 b H2 (e.trans e2)
  | exc x s h => exact fun μ2 σ2 c d H2 e2 => p μ2 σ2 c d H2 (e.trans e2)
  | no => exact p
theorem post_bind {rel1 : List Addr → Hp → α → β → Prop} {rel2 : List Addr → Hp → γ → δ → Prop} {r : Res α} {f : α → DH → Res γ} {Q1 : β → Hp → Prop} {Q2 : δ → Hp → Prop} (p : post G W ds rel2 μ H (r.bind f) Q2)
    (k : ∀ a h μ' b H', Ext G μ H μ' H' → Wd G μ' h H' → rel1 μ' H' a b → post G W ds rel2 μ' H' (f a h) Q2 → Q1 b H') : post G W ds rel1 μ H r Q1 := by
  cases r with
  | ok a h => exact fun μ2 b H2 e2 w r => k a h μ2 b H2 e2 w r (post_mono e2 p)
  | exc x h => exact p
  | no => exact p
/-- a run that ends at once -/
theorem post_ok {rel : List Addr → Hp → α → β → Prop} {a : α} {h : DH} {b : β} {Q : β → Hp → Prop} (p : post G W ds rel μ H (.ok a h) Q) (w : Wd G μ h H) (r : rel μ H a b) : Q b H := p μ b H Ext.refl w r
theorem sqT_new {K : PySem.W.Frag} {H : Hp} {p : Addr} {o : HO} (hn : H p = none) {a : Addr} {xs : List V} (s : SqT K H a xs) : SqT K (upd H p o) a xs := by
  rcases s with (s | ⟨u, s⟩) | s
  · exact .inl (.inl (by rw [upd_ne (ne_of_none s hn)]; exact s))
  · exact .inl (.inr ⟨u, by rw [upd_ne (ne_of_none s hn)]; exact s⟩)
  · exact .inr s
theorem ext_new {p : Addr} {o : HO} (hn : H p = none) : Ext G μ H μ (upd H p o) := ⟨fun _ _ e => e, fun _ _ s => sqT_new hn s, fun b xs e => by rw [upd_ne (ne_of_none e hn)]; exact e, fun b xs e => by rw [upd_ne (ne_of_none e hn)]; exact e⟩
theorem ext_app (ν : List Addr) : Ext G μ H (μ ++ ν) H := ⟨fun n a e => by
  rw [List.getElem?_append_left (List.getElem?_eq_some_iff.mp e).1]; exact e, fun _ _ s => s, fun _ _ e => e, fun _ _ e => e⟩
theorem RObj.mono {o : DO} {a : Addr} (e : Ext G μ H μ' H') (r : RObj G μ H a o) (k : ∀ u, H a = some u → H' a = some u) : RObj G μ' H' a o := by
  cases o with
  | lst xs => obtain ⟨vs, h1, h2⟩ := r; exact ⟨vs, k _ h1, RVs.mono e _ _ h2⟩
  | fro xs =>
    obtain ⟨vs, h1, h2⟩ := r
    refine ⟨vs, ?_, RVs.mono e _ _ h2⟩
    rcases h1 with ⟨u, h1⟩ | h1
    · exact .inl ⟨u, k _ h1⟩
    · exact .inr h1
  | dK kvs => obtain ⟨ws, h1, h2, h3⟩ := r; exact ⟨ws, k _ h1, h2, RVs.mono e _ _ h3⟩
  | dT kvs => obtain ⟨ws, h1, h2, h3⟩ := r; exact ⟨ws, k _ h1, h2, RVs.mono e _ _ h3⟩
  | ins c fs => obtain ⟨dx, ws, h1, h2, h3⟩ := r; exact ⟨dx, ws, k _ h1, h2, RVs.mono e _ _ h3⟩
theorem tabG_new {H : Hp} {p P : Addr} {o : HO} (hn : H p = none) (t : GxR.TabG H P) : GxR.TabG (upd H p o) P := by
  obtain ⟨ps, h1, h2⟩ := t
  exact ⟨ps, by rw [upd_ne (ne_of_none h1 hn)]; exact h1, h2⟩
/-- an untracked new thing (a tuple, an instance's dict) -/
theorem Wd.new {h : DH} {p : Addr} {o : HO} (w : Wd G μ h H) (hn : H p = none) : Wd G μ h (upd H p o) :=
  ⟨w.len, fun n a u e1 e2 => (w.ob n a u e1 e2).mono (ext_new hn) fun x hx => by rw [upd_ne (ne_of_none hx hn)]; exact hx, w.nd, fun P hP => tabG_new hn (w.tb P hP)⟩
theorem RObj.there {o : DO} {a : Addr} (r : RObj G μ H a o) (m : o.mu = true) : ∃ u, H a = some u ∧ Mut (some u) := by
  cases o with
  | lst xs => obtain ⟨vs, h1, _⟩ := r; exact ⟨_, h1, trivial⟩
  | fro xs => cases m
  | dK kvs => obtain ⟨vs, h1, _⟩ := r; exact ⟨_, h1, trivial⟩
  | dT kvs => obtain ⟨vs, h1, _⟩ := r; exact ⟨_, h1, trivial⟩
  | ins c fs => obtain ⟨dx, vs, h1, _⟩ := r; exact ⟨_, h1, trivial⟩
theorem get_last {α : Type} (l : List α) (x : α) : (l ++ [x])[l.length]? = some x := by simp
theorem get_app {α : Type} {l : List α} {x : α} {n : Nat} {y : α} (h : (l ++ [x])[n]? = some y) : (n < l.length ∧ l[n]? = some y) ∨ (n = l.length ∧ y = x) := by
  by_cases hn : n < l.length
  · rw [List.getElem?_append_left hn] at h; exact .inl ⟨hn, h⟩
  · have := (List.getElem?_eq_some_iff.mp h).1
    simp at this
    have e : n = l.length := by omega
    subst e
    simp at h
    exact .inr ⟨rfl, h.symm⟩
/-- a new tracked object -/
theorem Wd.alloc {h : DH} {p : Addr} {o : HO} {u : DO} (w : Wd G μ h H) (hn : H p = none) (hu : u.mu = true) (r : RObj G (μ ++ [p]) (upd H p o) p u) : Wd G (μ ++ [p]) (h ++ [u]) (upd H p o) := by
  have ex : Ext G μ H (μ ++ [p]) (upd H p o) := (ext_new hn).trans (ext_app [p])
  refine ⟨by simp [w.len], fun n a x e1 e2 => ?_, fun n m a x y e1 e2 e3 e4 m1 m2 => ?_, fun P hP => tabG_new hn (w.tb P hP)⟩
  · rcases get_app e2 with ⟨l2, e2⟩ | ⟨l2, e2⟩
    · rcases get_app e1 with ⟨l1, e1⟩ | ⟨l1, e1⟩
      · exact (w.ob n a x e1 e2).mono ex fun z hz => by rw [upd_ne (ne_of_none hz hn)]; exact hz
      · have := w.len; omega
    · rcases get_app e1 with ⟨l1, e1⟩ | ⟨l1, e1⟩
      · have := w.len; omega
      · subst e2; subst e1; exact r
  · have fresh : ∀ (k : Nat) (q : DO), μ[k]? = some p → h[k]? = some q → q.mu = true → False := fun k q f1 f2 f3 => by
      obtain ⟨z, hz, _⟩ := (w.ob k p q f1 f2).there f3
      rw [hn] at hz; cases hz
    rcases get_app e1 with ⟨l1, e1'⟩ | ⟨l1, e1⟩
    · rcases get_app e3 with ⟨k1, e3⟩ | ⟨k1, e3⟩
      · rcases get_app e2 with ⟨l2, e2⟩ | ⟨l2, e2⟩
        · rcases get_app e4 with ⟨k2, e4⟩ | ⟨k2, e4⟩
          · exact w.nd n m a x y e1' e2 e3 e4 m1 m2
          · have := w.len; omega
        · subst e2; exact (fresh n x e1' e3 m1).elim
      · have := w.len; omega
    · rcases get_app e2 with ⟨l2, e2'⟩ | ⟨l2, e2⟩
      · rcases get_app e4 with ⟨k2, e4⟩ | ⟨k2, e4⟩
        · subst e1; exact (fresh m y e2' e4 m2).elim
        · have := w.len; omega
      · omega
/-- a tracked object changed -/
theorem Wd.write {h : DH} {n : Nat} {a : Addr} {o : HO} {u u' : DO} (w : Wd G μ h H) (e1 : μ[n]? = some a) (e2 : h[n]? = some u) (m : u.mu = true) (m' : u'.mu = true)
    (ex : Ext G μ H μ (upd H a o)) (r : RObj G μ (upd H a o) a u') : Wd G μ (h.set n u') (upd H a o) := by
  have hl : n < h.length := (List.getElem?_eq_some_iff.mp e2).1
  refine ⟨by rw [List.length_set]; exact w.len, fun k b x f1 f2 => ?_, fun k k' b x y f1 f2 f3 f4 m1 m2 => ?_, fun P hP => ?_⟩
  rotate_right
  · obtain ⟨ps, h1, h2⟩ := w.tb P hP
    obtain ⟨z1, hz1, mz⟩ := (w.ob n a u e1 e2).there m
    exact ⟨ps, by rw [upd_ne (fun z => by rw [← z, h1] at hz1; cases hz1; exact mz)]; exact h1, h2⟩
  · by_cases hk : n = k
    · subst hk
      rw [List.getElem?_set_self hl] at f2
      cases f2
      rw [e1] at f1; cases f1
      exact r
    · rw [List.getElem?_set_ne hk] at f2
      obtain ⟨z1, hz1, mz⟩ := (w.ob n a u e1 e2).there m
      have near : (∀ z, H b = some z → b ≠ a) → RObj G μ (upd H a o) b x := fun q => (w.ob k b x f1 f2).mono ex fun z hz => by rw [upd_ne (q z hz)]; exact hz
      cases x with
      | fro xs =>
        obtain ⟨vs, q, q2⟩ := w.ob k b _ f1 f2
        rcases q with ⟨ob, q⟩ | q
        · exact near fun z hz e => by
            subst e
            rw [q] at hz1; cases hz1; exact mz
        · exact ⟨vs, .inr q, RVs.mono ex _ _ q2⟩
      | lst xs => exact near fun z hz e => by subst e; exact hk (w.nd n k b u _ e1 f1 e2 f2 m rfl)
      | dK xs => exact near fun z hz e => by subst e; exact hk (w.nd n k b u _ e1 f1 e2 f2 m rfl)
      | dT xs => exact near fun z hz e => by subst e; exact hk (w.nd n k b u _ e1 f1 e2 f2 m rfl)
      | ins c xs => exact near fun z hz e => by subst e; exact hk (w.nd n k b u _ e1 f1 e2 f2 m rfl)
  · have hx : ∃ x0, h[k]? = some x0 ∧ x0.mu = true := by
      by_cases hk : n = k
      · subst hk; exact ⟨u, e2, m⟩
      · rw [List.getElem?_set_ne hk] at f3; exact ⟨x, f3, m1⟩
    have hy : ∃ y0, h[k']? = some y0 ∧ y0.mu = true := by
      by_cases hk : n = k'
      · subst hk; exact ⟨u, e2, m⟩
      · rw [List.getElem?_set_ne hk] at f4; exact ⟨y, f4, m2⟩
    obtain ⟨x0, g1, g2⟩ := hx
    obtain ⟨y0, g3, g4⟩ := hy
    exact w.nd k k' b x0 y0 f1 f2 g1 g3 g2 g4
end
end Mi
namespace L2
open PySem
section
variable {X : Cx} {e : Expr} {es : List Expr} {st : Stmt} {sts : List Stmt}
theorem PE.imp {t t' : TE} (p : PE X e t) (h : ∀ σ H Q, t' σ H Q → t σ H Q) : PE X e t' := ⟨fun pins s σ H Q I hq => p.run pins s σ H Q I (h σ H Q hq)⟩
theorem PT.imp {t t' : TT} (p : PT X e t) (h : ∀ σ H Q, t' σ H Q → t σ H Q) : PT X e t' := ⟨fun pins s σ H Q I hq => p.run pins s σ H Q I (h σ H Q hq)⟩
theorem PW.imp {t t' : TT} (p : PW X e t) (h : ∀ σ H Q, t' σ H Q → t σ H Q) : PW X e t' := ⟨fun wh pins s σ H Q I hq => p.run wh pins s σ H Q I (h σ H Q hq)⟩
theorem PTs.imp {t t' : TT} (p : PTs X es t) (h : ∀ σ H Q, t' σ H Q → t σ H Q) : PTs X es t' := ⟨fun pins s σ H Q I hq => p.run pins s σ H Q I (h σ H Q hq)⟩
theorem PA.imp {t t' : TA} (p : PA X es t) (h : ∀ σ H Q, t' σ H Q → t σ H Q) : PA X es t' := ⟨fun pos pins s σ H Q I hq => p.run pos pins s σ H Q I (h σ H Q hq)⟩
theorem PO.imp {e : Option Expr} {t t' : TO} (p : PO X e t) (h : ∀ σ H Q, t' σ H Q → t σ H Q) : PO X e t' := ⟨fun pins s σ H Q I hq => p.run pins s σ H Q I (h σ H Q hq)⟩
theorem PS.imp {t t' : TS} (p : PS X st t) (h : ∀ E σ H, t' E σ H → t E σ H) : PS X st t' := ⟨fun pins s σ H E I hq => p.run pins s σ H E I (h E σ H hq)⟩
theorem PSs.imp {t t' : TS} (p : PSs X sts t) (h : ∀ E σ H, t' E σ H → t E σ H) : PSs X sts t' := ⟨fun pins s σ H E I hq => p.run pins s σ H E I (h E σ H hq)⟩
end
end L2
namespace Mi
open PySem L2
def mC (d : D) : EM := fun _ h => .ok d h
def mVar (i : Nat) : EM := fun ds h => match ds.getD i none with | some d => .ok d h | none => .no
def mOp (f : D → D → DH → Res D) (a b : EM) : EM := fun ds h => (a ds h).bind fun x h1 => (b ds h1).bind fun y h2 => f x y h2
def mUn (f : D → DH → Res D) (a : EM) : EM := fun ds h => (a ds h).bind fun x h1 => f x h1
def aNil : AM := fun _ h => .ok [] h
def aCons (a : EM) (r : AM) : AM := fun ds h => (a ds h).bind fun x h1 => (r ds h1).bind fun xs h2 => .ok (x :: xs) h2
def mTup (a : AM) : EM := fun ds h => (a ds h).bind fun xs h1 => if xs.length ≤ 16777216 then .ok (.tup xs) h1 else .no
def mLst (a : AM) : EM := fun ds h => (a ds h).bind fun xs h1 => if xs.length ≤ 16777216 then .ok (.ref h1.length) (h1 ++ [.lst xs]) else .no
def mCB (f : List D → DH → Res D) (a : AM) : EM := fun ds h => (a ds h).bind fun xs h1 => f xs h1
def mTest (a : EM) : TM := fun ds h => (a ds h).bind fun x h1 => match x with | .bl b => .ok b h1 | _ => .no
def mNot (t : TM) : TM := fun ds h => (t ds h).bind fun b h1 => .ok (!b) h1
def mAnd (t u : TM) : TM := fun ds h => (t ds h).bind fun b h1 => if b then u ds h1 else .ok false h1
def mOr (t u : TM) : TM := fun ds h => (t ds h).bind fun b h1 => if b then .ok true h1 else u ds h1
def mNotV (a : EM) : EM := fun ds h => (a ds h).bind fun x h1 => match x with | .bl b => .ok (.bl (!b)) h1 | _ => .no
def mAndV (a b : EM) : EM := fun ds h => (a ds h).bind fun x h1 => match x with | .bl c => (if c then b ds h1 else .ok (.bl false) h1) | _ => .no
def mOrV (a b : EM) : EM := fun ds h => (a ds h).bind fun x h1 => match x with | .bl c => (if c then .ok (.bl true) h1 else b ds h1) | _ => .no
def oNone : DSt → DH → Res (Option Int) := fun _ h => .ok none h
def oSome (a : EM) : DSt → DH → Res (Option Int) := fun ds h => (a ds h).bind fun x h1 => match x with | .int i => .ok (some i) h1 | _ => .no
def mSl (f : D → Option Int → Option Int → DH → Res D) (a : EM) (lo hi : DSt → DH → Res (Option Int)) : EM := fun ds h => (a ds h).bind fun x h1 => (lo ds h1).bind fun l h2 => (hi ds h2).bind fun u h3 => f x l u h3
def isTy (T : String) (x : D) (h : DH) : Bool :=
  match x with
  | .str _ => T == "str"
  | .ref n => match h[n]? with
    | some (.lst _) => T == "list"
    | some (.fro _) => T == "list"
    | some (.dK _) => T == "dict"
    | _ => false
  | _ => false
def mMt (T : String) (f : D → List D → DH → Res D) (o : EM) (a : AM) : EM := fun ds h => (o ds h).bind fun x h1 => if isTy T x h1 then (a ds h1).bind fun xs h2 => f x xs h2 else .no
section
variable {G : Cw} {X : Cx} {W : WX} {pos : Pos}
def OpS (G : Cw) (r : R2) (f : D → D → DH → Res D) : Prop := ∀ (W : WX) (ds : DSt) (μ : List Addr) (h : DH) (H : Hp) (x y : D) (v u : V) (Q : VK), Wd G μ h H → RV G μ H x v → RV G μ H y u → post G W ds (RV G) μ H (f x y h) Q → r v u H Q
def UnS (G : Cw) (r : V → Hp → VK → Prop) (f : D → DH → Res D) : Prop := ∀ (W : WX) (ds : DSt) (μ : List Addr) (h : DH) (H : Hp) (x : D) (v : V) (Q : VK), Wd G μ h H → RV G μ H x v → post G W ds (RV G) μ H (f x h) Q → r v H Q
def CallS (G : Cw) (r : List V → Hp → VK → Prop) (f : List D → DH → Res D) : Prop := ∀ (W : WX) (ds : DSt) (μ : List Addr) (h : DH) (H : Hp) (xs : List D) (vs : List V) (Q : VK), Wd G μ h H → RVs G μ H xs vs → post G W ds (RV G) μ H (f xs h) Q → r vs H Q
def MtSd (G : Cw) (r : V → List V → Hp → VK → Prop) (f : D → List D → DH → Res D) : Prop := ∀ (W : WX) (ds : DSt) (μ : List Addr) (h : DH) (H : Hp) (x : D) (v : V) (xs : List D) (vs : List V) (Q : VK), Wd G μ h H → RV G μ H x v → RVs G μ H xs vs → post G W ds (RV G) μ H (f x xs h) Q → r v vs H Q
def SlS (G : Cw) (r : V → Option Int → Option Int → Hp → VK → Prop) (f : D → Option Int → Option Int → DH → Res D) : Prop := ∀ (W : WX) (ds : DSt) (μ : List Addr) (h : DH) (H : Hp) (x : D) (v : V) (lo hi : Option Int) (Q : VK), Wd G μ h H → RV G μ H x v → post G W ds (RV G) μ H (f x lo hi h) Q → r v lo hi H Q
theorem pm_var (i : Nat) {x : Str} {p : Pos} (he : PE X (.Name x p) (L2.tVar i)) : PE X (.Name x p) (tE G W (mVar i)) := he.imp fun σ H Q ⟨μ, ds, h, w, r, p⟩ => by
  unfold mVar at p
  cases e : ds.getD i none with
  | none => rw [e] at p; exact p.elim
  | some d =>
    rw [e] at p
    rw [List.getD_eq_getElem?_getD] at e
    have e' : ds[i]? = some (some d) := by
      cases q : ds[i]? with
      | none => rw [q] at e; cases e
      | some o => rw [q] at e; exact congrArg some e
    obtain ⟨v, h1, h2⟩ := r.at_ i d e'
    exact ⟨v, h1, post_ok p w h2⟩
theorem pm_const {e : Expr} {d : D} {v : V} (he : PE X e (L2.tC v)) (r : ∀ μ H, RV G μ H d v) : PE X e (tE G W (mC d)) := he.imp fun σ H Q ⟨μ, ds, h, w, rs, p⟩ => post_ok p w (r μ H)
theorem pm_int {i : Int} {j} : PE X (.Constant (.int i) j pos) (tE G W (mC (.int i))) := pm_const pe_int fun _ _ => by simp only [RV]
theorem pm_bl {b : Bool} {j} : PE X (.Constant (.bool b) j pos) (tE G W (mC (.bl b))) := pm_const pe_bl fun _ _ => by simp only [RV]
theorem pm_str {x : Str} {j} : PE X (.Constant (.str x) j pos) (tE G W (mC (.str x))) := pm_const pe_str fun _ _ => by simp only [RV]
variable {a b c : Expr} {ma mb mc : EM}
theorem snd_op {r : R2} {f : D → D → DH → Res D} (hs : OpS G r f) : ∀ σ H Q, tE G W (mOp f ma mb) σ H Q → tOp r (tE G W ma) (tE G W mb) σ H Q := fun σ H Q ⟨μ, ds, h, w, rs, p⟩ =>
  ⟨μ, ds, h, w, rs, post_bind p fun x h1 μ1 v H1 e1 w1 r1 p1 => ⟨μ1, ds, h1, w1, rs.mono e1, post_bind p1 fun y h2 μ2 u H2 e2 w2 r2 p2 => hs W ds μ2 h2 H2 x y v u Q w2 (RV.mono e2 _ _ r1) r2 p2⟩⟩
theorem pm_op {op : Operator} {r : R2} {f : D → D → DH → Res D} (ho : OpR X (binaryOp op) r) (hs : OpS G r f) (ha : PE X a (tE G W ma)) (hb : PE X b (tE G W mb)) : PE X (.BinOp a op b pos) (tE G W (mOp f ma mb)) := (pe_op ho ha hb).imp (snd_op hs)
theorem pm_cmp {op : CmpOp} {r : R2} {f : D → D → DH → Res D} (ho : OpR X (compareOp op) r) (hs : OpS G r f) (ha : PE X a (tE G W ma)) (hb : PE X b (tE G W mb)) (hm : behindInMarks op b = false := by rfl) : PE X (.Compare a [op] [b] pos) (tE G W (mOp f ma mb)) := (pe_cmpR ho ha hb hm).imp (snd_op hs)
theorem pm_ix {r : R2} {f : D → D → DH → Res D} (hr : IxR X r) (hs : OpS G r f) (ha : PE X a (tE G W ma)) (hb : PE X b (tE G W mb)) (hp : PlainIx b := by exact fun _ _ => rfl) : PE X (.Subscript a b pos) (tE G W (mOp f ma mb)) := (pe_ix hr ha hb hp).imp (snd_op hs)
theorem pm_un {op : UnaryOp} {r : V → Hp → VK → Prop} {f : D → DH → Res D} (ho : UnR X (unaryOp op) r) (hs : UnS G r f) (ha : PE X a (tE G W ma)) : PE X (.UnaryOp op a pos) (tE G W (mUn f ma)) := (pe_un ho ha).imp fun σ H Q ⟨μ, ds, h, w, rs, p⟩ =>
  ⟨μ, ds, h, w, rs, post_bind p fun x h1 μ1 v H1 e1 w1 r1 p1 => hs W ds μ1 h1 H1 x v Q w1 r1 p1⟩
theorem am_nil : PA X [] (tA G W aNil) := pa_nil.imp fun σ H Q ⟨μ, ds, h, w, rs, p⟩ => post_ok p w RVs.nil
theorem am_cons {e : Expr} {es : List Expr} {me : EM} {mr : AM} (ha : PE X e (tE G W me)) (hr : PA X es (tA G W mr)) (hs : starEach (e :: es) X.env = (false, eval e X.env) :: starEach es X.env := by rfl) : PA X (e :: es) (tA G W (aCons me mr)) :=
  (pa_cons ha hr hs).imp fun σ H Q ⟨μ, ds, h, w, rs, p⟩ => ⟨μ, ds, h, w, rs, post_bind p fun x h1 μ1 v H1 e1 w1 r1 p1 => ⟨μ1, ds, h1, w1, rs.mono e1, post_bind p1 fun xs h2 μ2 vs H2 e2 w2 r2 p2 => post_ok p2 w2 (RVs.cons (RV.mono e2 _ _ r1) r2)⟩⟩
theorem new_tup {μ : List Addr} {h : DH} {H : Hp} {ds : DSt} {xs : List D} {vs : List V} {Q : VK} (w : Wd G μ h H) (r : RVs G μ H xs vs) (p : post G W ds (RV G) μ H (.ok (.tup xs) h) Q) : ∀ q, H q = none → Q (.ref q) (upd H q (.tup vs)) := fun q hq =>
  p μ (.ref q) (upd H q (.tup vs)) (ext_new hq) (w.new hq) (by simp only [RV]; exact ⟨q, vs, rfl, SqX.of upd_same, RVs.mono (ext_new hq) _ _ r⟩)
theorem new_lst {μ : List Addr} {h : DH} {H : Hp} {ds : DSt} {xs : List D} {vs : List V} {Q : VK} (w : Wd G μ h H) (r : RVs G μ H xs vs) (p : post G W ds (RV G) μ H (.ok (.ref h.length) (h ++ [.lst xs])) Q) : ∀ q, H q = none → Q (.ref q) (upd H q (.lst vs)) := fun q hq => by
  have ex : Ext G μ H (μ ++ [q]) (upd H q (.lst vs)) := (ext_new hq).trans (ext_app [q])
  refine p (μ ++ [q]) (.ref q) (upd H q (.lst vs)) ex (w.alloc hq rfl ⟨vs, upd_same, RVs.mono ex _ _ r⟩) ?_
  simp only [RV]
  exact ⟨q, rfl, by rw [← w.len]; exact get_last μ q⟩
theorem pm_tup {es : List Expr} {m : AM} {x1} (ha : PA X es (tA G W m)) : PE X (.Tuple es x1 pos) (tE G W (mTup m)) := (pe_tup ha).imp fun σ H Q ⟨μ, ds, h, w, rs, p⟩ => ⟨μ, ds, h, w, rs, post_bind p fun xs h1 μ1 vs H1 e1 w1 r1 p1 => by
  by_cases hz : xs.length ≤ 16777216
  · rw [if_pos hz] at p1
    exact ⟨by rw [← r1.length, sizeLine_eq]; exact hz, new_tup w1 r1 p1⟩
  · rw [if_neg hz] at p1; exact p1.elim⟩
theorem pm_lst {es : List Expr} {m : AM} (ha : PA X es (tA G W m)) : PE X (.List es pos) (tE G W (mLst m)) := (pe_lst ha).imp fun σ H Q ⟨μ, ds, h, w, rs, p⟩ => ⟨μ, ds, h, w, rs, post_bind p fun xs h1 μ1 vs H1 e1 w1 r1 p1 => by
  by_cases hz : xs.length ≤ 16777216
  · rw [if_pos hz] at p1
    exact ⟨by rw [← r1.length, sizeLine_eq]; exact hz, new_lst w1 r1 p1⟩
  · rw [if_neg hz] at p1; exact p1.elim⟩
theorem snd_cb {r : List V → Hp → VK → Prop} {f : List D → DH → Res D} {m : AM} (hs : CallS G r f) : ∀ σ H Q, tE G W (mCB f m) σ H Q → tCB r (tA G W m) σ H Q := fun σ H Q ⟨μ, ds, h, w, rs, p⟩ =>
  ⟨μ, ds, h, w, rs, post_bind p fun xs h1 μ1 vs H1 e1 w1 r1 p1 => hs W ds μ1 h1 H1 xs vs Q w1 r1 p1⟩
theorem pm_cb {e : Expr} {r : List V → Hp → VK → Prop} {f : List D → DH → Res D} {m : AM} (hs : CallS G r f) (he : PE X e (tCB r (tA G W m))) : PE X e (tE G W (mCB f m)) := he.imp (snd_cb hs)
theorem ty_ok {T : String} {μ : List Addr} {h : DH} {H : Hp} {x : D} {v : V} (w : Wd G μ h H) (r : RV G μ H x v) (t : isTy T x h = true) : tyV G.K T v H := by
  cases x with
  | str s => simp only [RV] at r; subst r; exact beq_iff_eq.mp t
  | ref n =>
    simp only [RV] at r
    obtain ⟨a, rfl, e⟩ := r
    cases q : h[n]? with
    | none => simp only [isTy, q] at t; cases t
    | some o =>
      simp only [isTy, q] at t
      have ob := w.ob n a o e q
      cases o with
      | lst xs => obtain ⟨vs, h1, _⟩ := ob; exact .inl ⟨beq_iff_eq.mp t, vs, SqL.of h1⟩
      | fro xs =>
        obtain ⟨vs, h1, _⟩ := ob
        refine .inl ⟨beq_iff_eq.mp t, vs, ?_⟩
        rcases h1 with ⟨u, h1⟩ | h1
        · exact .inl (.inr ⟨u, h1⟩)
        · exact h1 H
      | dK kvs => obtain ⟨vs, h1, _⟩ := ob; exact .inr (.inr (.inl ⟨beq_iff_eq.mp t, .inl ⟨_, h1⟩⟩))
      | ins c fs => cases t
      | dT kvs => cases t
  | _ => cases t
theorem snd_mt {T : String} {r : V → List V → Hp → VK → Prop} {f : D → List D → DH → Res D} {mo : EM} {m : AM} (hs : MtSd G r f) : ∀ σ H Q, tE G W (mMt T f mo m) σ H Q → tBM G.K T r (tE G W mo) (tA G W m) σ H Q := fun σ H Q ⟨μ, ds, h, w, rs, p⟩ =>
  ⟨μ, ds, h, w, rs, post_bind p fun x h1 μ1 v H1 e1 w1 r1 p1 => by
    by_cases t : isTy T x h1 = true
    · rw [if_pos t] at p1
      exact ⟨ty_ok w1 r1 t, μ1, ds, h1, w1, rs.mono e1, post_bind p1 fun xs h2 μ2 vs H2 e2 w2 r2 p2 => hs W ds μ2 h2 H2 x v xs vs Q w2 (RV.mono e2 _ _ r1) r2 p2⟩
    · rw [if_neg t] at p1; exact p1.elim⟩
theorem pm_mt {e : Expr} {T : String} {r : V → List V → Hp → VK → Prop} {f : D → List D → DH → Res D} {mo : EM} {m : AM} (hs : MtSd G r f) (he : PE X e (tBM G.K T r (tE G W mo) (tA G W m))) : PE X e (tE G W (mMt T f mo m)) := he.imp (snd_mt hs)
theorem pm_mt0 {e : Expr} {T : String} {r : V → List V → Hp → VK → Prop} {f : D → List D → DH → Res D} {mo : EM} (hs : MtSd G r f) (he : PE X e (tBM0 G.K T r (tE G W mo))) : PE X e (tE G W (mMt T f mo aNil)) := he.imp fun σ H Q ⟨μ, ds, h, w, rs, p⟩ =>
  ⟨μ, ds, h, w, rs, post_bind p fun x h1 μ1 v H1 e1 w1 r1 p1 => by
    by_cases t : isTy T x h1 = true
    · rw [if_pos t] at p1
      exact ⟨ty_ok w1 r1 t, hs W ds μ1 h1 H1 x v [] [] Q w1 r1 RVs.nil p1⟩
    · rw [if_neg t] at p1; exact p1.elim⟩
theorem om_none : PO X none (fun σ H (Q : Option Int → Hp → Prop) => ∃ μ ds h, Wd G μ h H ∧ RSt G μ H ds σ ∧ post G W ds (fun _ _ a b => a = b) μ H (oNone ds h) Q) := po_none.imp fun σ H Q ⟨μ, ds, h, w, rs, p⟩ => post_ok (b := none) p w rfl
theorem om_some {e : Expr} {m : EM} (he : PE X e (tE G W m)) : PO X (some e) (fun σ H (Q : Option Int → Hp → Prop) => ∃ μ ds h, Wd G μ h H ∧ RSt G μ H ds σ ∧ post G W ds (fun _ _ a b => a = b) μ H (oSome m ds h) Q) := (po_some he).imp fun σ H Q ⟨μ, ds, h, w, rs, p⟩ =>
  ⟨μ, ds, h, w, rs, post_bind p fun x h1 μ1 v H1 e1 w1 r1 p1 => by
    cases x with
    | int i => simp only [RV] at r1; exact ⟨i, r1, post_ok (b := some i) p1 w1 rfl⟩
    | _ => exact p1.elim⟩
theorem pm_slice {r : V → Option Int → Option Int → Hp → VK → Prop} {f : D → Option Int → Option Int → DH → Res D} {e : Expr} {lo hi : Option Expr} {p2 : Pos} {me : EM} {ml mh : DSt → DH → Res (Option Int)} (hr : SlR X r) (hs : SlS G r f) (he : PE X e (tE G W me))
    (hl : PO X lo (fun σ H (Q : Option Int → Hp → Prop) => ∃ μ ds h, Wd G μ h H ∧ RSt G μ H ds σ ∧ post G W ds (fun _ _ a b => a = b) μ H (ml ds h) Q))
    (hu : PO X hi (fun σ H (Q : Option Int → Hp → Prop) => ∃ μ ds h, Wd G μ h H ∧ RSt G μ H ds σ ∧ post G W ds (fun _ _ a b => a = b) μ H (mh ds h) Q)) : PE X (.Subscript e (.Slice lo hi none p2) pos) (tE G W (mSl f me ml mh)) := (pe_slice hr he hl hu).imp fun σ H Q ⟨μ, ds, h, w, rs, p⟩ =>
  ⟨μ, ds, h, w, rs, post_bind p fun x h1 μ1 v H1 e1 w1 r1 p1 => ⟨μ1, ds, h1, w1, rs.mono e1, post_bind p1 fun l h2 μ2 l' H2 e2 w2 r2 p2 => ⟨μ2, ds, h2, w2, rs.mono (e1.trans e2), post_bind p2 fun u h3 μ3 u' H3 e3 w3 r3 p3 => by
    subst r2; subst r3
    exact hs W ds μ3 h3 H3 x v l u Q w3 (RV.mono (e2.trans e3) _ _ r1) p3⟩⟩⟩
variable {t u : TM} {rest : List Expr}
theorem snd_test {m : EM} {te : TE} (hq : ∀ σ H Q, tE G W m σ H Q → te σ H Q) : ∀ σ H Q, tT G W (mTest m) σ H Q → tTest te σ H Q := fun σ H Q ⟨μ, ds, h, w, rs, p⟩ => hq σ H _ ⟨μ, ds, h, w, rs, post_bind p fun x h1 μ1 v H1 e1 w1 r1 p1 => by
  cases x with
  | bl b => simp only [RV] at r1; exact ⟨b, r1, post_ok (b := b) p1 w1 rfl⟩
  | _ => exact p1.elim⟩
theorem tm_cmp {op : CmpOp} {r : R2} {f : D → D → DH → Res D} (ho : OpR X (compareOp op) r) (hs : OpS G r f) (ha : PE X a (tE G W ma)) (hb : PE X b (tE G W mb)) (hm : behindInMarks op b = false := by rfl) : PT X (.Compare a [op] [b] pos) (tT G W (mTest (mOp f ma mb))) := (pt_cmpR ho ha hb hm).imp (snd_test (snd_op hs))
theorem tm_val {e : Expr} {m : EM} (he : PE X e (tE G W m)) (h : ∀ whole, isTrue e X.env whole = (do let v ← whole; standAt e.pos; holding [v] (truthy v)) := by intro _; rfl) : PT X e (tT G W (mTest m)) := (pt_val he h).imp fun σ H Q ⟨μ, ds, h, w, rs, p⟩ =>
  ⟨μ, ds, h, w, rs, post_bind p fun x h1 μ1 v H1 e1 w1 r1 p1 => by
    cases x with
    | bl b => simp only [RV] at r1; exact ⟨b, r1, post_ok (b := b) p1 w1 rfl⟩
    | _ => exact p1.elim⟩
theorem tm_not (ha : PT X a (tT G W t)) : PT X (.UnaryOp .Not a pos) (tT G W (mNot t)) := (pt_not ha).imp fun σ H Q ⟨μ, ds, h, w, rs, p⟩ => ⟨μ, ds, h, w, rs, post_bind p fun x h1 μ1 v H1 e1 w1 r1 p1 => post_ok (b := !v) p1 w1 (by show (!x) = !v; rw [show x = v from r1])⟩
theorem wm_and1 (ha : PT X a (tT G W t)) : PW X (.BoolOp .And [a] pos) (tT G W t) := pw_and1 ha
theorem wm_or1 (ha : PT X a (tT G W t)) : PW X (.BoolOp .Or [a] pos) (tT G W t) := pw_or1 ha
theorem wm_and (ha : PT X a (tT G W t)) (hb : PW X (.BoolOp .And (b :: rest) pos) (tT G W u)) : PW X (.BoolOp .And (a :: b :: rest) pos) (tT G W (mAnd t u)) := (pw_and ha hb).imp fun σ H Q ⟨μ, ds, h, w, rs, p⟩ => ⟨μ, ds, h, w, rs, post_bind p fun x h1 μ1 v H1 e1 w1 r1 p1 => by
  have e : x = v := r1
  subst e
  cases x with
  | true => exact ⟨μ1, ds, h1, w1, rs.mono e1, p1⟩
  | false => exact post_ok (b := false) p1 w1 rfl⟩
theorem wm_or (ha : PT X a (tT G W t)) (hb : PW X (.BoolOp .Or (b :: rest) pos) (tT G W u)) : PW X (.BoolOp .Or (a :: b :: rest) pos) (tT G W (mOr t u)) := (pw_or ha hb).imp fun σ H Q ⟨μ, ds, h, w, rs, p⟩ => ⟨μ, ds, h, w, rs, post_bind p fun x h1 μ1 v H1 e1 w1 r1 p1 => by
  have e : x = v := r1
  subst e
  cases x with
  | true => exact post_ok (b := true) p1 w1 rfl
  | false => exact ⟨μ1, ds, h1, w1, rs.mono e1, p1⟩⟩
theorem tm_bool {e : Expr} (h : PW X e (tT G W t)) : PT X e (tT G W t) := h.pt
theorem pm_not (ha : PE X a (tE G W ma)) : PE X (.UnaryOp .Not a pos) (tE G W (mNotV ma)) := (pe_not ha).imp fun σ H Q ⟨μ, ds, h, w, rs, p⟩ => ⟨μ, ds, h, w, rs, post_bind p fun x h1 μ1 v H1 e1 w1 r1 p1 => by
  cases x with
  | bl c => simp only [RV] at r1; exact ⟨c, r1, post_ok p1 w1 (by simp only [RV])⟩
  | _ => exact p1.elim⟩
theorem pm_one {op} {m : EM} (ha : PE X a (tE G W m)) : PE X (.BoolOp op [a] pos) (tE G W m) := pe_one ha
theorem pm_and (ha : PE X a (tE G W ma)) (hb : PE X (.BoolOp .And (b :: rest) pos) (tE G W mb)) : PE X (.BoolOp .And (a :: b :: rest) pos) (tE G W (mAndV ma mb)) := (pe_and ha hb).imp fun σ H Q ⟨μ, ds, h, w, rs, p⟩ => ⟨μ, ds, h, w, rs, post_bind p fun x h1 μ1 v H1 e1 w1 r1 p1 => by
  cases x with
  | bl c =>
    simp only [RV] at r1
    refine ⟨c, r1, ?_⟩
    cases c with
    | true => exact ⟨μ1, ds, h1, w1, rs.mono e1, p1⟩
    | false => exact post_ok p1 w1 (by simp only [RV])
  | _ => exact p1.elim⟩
theorem pm_or (ha : PE X a (tE G W ma)) (hb : PE X (.BoolOp .Or (b :: rest) pos) (tE G W mb)) : PE X (.BoolOp .Or (a :: b :: rest) pos) (tE G W (mOrV ma mb)) := (pe_or ha hb).imp fun σ H Q ⟨μ, ds, h, w, rs, p⟩ => ⟨μ, ds, h, w, rs, post_bind p fun x h1 μ1 v H1 e1 w1 r1 p1 => by
  cases x with
  | bl c =>
    simp only [RV] at r1
    refine ⟨c, r1, ?_⟩
    cases c with
    | true => exact post_ok p1 w1 (by simp only [RV])
    | false => exact ⟨μ1, ds, h1, w1, rs.mono e1, p1⟩
  | _ => exact p1.elim⟩
end
end Mi
namespace Mi
open PySem L2
def Res.st {α : Type} (r : Res α) (ds : DSt) (k : α → DH → RS) : RS :=
  match r with
  | .ok a h => k a h
  | .exc e h => .exc e ds h
  | .no => .no
abbrev GM := D → DSt → DH → Option (DSt × DH)
def gNm (i : Nat) : GM := fun d ds h => some (ds.set i (some d), h)
def gSb (f : D → D → D → DH → Option DH) (o i : EM) : GM := fun d ds h => match o ds h with
  | .ok x h1 => match i ds h1 with
    | .ok y h2 => (f x y d h2).map fun h3 => (ds, h3)
    | _ => none
  | _ => none
def sNext : SM := fun ds h => .nx ds h
def sSeq (a b : SM) : SM := fun ds h => match a ds h with
  | .nx ds' h' => b ds' h'
  | r => r
def sAsg (e : EM) (g : GM) : SM := fun ds h => (e ds h).st ds fun d h1 => match g d ds h1 with | some p => .nx p.1 p.2 | none => .no
def sDrop (e : EM) : SM := fun ds h => (e ds h).st ds fun _ h1 => .nx ds h1
def sRet (e : EM) : SM := fun ds h => (e ds h).st ds fun d h1 => .rt d h1
def sRetN : SM := fun _ h => .rt .non h
def sIf (c : TM) (a b : SM) : SM := fun ds h => (c ds h).st ds fun t h1 => if t then a ds h1 else b ds h1
inductive Itd where
  | lst (n : Nat) | tup (xs : List D) | rng (lo : Int) (n : Nat) | enm (n : Nat) | zip (n m : Nat) | rev (n k : Nat)
def lsO (h : DH) (n : Nat) : Option (List D) := match h[n]? with
  | some (.lst xs) => some xs
  | some (.fro xs) => some xs
  | _ => none
def Itd.at_ (it : Itd) (i : Nat) (h : DH) : Option (Option D) :=
  match it with
  | .lst n => match h[n]? with
    | some (.lst xs) => some xs[i]?
    | some (.fro xs) => some xs[i]?
    | _ => none
  | .tup xs => some xs[i]?
  | .rng lo n => if i < n then some (some (.int (lo + (i : Nat)))) else some none
  | .enm n => (lsO h n).map fun xs => (xs[i]?).map fun x => .tup [.int (i : Nat), x]
  | .zip n m => (lsO h n).bind fun xs => (lsO h m).map fun ys => (xs[i]?).bind fun x => (ys[i]?).map fun y => .tup [x, y]
  | .rev n k => if i < k then (lsO h n).bind fun xs => (xs[k - 1 - i]?).map some else some none
def Itd.len (it : Itd) (h : DH) : Nat :=
  match it with
  | .lst n => match h[n]? with
    | some (.lst xs) => xs.length
    | some (.fro xs) => xs.length
    | _ => 0
  | .tup xs => xs.length
  | .rng _ n => n
  | .enm n => ((lsO h n).getD []).length
  | .zip n m => min ((lsO h n).getD []).length ((lsO h m).getD []).length
  | .rev _ k => k
abbrev IM := DSt → DH → Res Itd
def iSeq (e : EM) : IM := fun ds h => (e ds h).bind fun d h1 => match d with
  | .ref n => (match h1[n]? with
    | some (.lst _) => .ok (.lst n) h1
    | some (.fro _) => .ok (.lst n) h1
    | _ => .no)
  | .tup xs => .ok (.tup xs) h1
  | _ => .no
def iR1 (a : EM) : IM := fun ds h => (a ds h).bind fun d h1 => match d with
  | .int j => if -(2 ^ 62) ≤ j ∧ j < 2 ^ 62 then .ok (.rng 0 j.toNat) h1 else .no
  | _ => .no
def forN (it : Itd) (g : GM) (b : SM) : Nat → Nat → DSt → DH → RS
  | 0, _, _, _ => .no
  | k + 1, i, ds, h => match it.at_ i h with
    | none => .no
    | some none => .nx ds h
    | some (some x) => match g x ds h with
      | none => .no
      | some p => match b p.1 p.2 with
        | .nx ds' h' => forN it g b k (i + 1) ds' h'
        | .ct ds' h' => forN it g b k (i + 1) ds' h'
        | .bk ds' h' => .nx ds' h'
        | r => r
@[irreducible] def sFor (mi : IM) (g : GM) (b : SM) : SM := fun ds h => (mi ds h).st ds fun it h1 => forN it g b (it.len h1 + 1) 0 ds h1
def wipeD (ds : DSt) : List Nat → DSt
  | [] => ds
  | v :: vs => (wipeD ds vs).set v none
def lcN (it : Itd) (j : Nat) (t : TM) (e : EM) (n : Nat) (ds : DSt) : Nat → Nat → DH → Res D
  | 0, _, _ => .no
  | k + 1, i, h => match it.at_ i h with
    | none => .no
    | some none => .ok (.ref n) h
    | some (some x) => match t (ds.set j (some x)) h with
      | .ok true h1 => match e (ds.set j (some x)) h1 with
        | .ok d h2 => match h2[n]? with
          | some (.lst acc) => if acc.length < 16777216 then lcN it j t e n ds k (i + 1) (h2.set n (.lst (acc ++ [d]))) else .no
          | _ => .no
        | _ => .no
      | .ok false h1 => lcN it j t e n ds k (i + 1) h1
      | _ => .no
@[irreducible] def mLc (mi : IM) (j : Nat) (t : TM) (e : EM) (vs : List Nat) : EM := fun ds h => (mi ds h).bind fun it h1 => lcN it j t e h1.length (wipeD ds vs) (it.len h1 + 1) 0 (h1 ++ [.lst []])
def runB (n : Nat) (b : SM) (xs : List D) (h : DH) : Res D := match b (xs.map some ++ List.replicate (n - xs.length) none) h with
  | .nx _ h' => .ok .non h'
  | .rt d h' => .ok d h'
  | .exc e _ h' => .exc e h'
  | _ => .no
section
variable (G : Cw)
def tG (m : GM) : TG := fun v σ H Q => ∃ μ ds h d, Wd G μ h H ∧ RSt G μ H ds σ ∧ RV G μ H d v ∧ match m d ds h with
  | some p => ∀ μ' σ' H', Ext G μ H μ' H' → Wd G μ' p.2 H' → RSt G μ' H' p.1 σ' → Q σ' H'
  | none => False
def SetS (t : TSet) (f : D → D → D → DH → Option DH) : Prop := ∀ (μ : List Addr) (h : DH) (H : Hp) (x y z : D) (o i v : V) (h' : DH) (Q : Hp → Prop), Wd G μ h H → RV G μ H x o → RV G μ H y i → RV G μ H z v → f x y z h = some h' →
  (∀ H', Ext G μ H μ H' → Wd G μ h' H' → Q H') → t o i v H Q
def relIt (μ : List Addr) (H : Hp) (it : Itd) (J : It) : Prop :=
  match it with
  | .lst n => ∃ a, μ[n]? = some a ∧ J = Itl G.K a
  | .tup xs => (∃ a vs, SqT G.K H a vs ∧ RVs G μ H xs vs ∧ J = Itt G.K a) ∨ ∃ s : Str, xs = s.cps.toList.map (fun c => D.str ⟨#[c]⟩) ∧ J = Its s
  | .rng lo n => J = Itr lo n
  | .enm n => ∃ a, μ[n]? = some a ∧ J = Ite G.K a
  | .zip n m => ∃ a b, μ[n]? = some a ∧ μ[m]? = some b ∧ J = Itz G.K a b
  | .rev n k => ∃ a, μ[n]? = some a ∧ J = Itv G.K a k
def tI (W : WX) (m : IM) : TI := fun σ H R => ∃ μ ds h, Wd G μ h H ∧ RSt G μ H ds σ ∧ post G W ds (relIt G) μ H (m ds h) R
def spF (n : Nat) (F : List D → DH → Res D) : Sp := fun vs H Q E => vs.length = n ∧ ∃ μ xs h, Wd G μ h H ∧ RVs G μ H xs vs ∧ post G (fun c d _ H => E c d H) [] (RV G) μ H (F xs h) Q
end
section
variable {G : Cw} {X : Cx} {W : WX} {pos : Pos} {α β : Type}
theorem post_st {rel : List Addr → Hp → α → β → Prop} {μ : List Addr} {H : Hp} {ds : DSt} {r : Res α} {k : α → DH → RS} {E : Ends} {Q : β → Hp → Prop} (p : postS G W μ H (r.st ds k) E)
    (q : ∀ a h μ' b H', Ext G μ H μ' H' → Wd G μ' h H' → rel μ' H' a b → postS G W μ' H' (k a h) E → Q b H') : post G W ds rel μ H r Q := by
  cases r with
  | ok a h => exact fun μ2 b H2 e2 w r => q a h μ2 b H2 e2 w r (postS_mono e2 p)
  | exc x h => exact p
  | no => exact p
theorem gm_name {i : Nat} {x : Str} {p : Pos} (hg : PG X (.Name x p) (gName i)) : PG X (.Name x p) (tG G (gNm i)) := ⟨fun pins s σ H v u Q I r ⟨μ, ds, h, d, w, rs, rv, q⟩ => hg.run pins s σ H v u Q I r (q μ (σ.set i (some v)) H Ext.refl w (rs.set i rv))⟩
def WF : WX := fun _ _ _ _ => False
theorem post_F {γ δ : Type} {rel : List Addr → Hp → γ → δ → Prop} {μ : List Addr} {H : Hp} {ds : DSt} {r : Res γ} {a : γ} {h : DH} {Q : δ → Hp → Prop} (e : r = .ok a h) (q : ∀ μ' b H', Ext G μ H μ' H' → Wd G μ' h H' → rel μ' H' a b → Q b H') : post G W ds rel μ H r Q := by
  rw [e]; exact q
theorem gm_sub {o i : Expr} {mo mi : EM} {t : TSet} {f : D → D → D → DH → Option DH} (hs : SetS G t f) (hg : PG X (.Subscript o i pos) (gSub (tE G W mo) (tE G W mi) t)) : PG X (.Subscript o i pos) (tG G (gSb f mo mi)) := ⟨fun pins s σ H v u Q I rr ⟨μ, ds, h, d, w, rs, rv, q⟩ => hg.run pins s σ H v u Q I rr (by
  simp only [gSb] at q
  cases h1 : mo ds h with
  | ok x h1' =>
    simp only [h1] at q
    refine ⟨μ, ds, h, w, rs, post_F h1 fun μ1 ov H1 e1 w1 r1 => ?_⟩
    cases h2 : mi ds h1' with
    | ok y h2' =>
      simp only [h2] at q
      refine ⟨μ1, ds, h1', w1, rs.mono e1, post_F h2 fun μ2 iv H2 e2 w2 r2 => ?_⟩
      cases h3 : f x y d h2' with
      | none => rw [h3] at q; exact q.elim
      | some h3' =>
        rw [h3] at q
        exact hs μ2 h2' H2 x y d ov iv v h3' _ w2 (RV.mono e2 _ _ r1) r2 (RV.mono (e1.trans e2) _ _ rv) h3 fun H3 e3 w3 => q μ2 σ H3 ((e1.trans e2).trans e3) w3 (rs.mono ((e1.trans e2).trans e3))
    | exc e h2' => simp only [h2] at q
    | no => simp only [h2] at q
  | exc e h1' => simp only [h1] at q
  | no => simp only [h1] at q)⟩
variable {e : Expr} {m : EM} {st : Stmt} {rest : List Stmt} {a b : SM} {t : TM}
theorem sm_nil : PSs X [] (tS G W sNext) := pss_nil.imp fun E σ H ⟨μ, ds, h, w, rs, p⟩ => p μ σ H Ext.refl w rs
theorem sm_cons (h1 : PS X st (tS G W a)) (h2 : PSs X rest (tS G W b)) : PSs X (st :: rest) (tS G W (sSeq a b)) := (pss_cons h1 h2).imp fun E σ H ⟨μ, ds, h, w, rs, p⟩ => ⟨μ, ds, h, w, rs, by
  simp only [sSeq] at p
  cases q : a ds h with
  | nx ds' h' => rw [q] at p; exact fun μ1 σ1 H1 e1 w1 r1 => ⟨μ1, ds', h', w1, r1, postS_mono e1 p⟩
  | _ => rw [q] at p; exact p⟩
theorem sm_one (h1 : PS X st (tS G W a)) : PSs X [st] (tS G W a) := pss_one h1
theorem sm_asg_of {g : GM} (h : PS X st (tAsg (tE G W m) (tG G g))) : PS X st (tS G W (sAsg m g)) := h.imp fun E σ H ⟨μ, ds, h, w, rs, p⟩ => ⟨μ, ds, h, w, rs, post_st p fun x h1 μ1 v H1 e1 w1 r1 p1 => ⟨μ1, ds, h1, x, w1, rs.mono e1, r1, by
  cases q : g x ds h1 with
  | none => rw [q] at p1; exact p1.elim
  | some z => rw [q] at p1; exact p1⟩⟩
theorem sm_set {i : Nat} {x : Str} {pos' : Pos} (he : PE X e (tE G W m)) (h : ∀ {te : TE}, PE X e te → PS X (.Assign [.Name x pos'] e pos) (tAsg te (gName i))) : PS X (.Assign [.Name x pos'] e pos) (tS G W (sAsg m (gNm i))) := (h he).imp fun E σ H ⟨μ, ds, h, w, rs, p⟩ =>
  ⟨μ, ds, h, w, rs, post_st p fun x h1 μ1 v H1 e1 w1 r1 p1 => p1 μ1 (σ.set i (some v)) H1 Ext.refl w1 ((rs.mono e1).set i r1)⟩
theorem sm_asg {tg : Expr} {g : GM} (he : PE X e (tE G W m)) (hg : PG X tg (tG G g)) (hs : swapsWithSole [tg] e pos.line X.env = pure false := by rfl) (hw : swappedStores [tg] e X.env = pure none := by rfl)
    (h1 : (assignEach [tg] X.env).map (·.2) = [assign tg X.env] := by rfl) : PS X (.Assign [tg] e pos) (tS G W (sAsg m g)) := sm_asg_of (ps_asg he hg hs hw h1)
theorem sm_expr (he : PE X e (tE G W m)) (hs : swapsWith e none pos.line X.env = pure false := by rfl) : PS X (.Expr e pos) (tS G W (sDrop m)) := (ps_expr he hs).imp fun E σ H ⟨μ, ds, h, w, rs, p⟩ =>
  ⟨μ, ds, h, w, rs, post_st p fun x h1 μ1 v H1 e1 w1 r1 p1 => p1 μ1 σ H1 Ext.refl w1 (rs.mono e1)⟩
theorem sm_ret (he : PE X e (tE G W m)) : PS X (.Return (some e) pos) (tS G W (sRet m)) := (ps_ret he).imp fun E σ H ⟨μ, ds, h, w, rs, p⟩ =>
  ⟨μ, ds, h, w, rs, post_st p fun x h1 μ1 v H1 e1 w1 r1 p1 => p1 μ1 v H1 Ext.refl w1 r1⟩
theorem sm_retN : PS X (.Return none pos) (tS G W sRetN) := ps_retN.imp fun E σ H ⟨μ, ds, h, w, rs, p⟩ => p μ .non H Ext.refl w (by simp only [RV])
theorem sm_if {c : Expr} {x y : List Stmt} (hc : PT X c (tT G W t)) (ha : PSs X x (tS G W a)) (hb : PSs X y (tS G W b)) : PS X (.If c x y pos) (tS G W (sIf t a b)) := (ps_if hc ha hb).imp fun E σ H ⟨μ, ds, h, w, rs, p⟩ =>
  ⟨μ, ds, h, w, rs, post_st p fun x h1 μ1 v H1 e1 w1 r1 p1 => by
    have e : x = v := r1
    subst e
    cases x with
    | true => exact ⟨μ1, ds, h1, w1, rs.mono e1, p1⟩
    | false => exact ⟨μ1, ds, h1, w1, rs.mono e1, p1⟩⟩
theorem relIt.mono {μ μ' : List Addr} {H H' : Hp} {it : Itd} {J : It} (e : Ext G μ H μ' H') (r : relIt G μ H it J) : relIt G μ' H' it J := by
  cases it with
  | lst n => obtain ⟨a, h1, h2⟩ := r; exact ⟨a, e.pre _ _ h1, h2⟩
  | tup xs =>
    rcases r with ⟨a, vs, h1, h2, h3⟩ | r
    · exact .inl ⟨a, vs, e.tup _ _ h1, RVs.mono e _ _ h2, h3⟩
    · exact .inr r
  | rng lo n => exact r
  | enm n => obtain ⟨a, h1, h2⟩ := r; exact ⟨a, e.pre _ _ h1, h2⟩
  | zip n m => obtain ⟨a, b, h1, h2, h3⟩ := r; exact ⟨a, b, e.pre _ _ h1, e.pre _ _ h2, h3⟩
  | rev n k => obtain ⟨a, h1, h2⟩ := r; exact ⟨a, e.pre _ _ h1, h2⟩
theorem Wd.seq {μ : List Addr} {h : DH} {H : Hp} {n : Nat} {a : Addr} {xs : List D} (w : Wd G μ h H) (e : μ[n]? = some a) (q : h[n]? = some (.lst xs) ∨ h[n]? = some (.fro xs)) : ∃ vs, SqL G.K H a vs ∧ RVs G μ H xs vs := by
  rcases q with q | q
  · obtain ⟨vs, h1, h2⟩ := w.ob n a _ e q
    exact ⟨vs, SqL.of h1, h2⟩
  · obtain ⟨vs, h1, h2⟩ := w.ob n a _ e q
    refine ⟨vs, ?_, h2⟩
    rcases h1 with ⟨u, h1⟩ | h1
    · exact .inl (.inr ⟨u, h1⟩)
    · exact h1 H
theorem RVs.none {μ : List Addr} {H : Hp} {xs : List D} {vs : List V} {i : Nat} (r : RVs G μ H xs vs) (e : xs[i]? = none) : vs.length ≤ i := by
  rw [← r.length]; exact List.getElem?_eq_none_iff.mp e
theorem Wd.lsO {μ : List Addr} {h : DH} {H : Hp} {n : Nat} {a : Addr} {xs : List D} (w : Wd G μ h H) (e : μ[n]? = some a) (q : lsO h n = some xs) : ∃ vs, SqL G.K H a vs ∧ RVs G μ H xs vs := by
  unfold Mi.lsO at q
  cases z : h[n]? with
  | none => rw [z] at q; cases q
  | some o =>
    rw [z] at q
    cases o with
    | lst ys => cases q; exact w.seq e (.inl z)
    | fro ys => cases q; exact w.seq e (.inr z)
    | _ => cases q
theorem it_stop {μ : List Addr} {h : DH} {H : Hp} {it : Itd} {J : It} {i : Nat} (w : Wd G μ h H) (r : relIt G μ H it J) (e : it.at_ i h = some none) : J.stop i H := by
  cases it with
  | lst n =>
    obtain ⟨a, h1, rfl⟩ := r
    simp only [Itd.at_] at e
    cases q : h[n]? with
    | none => simp only [q] at e; cases e
    | some o =>
      simp only [q] at e
      cases o with
      | lst xs =>
        obtain ⟨vs, s1, s2⟩ := w.seq h1 (.inl q)
        exact ⟨vs, s1, s2.none (Option.some.inj e)⟩
      | fro xs =>
        obtain ⟨vs, s1, s2⟩ := w.seq h1 (.inr q)
        exact ⟨vs, s1, s2.none (Option.some.inj e)⟩
      | dK kvs => cases e
      | ins c fs => cases e
      | dT kvs => cases e
  | tup xs =>
    rcases r with ⟨a, vs, h1, h2, rfl⟩ | ⟨s, rfl, rfl⟩
    · exact ⟨vs, h1, h2.none (Option.some.inj e)⟩
    · have e := Option.some.inj e
      rw [List.getElem?_map] at e
      have := List.getElem?_eq_none_iff.mp (Option.map_eq_none_iff.mp e)
      show s.cps.size ≤ i
      rw [← Array.length_toList]
      exact this
  | rng lo n =>
    have r' : J = Itr lo n := r
    subst r'
    simp only [Itd.at_] at e
    by_cases hi : i < n
    · rw [if_pos hi] at e; cases e
    · exact Nat.le_of_not_lt hi
  | enm n =>
    obtain ⟨a, h1, rfl⟩ := r
    simp only [Itd.at_] at e
    cases q : lsO h n with
    | none => rw [q] at e; cases e
    | some xs =>
      rw [q] at e
      obtain ⟨vs, s1, s2⟩ := w.lsO h1 q
      refine ⟨vs, s1, s2.none (i := i) ?_⟩
      cases z : xs[i]? with
      | none => rfl
      | some x => rw [Option.map_some, z] at e; cases e
  | zip n m =>
    obtain ⟨a, b, h1, h2, rfl⟩ := r
    simp only [Itd.at_] at e
    cases q : lsO h n with
    | none => rw [q] at e; cases e
    | some xs =>
      cases q2 : lsO h m with
      | none => rw [q, q2] at e; cases e
      | some ys =>
        rw [q, q2] at e
        obtain ⟨vs, s1, s2⟩ := w.lsO h1 q
        obtain ⟨us, t1, t2⟩ := w.lsO h2 q2
        refine ⟨vs, us, s1, t1, ?_⟩
        cases z : xs[i]? with
        | none => exact .inl (s2.none z)
        | some x =>
          cases z2 : ys[i]? with
          | none => exact .inr (t2.none z2)
          | some y => simp only [Option.bind, Option.map_some, z, z2] at e; cases e
  | rev n k =>
    obtain ⟨a, h1, rfl⟩ := r
    simp only [Itd.at_] at e
    by_cases hi : i < k
    · rw [if_pos hi] at e
      cases q : lsO h n with
      | none => rw [q] at e; cases e
      | some xs =>
        rw [q] at e
        cases z : xs[k - 1 - i]? with
        | none => simp only [Option.bind, z] at e; cases e
        | some x => simp only [Option.bind, z] at e; cases e
    · exact Nat.le_of_not_lt hi
theorem it_go {μ : List Addr} {h : DH} {H : Hp} {it : Itd} {J : It} {i : Nat} {d : D} (w : Wd G μ h H) (r : relIt G μ H it J) (e : it.at_ i h = some (some d)) : J.go i H ∧ ∀ x H', J.yld i H x H' → Ext G μ H μ H' ∧ Wd G μ h H' ∧ RV G μ H' d x := by
  cases it with
  | lst n =>
    obtain ⟨a, h1, rfl⟩ := r
    simp only [Itd.at_] at e
    cases q : h[n]? with
    | none => simp only [q] at e; cases e
    | some o =>
      simp only [q] at e
      have fin : ∀ xs : List D, xs[i]? = some d → (∃ vs, SqL G.K H a vs ∧ RVs G μ H xs vs) → (Itl G.K a).go i H ∧ ∀ x H', (Itl G.K a).yld i H x H' → Ext G μ H μ H' ∧ Wd G μ h H' ∧ RV G μ H' d x := fun xs hx ⟨vs, s1, s2⟩ => by
        obtain ⟨v, g1, g2⟩ := s2.get hx
        refine ⟨⟨vs, v, s1, g1⟩, fun x H' y => ?_⟩
        have z := y.2 vs s1
        rw [g1] at z
        cases z
        obtain rfl : H' = H := y.1
        exact ⟨Ext.refl, w, g2⟩
      cases o with
      | lst xs => exact fin xs (Option.some.inj e) (w.seq h1 (.inl q))
      | fro xs => exact fin xs (Option.some.inj e) (w.seq h1 (.inr q))
      | dK kvs => cases e
      | ins c fs => cases e
      | dT kvs => cases e
  | tup xs =>
    rcases r with ⟨a, vs, h1, h2, rfl⟩ | ⟨s, rfl, rfl⟩
    · obtain ⟨v, g1, g2⟩ := h2.get (Option.some.inj e)
      refine ⟨⟨vs, v, h1, g1⟩, fun x H' y => ?_⟩
      have z := y.2 vs h1
      rw [g1] at z
      cases z
      obtain rfl : H' = H := y.1
      exact ⟨Ext.refl, w, g2⟩
    · have e := Option.some.inj e
      rw [List.getElem?_map] at e
      obtain ⟨c, hc, rfl⟩ := Option.map_eq_some_iff.mp e
      have hl : i < s.cps.toList.length := (List.getElem?_eq_some_iff.mp hc).1
      refine ⟨by show i < s.cps.size; rw [← Array.length_toList]; exact hl, fun x H' y => ?_⟩
      obtain ⟨rfl, c2, e2, rfl⟩ := y
      rw [← Array.getElem?_toList, hc] at e2
      cases e2
      exact ⟨Ext.refl, w, by simp only [RV]⟩
  | rng lo n =>
    have r' : J = Itr lo n := r
    subst r'
    simp only [Itd.at_] at e
    by_cases hi : i < n
    · rw [if_pos hi] at e
      cases e
      refine ⟨hi, fun x H' y => ?_⟩
      obtain rfl : H' = H := y.1
      exact ⟨Ext.refl, w, by simp only [RV]; exact y.2⟩
    · rw [if_neg hi] at e; cases e
  | enm n =>
    obtain ⟨a, h1, rfl⟩ := r
    simp only [Itd.at_] at e
    cases q : lsO h n with
    | none => rw [q] at e; cases e
    | some xs =>
      rw [q] at e
      obtain ⟨vs, s1, s2⟩ := w.lsO h1 q
      cases z : xs[i]? with
      | none => rw [Option.map_some, z] at e; cases e
      | some d0 =>
        rw [Option.map_some, z] at e
        cases e
        obtain ⟨v, g1, g2⟩ := s2.get z
        refine ⟨⟨vs, v, s1, g1⟩, ?_⟩
        rintro _ _ ⟨T, x, rfl, hT, rfl, y⟩
        have z2 := y vs s1
        rw [g1] at z2
        cases z2
        have ex : Ext G μ H μ (upd H T (.tup [.int (i : Nat), v])) := ext_new hT
        refine ⟨ex, w.new hT, ?_⟩
        simp only [RV]
        exact ⟨T, _, rfl, SqX.of upd_same, RVs.cons (by simp only [RV]) (RVs.cons (RV.mono ex _ _ g2) RVs.nil)⟩
  | zip n m =>
    obtain ⟨a, b, h1, h2, rfl⟩ := r
    simp only [Itd.at_] at e
    cases q : lsO h n with
    | none => rw [q] at e; cases e
    | some xs =>
      cases q2 : lsO h m with
      | none => rw [q, q2] at e; cases e
      | some ys =>
        rw [q, q2] at e
        obtain ⟨vs, s1, s2⟩ := w.lsO h1 q
        obtain ⟨us, t1, t2⟩ := w.lsO h2 q2
        cases z : xs[i]? with
        | none => simp only [Option.bind, Option.map_some, z] at e; cases e
        | some x0 =>
          cases z2 : ys[i]? with
          | none => simp only [Option.bind, Option.map_some, z, z2] at e; cases e
          | some y0 =>
            simp only [Option.bind, Option.map_some, z, z2] at e
            cases e
            obtain ⟨v, g1, g2⟩ := s2.get z
            obtain ⟨u, k1, k2⟩ := t2.get z2
            refine ⟨⟨vs, us, v, u, s1, t1, g1, k1⟩, ?_⟩
            rintro _ _ ⟨T, x, y, rfl, hT, rfl, y1, y2⟩
            have w1 := y1 vs s1
            rw [g1] at w1
            cases w1
            have w2 := y2 us t1
            rw [k1] at w2
            cases w2
            have ex : Ext G μ H μ (upd H T (.tup [v, u])) := ext_new hT
            refine ⟨ex, w.new hT, ?_⟩
            simp only [RV]
            exact ⟨T, _, rfl, SqX.of upd_same, RVs.cons (RV.mono ex _ _ g2) (RVs.cons (RV.mono ex _ _ k2) RVs.nil)⟩
  | rev n k =>
    obtain ⟨a, h1, rfl⟩ := r
    simp only [Itd.at_] at e
    by_cases hi : i < k
    · rw [if_pos hi] at e
      cases q : lsO h n with
      | none => rw [q] at e; cases e
      | some xs =>
        rw [q] at e
        obtain ⟨vs, s1, s2⟩ := w.lsO h1 q
        cases z : xs[k - 1 - i]? with
        | none => simp only [Option.bind, z] at e; cases e
        | some x0 =>
          simp only [Option.bind, z, Option.map_some] at e
          cases e
          obtain ⟨v, g1, g2⟩ := s2.get z
          refine ⟨⟨hi, vs, v, s1, g1⟩, fun x H' y => ?_⟩
          have z2 := y.2 vs s1
          rw [g1] at z2
          cases z2
          obtain rfl : H' = H := y.1
          exact ⟨Ext.refl, w, g2⟩
    · rw [if_neg hi] at e; cases e
theorem snd_for {mi : IM} {g : GM} : ∀ E σ H, tS G W (sFor mi g b) E σ H → tFor (tI G W mi) (tG G g) (tS G W b) E σ H := fun E σ H ⟨μ, ds, h, w, rs, p⟩ => ⟨μ, ds, h, w, rs, post_st (show postS G W μ H ((mi ds h).st ds fun it h1 => forN it g b (it.len h1 + 1) 0 ds h1) E by unfold sFor at p; exact p) fun it h1 μ1 J H1 e1 w1 r1 p1 => by
  refine ⟨fun i m σ H => ∃ μ ds h, Wd G μ h H ∧ RSt G μ H ds σ ∧ relIt G μ H it J ∧ postS G W μ H (forN it g b m i ds h) E, ⟨_, μ1, ds, h1, w1, rs.mono e1, r1, p1⟩, ?_⟩
  rintro i m σ H ⟨μ, ds, h, w, rs, ri, p⟩
  cases m with
  | zero => exact p.elim
  | succ k =>
    simp only [forN] at p
    cases q : it.at_ i h with
    | none => rw [q] at p; exact p.elim
    | some o =>
      cases o with
      | none =>
        rw [q] at p
        exact .inl ⟨it_stop w ri q, p μ σ H Ext.refl w rs⟩
      | some d =>
        rw [q] at p
        obtain ⟨g1, g2⟩ := it_go w ri q
        refine .inr ⟨g1, fun σ H => ∃ μ ds h, Wd G μ h H ∧ RSt G μ H ds σ ∧ relIt G μ H it J ∧ postS G W μ H (forN it g b k (i + 1) ds h) E, fun σ' H' z => ⟨k, Nat.lt_succ_self k, z⟩, fun x H' y => ?_⟩
        obtain ⟨ey, wy, rx⟩ := g2 x H' y
        refine ⟨μ, ds, h, d, wy, rs.mono ey, rx, ?_⟩
        cases q2 : g d ds h with
        | none => simp only [q2] at p; exact p.elim
        | some z =>
          simp only [q2] at p
          intro μ2 σ2 H2 e2 w2 r2
          refine ⟨μ2, z.1, z.2, w2, r2, ?_⟩
          have p := postS_mono (ey.trans e2) p
          cases q3 : b z.1 z.2 with
          | nx ds' h' => rw [q3] at p; exact fun μ3 σ3 H3 e3 w3 r3 => ⟨μ3, ds', h', w3, r3, ((ri.mono ey).mono e2).mono e3, postS_mono e3 p⟩
          | ct ds' h' => rw [q3] at p; exact fun μ3 σ3 H3 e3 w3 r3 => ⟨μ3, ds', h', w3, r3, ((ri.mono ey).mono e2).mono e3, postS_mono e3 p⟩
          | bk ds' h' => rw [q3] at p; exact p
          | rt d h' => rw [q3] at p; exact p
          | exc x s h' => rw [q3] at p; exact p
          | no => rw [q3] at p; exact p.elim⟩
theorem sm_for {mi : IM} {g : GM} (h : PS X st (tFor (tI G W mi) (tG G g) (tS G W b))) : PS X st (tS G W (sFor mi g b)) := h.imp snd_for
end
end Mi
namespace L2
open PySem PySem.Spec PyProof.Rows
section
variable {X : Cx} {tg : Expr}
/-- a list or a tuple -/
def iSq (K : PySem.W.Frag) (tl : TE) : TI := fun σ H R => tl σ H fun x H1 => ∃ a, x = .ref a ∧ (((∃ xs, SqL K H1 a xs) ∧ R (Itl K a) H1) ∨ ((∃ xs, SqT K H1 a xs) ∧ R (Itt K a) H1))
theorem pi_sq {l : Expr} {tl : TE} (hl : PE X l tl) : PI X tg l (iSq X.K tl) := by
  refine ⟨fun pins s σ H R I h => ?_⟩
  refine thn (hl.run pins s σ H _ I h) fun v s1 ⟨x, H1, I1, r1, q1⟩ => ?_
  obtain ⟨a, e, q⟩ := q1
  subst e
  cases r1
  rcases q with ⟨⟨xs, hq⟩, q⟩ | ⟨⟨xs, hq⟩, q⟩
  · obtain ⟨its, rv, p, hz⟩ := I1.list hq
    refine wpAny_pyIter_list p.isList ?_
    refine ⟨s1.heap.objs.size, [s1.heap.objs.size], _, _, H1, rfl, I1.kept (t' := s1.toks) fun b o e => Heap.get?_push_of_some _ e, turn_list a _, ⟨_, Heap.get?_push_size _ rfl, rfl, rfl⟩, fun b hb => ?_, q⟩
    have e : b = s1.heap.objs.size := by simpa using hb
    subst e
    exact I1.fpOk (Nat.le_refl _) (I1.hok.fresh (Nat.le_refl _))
  · obtain ⟨its, rv, p, hz⟩ := I1.tuple hq
    refine wpAny_pyIter_tuple (show s1.heap.IsTuple a its.toArray from p) ?_
    refine ⟨s1.heap.objs.size, [s1.heap.objs.size], _, _, H1, rfl, I1.kept (t' := s1.toks) fun b o e => Heap.get?_push_of_some _ e, turn_tuple a _, ⟨_, Heap.get?_push_size _ rfl, rfl, rfl⟩, fun b hb => ?_, q⟩
    have e : b = s1.heap.objs.size := by simpa using hb
    subst e
    exact I1.fpOk (Nat.le_refl _) (I1.hok.fresh (Nat.le_refl _))
end
end L2
namespace Mi
open PySem L2
section
variable {G : Cw} {X : Cx} {W : WX} {pos : Pos}
theorem PI.imp {X : Cx} {tg it : Expr} {t t' : TI} (p : PI X tg it t) (h : ∀ σ H R, t' σ H R → t σ H R) : PI X tg it t' := ⟨fun pins s σ H R I hq => p.run pins s σ H R I (h σ H R hq)⟩
theorem im_seq {tg e : Expr} {m : EM} (hK : X.K = G.K) (he : PE X e (tE G W m)) : PI X tg e (tI G W (iSeq m)) := PI.imp (pi_sq he) fun σ H R ⟨μ, ds, h, w, rs, p⟩ => ⟨μ, ds, h, w, rs, post_bind p fun x h1 μ1 v H1 e1 w1 r1 p1 => by
  cases x with
  | ref n =>
    simp only [RV] at r1
    obtain ⟨a, rfl, ha⟩ := r1
    have fin : ∀ xs, h1[n]? = some (.lst xs) ∨ h1[n]? = some (.fro xs) → post G W ds (relIt G) μ1 H1 (.ok (.lst n) h1) R → ∃ b, V.ref a = V.ref b ∧ (((∃ xs, SqL X.K H1 b xs) ∧ R (Itl X.K b) H1) ∨ ((∃ xs, SqT X.K H1 b xs) ∧ R (Itt X.K b) H1)) := fun xs hx p2 => by
      obtain ⟨vs, s1, _⟩ := w1.seq ha hx
      rw [hK]
      exact ⟨a, rfl, .inl ⟨⟨vs, s1⟩, post_ok p2 w1 ⟨a, ha, rfl⟩⟩⟩
    cases q : h1[n]? with
    | none => simp only [q] at p1; exact p1.elim
    | some o =>
      simp only [q] at p1
      cases o with
      | lst xs => exact fin xs (.inl q) p1
      | fro xs => exact fin xs (.inr q) p1
      | dK kvs => exact p1.elim
      | ins c fs => exact p1.elim
      | dT kvs => exact p1.elim
  | tup xs =>
    simp only [RV] at r1
    obtain ⟨a, vs, rfl, ha, hb⟩ := r1
    rw [hK]
    exact ⟨a, rfl, .inr ⟨⟨vs, ha.1⟩, post_ok p1 w1 (.inl ⟨a, vs, ha.1, hb, rfl⟩)⟩⟩
  | _ => exact p1.elim⟩
theorem im_r1 {tg a : Expr} {m : EM} {p p1 : Pos} (h : PI X tg (.Call (.Name "range" p) [a] [] p1) (iRng1 (tA G W (aCons m aNil)))) : PI X tg (.Call (.Name "range" p) [a] [] p1) (tI G W (iR1 m)) := PI.imp h fun σ H R ⟨μ, ds, h, w, rs, p⟩ => ⟨μ, ds, h, w, rs, by
  refine post_bind (r := aCons m aNil ds h) (f := fun xs h1 => match xs with | [.int j] => if -(2 ^ 62) ≤ j ∧ j < 2 ^ 62 then .ok (.rng 0 j.toNat) h1 else .no | _ => .no) (rel2 := relIt G) (Q2 := R) ?_ fun xs h1 μ1 vs H1 e1 w1 r1 p1 => ?_
  · unfold iR1 at p
    unfold aCons aNil
    cases q : m ds h with
    | ok d h1 =>
      rw [q] at p
      cases d <;> exact p
    | exc e h1 => rw [q] at p; exact p
    | no => rw [q] at p; exact p
  · match xs, p1 with
    | [.int j], p1 =>
      simp only [RVs, RV] at r1
      obtain ⟨v, ws, rfl, rfl, rfl⟩ := r1
      by_cases hj : -(2 ^ 62) ≤ j ∧ j < 2 ^ 62
      · have p2 : post G W ds (relIt G) μ1 H1 (.ok (.rng 0 j.toNat) h1) R := by
          have p3 : post G W ds (relIt G) μ1 H1 (if -(2 ^ 62) ≤ j ∧ j < 2 ^ 62 then .ok (.rng 0 j.toNat) h1 else .no) R := p1
          rw [if_pos hj] at p3; exact p3
        exact ⟨j, rfl, hj.1, hj.2, post_ok p2 w1 rfl⟩
      · have p3 : post G W ds (relIt G) μ1 H1 (if -(2 ^ 62) ≤ j ∧ j < 2 ^ 62 then .ok (.rng 0 j.toNat) h1 else .no) R := p1
        rw [if_neg hj] at p3; exact p3.elim⟩
theorem wipe_in (σ : St) {i : Nat} : ∀ {vs : List Nat}, i ∈ vs → (L2.wipe σ vs)[i]? = if i < σ.length then some none else none
  | v :: vs, h => by
    unfold L2.wipe
    by_cases hv : v = i
    · subst hv
      by_cases hl : v < σ.length
      · rw [List.getElem?_set_self (by rw [L2.wipe_length]; exact hl), if_pos hl]
      · rw [if_neg hl, List.getElem?_eq_none (by rw [List.length_set, L2.wipe_length]; omega)]
    · rw [List.getElem?_set_ne hv]
      rcases List.mem_cons.mp h with h | h
      · exact absurd h.symm hv
      · exact wipe_in σ h
theorem wipe_get (σ : St) (i : Nat) (vs : List Nat) : (L2.wipe σ vs)[i]? = if i ∈ vs then (if i < σ.length then some none else none) else σ[i]? := by
  by_cases h : i ∈ vs
  · rw [if_pos h, wipe_in σ h]
  · rw [if_neg h, L2.wipe_out h]
theorem wipe_back (σ : St) {j : Nat} (x : V) {vs : List Nat} (h : j ∈ vs) : L2.wipe ((L2.wipe σ vs).set j (some x)) vs = L2.wipe σ vs := by
  apply List.ext_getElem?
  intro i
  rw [wipe_get, wipe_get]
  by_cases hi : i ∈ vs
  · rw [if_pos hi, if_pos hi, List.length_set, L2.wipe_length]
  · rw [if_neg hi, if_neg hi, List.getElem?_set_ne (fun e : j = i => hi (by rw [← e]; exact h)), L2.wipe_out hi]
theorem wipe_st {μ : List Addr} {H : Hp} {ds : DSt} {σ : St} (r : RSt G μ H ds σ) : ∀ vs : List Nat, RSt G μ H (wipeD ds vs) (L2.wipe σ vs)
  | [] => r
  | v :: vs => (wipe_st r vs).unset v none
theorem ext_write {μ : List Addr} {H : Hp} {a : Addr} {u o : HO} (h : H a = some u) (m : Mut (some u)) : Ext G μ H μ (upd H a o) := ⟨fun _ _ e => e, fun b xs s => by
  have nb : ∀ z, H b = some z → ¬ Mut (some z) → b ≠ a := fun z hz nm e => by subst e; rw [h] at hz; cases hz; exact nm m
  rcases s with (s | ⟨z, s⟩) | s
  · exact .inl (.inl (by rw [upd_ne (nb _ s fun q => q)]; exact s))
  · exact .inl (.inr ⟨z, by rw [upd_ne (nb _ s fun q => q)]; exact s⟩)
  · exact .inr s, fun b xs s => by
  have nb : b ≠ a := fun e => by subst e; rw [h] at s; cases s; exact m
  rw [upd_ne nb]; exact s, fun b xs s => by
  have nb : b ≠ a := fun e => by subst e; rw [h] at s; cases s; exact m
  rw [upd_ne nb]; exact s⟩
/-- a list written -/
theorem Wd.setL {μ : List Addr} {h : DH} {H : Hp} {n : Nat} {a : Addr} {xs ys : List D} {vs : List V} (w : Wd G μ h H) (e1 : μ[n]? = some a) (e2 : h[n]? = some (.lst xs)) (r : RVs G μ H ys vs) :
    Ext G μ H μ (upd H a (.lst vs)) ∧ Wd G μ (h.set n (.lst ys)) (upd H a (.lst vs)) := by
  obtain ⟨us, h1, _⟩ := w.ob n a _ e1 e2
  have ex : Ext G μ H μ (upd H a (.lst vs)) := ext_write h1 trivial
  exact ⟨ex, w.write e1 e2 rfl rfl ex ⟨vs, upd_same, RVs.mono ex _ _ r⟩⟩
theorem snd_lc {mi : IM} {j : Nat} {mt : TM} {me : EM} {vs : List Nat} (hj : j ∈ vs) : ∀ σ H Q, tE G W (mLc mi j mt me vs) σ H Q → tLc (tI G W mi) (gName j) (tT G WF mt) (tE G WF me) vs σ H Q := fun σ H Q ⟨μ, ds, h, w, rs, p⟩ => ⟨μ, ds, h, w, rs, post_bind (show post G W ds (RV G) μ H ((mi ds h).bind fun it h1 => lcN it j mt me h1.length (wipeD ds vs) (it.len h1 + 1) 0 (h1 ++ [.lst []])) Q by unfold mLc at p; exact p) fun it h1 μ1 J H1 e1 w1 r1 p1 => fun D hD => by
  have exD : Ext G μ1 H1 (μ1 ++ [D]) (upd H1 D (.lst [])) := (ext_new hD).trans (ext_app [D])
  refine ⟨fun i m H => ∃ μ h, Wd G μ h H ∧ RSt G μ H (wipeD ds vs) (L2.wipe σ vs) ∧ RSt G μ H ds σ ∧ relIt G μ H it J ∧ μ[h1.length]? = some D ∧ post G W ds (RV G) μ H (lcN it j mt me h1.length (wipeD ds vs) m i h) Q, ⟨_, μ1 ++ [D], h1 ++ [.lst []], w1.alloc hD rfl (show RObj G _ _ D (.lst []) from ⟨[], upd_same, RVs.nil⟩), wipe_st (rs.mono (e1.trans exD)) vs, rs.mono (e1.trans exD), r1.mono exD, by rw [← w1.len]; exact get_last μ1 D, post_mono exD p1⟩, ?_⟩
  rintro i m H ⟨μ, h, w, rsw, rs', ri, hn, p⟩
  cases m with
  | zero => exact p.elim
  | succ k =>
    simp only [lcN] at p
    cases q : it.at_ i h with
    | none => simp only [q] at p; exact p.elim
    | some o =>
      cases o with
      | none =>
        simp only [q] at p
        exact .inl ⟨it_stop w ri q, post_ok p w (by simp only [RV]; exact ⟨D, rfl, hn⟩)⟩
      | some d =>
        simp only [q] at p
        obtain ⟨g1, g2⟩ := it_go w ri q
        refine .inr ⟨g1, fun H => ∃ μ h, Wd G μ h H ∧ RSt G μ H (wipeD ds vs) (L2.wipe σ vs) ∧ RSt G μ H ds σ ∧ relIt G μ H it J ∧ μ[h1.length]? = some D ∧ post G W ds (RV G) μ H (lcN it j mt me h1.length (wipeD ds vs) k (i + 1) h) Q, fun H' z => ⟨k, Nat.lt_succ_self k, z⟩, fun x H' y => ?_⟩
        obtain ⟨ey, wy, rx⟩ := g2 x H' y
        replace rsw := rsw.mono ey
        replace rs' := rs'.mono ey
        replace ri := ri.mono ey
        replace p := post_mono ey p
        refine ⟨wipe_back σ x hj, μ, (wipeD ds vs).set j (some d), h, wy, rsw.set j rx, ?_⟩
        cases q2 : mt ((wipeD ds vs).set j (some d)) h with
        | ok b h2 =>
          intro μ2 b' H2 e2 w2 rb
          have eb : b = b' := rb
          subst eb
          cases b with
          | false =>
            simp only [q2] at p
            exact ⟨μ2, h2, w2, rsw.mono e2, rs'.mono e2, ri.mono e2, e2.pre _ _ hn, post_mono e2 p⟩
          | true =>
            simp only [q2] at p
            refine ⟨μ2, (wipeD ds vs).set j (some d), h2, w2, (rsw.set j rx).mono e2, ?_⟩
            cases q3 : me ((wipeD ds vs).set j (some d)) h2 with
            | ok z h3 =>
              simp only [q3] at p
              intro μ3 zv H3 e3 w3 rz
              have ex := e2.trans e3
              cases q4 : h3[h1.length]? with
              | none => simp only [q4] at p; exact p.elim
              | some ob =>
                cases ob with
                | lst acc =>
                  simp only [q4] at p
                  by_cases ha : acc.length < 16777216
                  · rw [if_pos ha] at p
                    have hn3 := ex.pre _ _ hn
                    obtain ⟨av, hav, rav⟩ := w3.ob _ _ _ hn3 q4
                    obtain ⟨ex4, w4⟩ := w3.setL hn3 q4 (RVs.append rav (RVs.cons rz RVs.nil))
                    exact ⟨av, hav, by rw [← rav.length, sizeLine_eq]; exact ha, μ3, _, w4, rsw.mono (ex.trans ex4), rs'.mono (ex.trans ex4), ri.mono (ex.trans ex4), hn3, post_mono (ex.trans ex4) p⟩
                  · rw [if_neg ha] at p; exact p.elim
                | fro acc => simp only [q4] at p; exact p.elim
                | dK kvs => simp only [q4] at p; exact p.elim
                | ins c fs => simp only [q4] at p; exact p.elim
                | dT kvs => simp only [q4] at p; exact p.elim
            | exc e h3 => simp only [q3] at p; exact p.elim
            | no => simp only [q3] at p; exact p.elim
        | exc e h2 => simp only [q2] at p; exact p.elim
        | no => simp only [q2] at p; exact p.elim⟩
theorem pm_lc {e : Expr} {mi : IM} {j : Nat} {mt : TM} {me : EM} {vs : List Nat} (hj : j ∈ vs) (h : PE X e (tLc (tI G W mi) (gName j) (tT G WF mt) (tE G WF me) vs)) : PE X e (tE G W (mLc mi j mt me vs)) := h.imp (snd_lc hj)
theorem sm_setLc {st : Stmt} {i : Nat} {mi : IM} {j : Nat} {mt : TM} {me : EM} {vs : List Nat} (hj : j ∈ vs) (h : PS X st (tAsg (tLc (tI G W mi) (gName j) (tT G WF mt) (tE G WF me) vs) (gName i))) : PS X st (tS G W (sAsg (mLc mi j mt me vs) (gNm i))) := h.imp fun E σ H ⟨μ, ds, h, w, rs, p⟩ =>
  snd_lc hj σ H _ ⟨μ, ds, h, w, rs, post_st p fun x h1 μ1 v H1 e1 w1 r1 p1 => p1 μ1 (σ.set i (some v)) H1 Ext.refl w1 ((rs.mono e1).set i r1)⟩
theorem tms_one {c : Expr} {t : TM} (h : PT X c (tT G W t)) : PTs X [c] (tT G W t) := pts_one h
theorem start_st {μ : List Addr} {H : Hp} {N : List Str} {xs : List D} {vs : List V} (r : RVs G μ H xs vs) : RSt G μ H (xs.map some ++ List.replicate (N.length - xs.length) none) (L2.start N vs) := by
  have hl := r.length
  refine ⟨by unfold L2.start; simp [hl], fun i d e => ?_⟩
  by_cases hi : i < xs.length
  · rw [List.getElem?_append_left (by simpa using hi)] at e
    rw [List.getElem?_map] at e
    cases q : xs[i]? with
    | none => rw [q] at e; cases e
    | some y =>
      rw [q] at e
      cases e
      obtain ⟨v, h1, h2⟩ := r.get q
      refine ⟨v, ?_, h2⟩
      unfold L2.start
      rw [List.getElem?_append_left (by simpa [← hl] using hi), List.getElem?_map, h1]
      rfl
  · rw [List.getElem?_append_right (by simpa using hi)] at e
    rw [List.getElem?_replicate] at e
    split at e <;> cases e
/-- THE RULE for a def -/
theorem fn_ok {P : Program} {w : World} {K : PySem.W.Frag} {mg : Str → Option Value} {base : Heap} {x qual : Str} {st : Stmt} {f : Addr} {fd : FuncData} {N ps : List Str} {k : Nat} {m : SM} (F : Fun K x qual st f fd) (S : FnScope N ps (defScope st))
    (hb : ∀ (cdv : Value) (A : Around) (outer : List Env) (s : Shared) (H : Hp) (E : XK), Room k (A.deeper (PyProof.Rows.envOfC qual (defScope st) s.heap.objs.size f cdv)) →
      PSs (cxOf (L2.CX P w) P w K mg base N qual (defScope st) f cdv A outer s H E) (defBody st) (tS G (fun c d _ H => E c d H) m)) :
    FnOk P w K mg base (L2.CX P w) (k + 1) f fd ps (spF G ps.length (runB N.length m)) := by
  obtain ⟨oc, od, kV, doc, pm, an, cdv, ct, osl, rfl, lk, hcd⟩ := F.ex
  refine fn_of lk hcd S (fun vs H Q E h => h.1) fun A outer s H vs Q E hr h => ⟨_, hb cdv A outer s H E hr, ?_⟩
  obtain ⟨hl, μ, xs, h, w, r, p⟩ := h
  refine ⟨μ, _, h, w, start_st r, ?_⟩
  unfold runB at p
  cases q : m (xs.map some ++ List.replicate (N.length - xs.length) none) h with
  | nx ds h' => rw [q] at p; exact fun μ' σ' H' e' w' r' => p μ' .non H' e' w' (by simp only [RV])
  | rt d h' => rw [q] at p; exact p
  | exc e ds h' => rw [q] at p; exact fun μ' σ' cls d H' e' w' r' rx => p μ' [] cls d H' e' w' ⟨rfl, fun i d z => by simp at z⟩ rx
  | bk ds h' => rw [q] at p; exact p.elim
  | ct ds h' => rw [q] at p; exact p.elim
  | no => rw [q] at p; exact p.elim
/-- below all calls -/
theorem fn_zero {P : Program} {w : World} {K : PySem.W.Frag} {mg : Str → Option Value} {base : Heap} {CXx : CXT} {f : Addr} {fd : FuncData} {ps : List Str} {n : Nat} {F : List D → DH → Res D} (hF : ∀ xs h, F xs h = .no) : FnOk P w K mg base CXx 0 f fd ps (spF G n F) := by
  have no : ∀ vs H Q E, ¬ spF G n F vs H Q E := fun vs H Q E ⟨_, μ, xs, h, _, _, p⟩ => by rw [hF] at p; exact p
  exact ⟨fun vs H Q E h => (no _ _ _ _ h).elim, fun A outer s H args us vs Q E _ _ _ _ h => (no _ _ _ _ h).elim⟩
theorem snd_call {F : List D → DH → Res D} {n : Nat} {m : AM} (hn : ∀ xs h, F xs h ≠ .no → xs.length = n) : ∀ σ H Q, tE G W (mCB F m) σ H Q → tCallS (spF G n F) (WE W) (tA G W m) σ H Q := fun σ H Q ⟨μ, ds, h, w, rs, p⟩ =>
  ⟨μ, ds, h, w, rs, post_bind p fun xs h1 μ1 vs H1 e1 w1 r1 p1 => by
    refine ⟨by rw [← r1.length]; exact hn xs h1 (fun e => by rw [e] at p1; exact p1), μ1, xs, h1, w1, r1, ?_⟩
    cases q : F xs h1 with
    | ok d h2 => rw [q] at p1; exact p1
    | exc x h2 => rw [q] at p1; exact fun μ' σ' cls d H' e' w' r' rx => p1 μ' σ cls d H' e' w' (rs.mono (e1.trans e')) rx
    | no => rw [q] at p1; exact p1⟩
theorem pm_call {e : Expr} {F : List D → DH → Res D} {n : Nat} {m : AM} (hn : ∀ xs h, F xs h ≠ .no → xs.length = n) (h : PE X e (tCallS (spF G n F) (WE W) (tA G W m))) : PE X e (tE G W (mCB F m)) := h.imp (snd_call hn)
end
end Mi
namespace L2
open PySem PySem.Spec PyProof.Rows
def strRep (z : Str) (n : Nat) : Str := ⟨((List.replicate n z.cps.toList).flatten).toArray⟩
theorem foldl_cat (x : Array Nat) : ∀ (n : Nat) (acc : Array Nat), (List.replicate n x).foldl (· ++ ·) acc = acc ++ ((List.replicate n x.toList).flatten).toArray
  | 0, acc => by simp
  | n + 1, acc => by
    rw [List.replicate_succ, List.foldl_cons, foldl_cat x n, List.replicate_succ, List.flatten_cons]
    apply Array.toList_inj.mp
    simp
theorem op_rep_str {X : Cx} : OpR X (binaryOp .Mult) (fun x y H Q => ∃ z k, x = .str z ∧ y = .int k ∧ 0 ≤ k ∧ k ≤ 1000 ∧ z.length ≤ 10000 ∧ Q (.str (strRep z k.toNat)) H) := by
  intro pins s σ H x y v u Q I rx ry h
  obtain ⟨z, k, rfl, rfl, h0, h1, h2, q⟩ := h
  obtain ⟨t, rfl⟩ := rx
  obtain ⟨t', rfl⟩ := ry
  have hz : z.length * k.toNat ≤ 10000 * 1000 := Nat.mul_le_mul h2 (by omega)
  refine PySem.P.mul_str ?_ (fun _ _ => ?_) (fun _ _ => ?_) ?_
  · rw [decide_eq_false (by omega), decide_eq_false (by omega)]; rfl
  · have e : (9223372036854775807 : Int) / 1000 ≤ (2 ^ 63 - 1) / k := by
      by_cases hk : k = 0
      · subst hk; omega
      · refine (Int.le_ediv_iff_mul_le (by omega)).mpr ?_
        have : (9223372036854775807 : Int) / 1000 * k ≤ (9223372036854775807 : Int) / 1000 * 1000 := Int.mul_le_mul_of_nonneg_left h1 (by decide)
        omega
    omega
  · unfold Builtin.Str.tooLong
    rw [sizeLine_eq]
    exact decide_eq_false (by omega)
  · have fin : ∀ (t : Tok) (tk : Nat), EP X pins σ Q (.str (strRep z k.toNat) t) { s with toks := tk } := fun t tk => ⟨.str _, H, I.tok tk, ⟨t, rfl⟩, q⟩
    by_cases hk : k < 1
    · rw [if_pos hk]
      have e : k.toNat = 0 := by omega
      have e2 : strRep z k.toNat = Str.empty := by rw [e]; rfl
      rw [e2] at fin
      exact ⟨by decide, fin _ _⟩
    · rw [if_neg hk]
      by_cases hc : (k == 1 || z.length == 0) = true
      · rw [if_pos hc]
        have e2 : strRep z k.toNat = z := by
          unfold strRep
          rcases (Bool.or_eq_true _ _).mp hc with e | e
          · have : k = 1 := beq_iff_eq.mp e
            subst this
            simp
          · have e' : z.cps.size = 0 := beq_iff_eq.mp e
            have e3 : z.cps = #[] := Array.eq_empty_of_size_eq_zero e'
            obtain ⟨c⟩ := z
            simp only at e3
            subst e3
            simp
        rw [e2] at fin
        exact fin _ _
      · rw [if_neg hc]
        have e2 : (⟨(List.replicate k.toNat z.cps).foldl (· ++ ·) #[]⟩ : Str) = strRep z k.toNat := by
          unfold strRep
          rw [foldl_cat]; simp
        rw [e2]
        refine ⟨?_, fin _ _⟩
        show (strRep z k.toNat).cps.size ≤ sizeLine
        rw [sizeLine_eq]
        have : (strRep z k.toNat).cps.size = z.length * k.toNat := by
          unfold strRep Str.length
          simp [List.length_flatten, List.sum_replicate_nat, Nat.mul_comm]
        rw [this]; omega
end L2
namespace Mi
open PySem L2
def addD (x y : D) (h : DH) : Res D :=
  match x, y with
  | .int i, .int j => .ok (.int (i + j)) h
  | .str a, .str b => if a.length + b.length ≤ 16777216 then .ok (.str (a ++ b)) h else .no
  | .ref m, .ref n => (match h[m]?, h[n]? with
    | some (.lst xs), some (.lst ys) => if xs.length + ys.length ≤ 16777216 then .ok (.ref h.length) (h ++ [.lst (xs ++ ys)]) else .no
    | _, _ => .no)
  | .tup xs, .tup ys => if xs.length + ys.length ≤ 16777216 then .ok (.tup (xs ++ ys)) h else .no
  | _, _ => .no
def subD (x y : D) (h : DH) : Res D := match x, y with | .int i, .int j => .ok (.int (i - j)) h | _, _ => .no
def mulC (i j : Int) : Prop := (-(2 ^ 64) < i ∧ i < 2 ^ 64) ∨ (-(2 ^ 64) < j ∧ j < 2 ^ 64)
instance (i j : Int) : Decidable (mulC i j) := by unfold mulC; infer_instance
def mulD (x y : D) (h : DH) : Res D :=
  match x, y with
  | .int i, .int j => if mulC i j then .ok (.int (i * j)) h else .no
  | .str a, .int k => if 0 ≤ k ∧ k ≤ 1000 ∧ a.length ≤ 10000 then .ok (.str (strRep a k.toNat)) h else .no
  | .ref m, .int k => (match h[m]? with
    | some (.lst xs) => if 0 ≤ k ∧ k ≤ 100000 ∧ xs.length * k.toNat ≤ 16777216 then .ok (.ref h.length) (h ++ [.lst (List.replicate k.toNat xs).flatten]) else .no
    | _ => .no)
  | _, _ => .no
def fdivD (x y : D) (h : DH) : Res D := match x, y with | .int i, .int j => if 0 < j ∧ j < 1073741824 then .ok (.int (i / j)) h else .no | _, _ => .no
def modD (x y : D) (h : DH) : Res D := match x, y with | .int i, .int j => if 0 < j then .ok (.int (i % j)) h else .no | _, _ => .no
def powD (x y : D) (h : DH) : Res D := match x, y with | .int i, .int j => if 0 ≤ j ∧ j ≤ 1000000 ∧ i.natAbs < 2 ^ 64 then .ok (.int (i ^ j.toNat)) h else .no | _, _ => .no
def negD (x : D) (h : DH) : Res D := match x with | .int i => .ok (.int (-i)) h | _ => .no
/-- == of plain values -/
def eqS (x y : D) : Option Bool :=
  match x, y with
  | .int i, .int j => some (decide (i = j))
  | .str a, .str b => some (decide (a = b))
  | .bl a, .bl b => some (decide (a = b))
  | .non, .non => some true
  | .non, .int _ => some false
  | .int _, .non => some false
  | .non, .str _ => some false
  | .str _, .non => some false
  | .non, .bl _ => some false
  | .bl _, .non => some false
  | .int _, .str _ => some false
  | .str _, .int _ => some false
  | .bl _, .str _ => some false
  | .str _, .bl _ => some false
  | _, _ => none
def eqD (x y : D) (h : DH) : Res D := match eqS x y with | some b => .ok (.bl b) h | none => .no
def ltD (x y : D) (h : DH) : Res D := match x, y with | .int i, .int j => .ok (.bl (decide (i < j))) h | _, _ => .no
def leD (x y : D) (h : DH) : Res D := match x, y with | .int i, .int j => .ok (.bl (decide (i ≤ j))) h | _, _ => .no
def gtD (x y : D) (h : DH) : Res D := match x, y with | .int i, .int j => .ok (.bl (decide (j < i))) h | _, _ => .no
def flatD : D → Bool
  | .non => true
  | .bl _ => true
  | .int _ => true
  | .str _ => true
  | _ => false
def eqF : D → D → Bool
  | .non, .non => true
  | .bl a, .bl b => a == b
  | .bl a, .int b => (if a then 1 else 0) == b
  | .int a, .bl b => a == (if b then 1 else 0)
  | .int a, .int b => a == b
  | .str a, .str b => a == b
  | _, _ => false
/-- the items of a list or a tuple -/
def itemsD (y : D) (h : DH) : Option (List D) :=
  match y with
  | .tup xs => some xs
  | .ref n => (match h[n]? with
    | some (.lst xs) => some xs
    | some (.fro xs) => some xs
    | _ => none)
  | _ => none
def ixD (x y : D) (h : DH) : Res D :=
  match y with
  | .int i => (match x with
    | .str z => if z.length ≤ 16777216 then (match atI z.cps.toList i with | some c => .ok (.str ⟨#[c]⟩) h | none => .no) else .no
    | _ => (match itemsD x h with
      | some xs => (match atI xs i with | some d => .ok d h | none => .no)
      | none => .no))
  | _ => .no
def cutD {α : Type} (xs : List α) (lo hi : Option Int) : List α := (xs.drop (HT.sIx xs.length 0 lo)).take (HT.sIx xs.length xs.length hi - HT.sIx xs.length 0 lo)
def slD (x : D) (lo hi : Option Int) (h : DH) : Res D :=
  match x with
  | .tup xs => if HT.sIx xs.length 0 lo = 0 ∧ HT.sIx xs.length xs.length hi = xs.length then .no else .ok (.tup (cutD xs lo hi)) h
  | .ref n => (match itemsD (.ref n) h with
    | some xs => .ok (.ref h.length) (h ++ [.lst (cutD xs lo hi)])
    | none => .no)
  | .str z => if z.length ≤ 16777216 then .ok (.str (cutS z lo hi)) h else .no
  | _ => .no
def setD (o i v : D) (h : DH) : Option DH :=
  match o, i with
  | .ref n, .int k => (match h[n]? with
    | some (.lst xs) => (match ixN xs.length k with | some j => some (h.set n (.lst (xs.set j v))) | none => none)
    | _ => none)
  | _, _ => none
def appD (x : D) (xs : List D) (h : DH) : Res D := match x, xs with
  | .ref n, [y] => (match h[n]? with
    | some (.lst zs) => if zs.length < 16777216 then .ok .non (h.set n (.lst (zs ++ [y]))) else .no
    | _ => .no)
  | _, _ => .no
def popD (x : D) (xs : List D) (h : DH) : Res D := match x, xs with
  | .ref n, [] => (match h[n]? with
    | some (.lst zs) => (match zs[zs.length - 1]? with | some y => .ok y (h.set n (.lst zs.dropLast)) | none => .no)
    | _ => .no)
  | _, _ => .no
def clrD (x : D) (xs : List D) (h : DH) : Res D := match x, xs with
  | .ref n, [] => (match h[n]? with
    | some (.lst _) => .ok .non (h.set n (.lst []))
    | _ => .no)
  | _, _ => .no
def revD (x : D) (xs : List D) (h : DH) : Res D := match x, xs with
  | .ref n, [] => (match h[n]? with
    | some (.lst zs) => .ok .non (h.set n (.lst zs.reverse))
    | _ => .no)
  | _, _ => .no
def lenD (xs : List D) (h : DH) : Res D := match xs with
  | [.str z] => if z.length ≤ 16777216 then .ok (.int z.length) h else .no
  | [x] => (match itemsD x h with | some ys => .ok (.int ys.length) h | none => .no)
  | _ => .no
def intD (xs : List D) (h : DH) : Res D := match xs with
  | [.int i] => .ok (.int i) h
  | [.bl k] => .ok (.int (if k then 1 else 0)) h
  | _ => .no
def absD (xs : List D) (h : DH) : Res D := match xs with
  | [.int i] => .ok (.int (if i < 0 then -i else i)) h
  | _ => .no
def max2D (xs : List D) (h : DH) : Res D := match xs with
  | [.int i, .int j] => .ok (.int (if j > i then j else i)) h
  | _ => .no
def min2D (xs : List D) (h : DH) : Res D := match xs with
  | [.int i, .int j] => .ok (.int (if j < i then j else i)) h
  | _ => .no
def lstD (xs : List D) (h : DH) : Res D := match xs with
  | [x] => (match itemsD x h with | some ys => .ok (.ref h.length) (h ++ [.lst ys]) | none => .no)
  | _ => .no
inductive Ty where | non | bool | int | str | list | tuple | dict
  deriving DecidableEq
def Ty.nm : Ty → String
  | .non => "NoneType" | .bool => "bool" | .int => "int" | .str => "str" | .list => "list" | .tuple => "tuple" | .dict => "dict"
def subTy (a b : Ty) : Bool := decide (a = b) || (decide (a = .bool) && decide (b = .int))
def tyD (x : D) (h : DH) : Option Ty :=
  match x with
  | .non => some .non
  | .bl _ => some .bool
  | .int _ => some .int
  | .str _ => some .str
  | .tup _ => some .tuple
  | .ref n => (match h[n]? with
    | some (.lst _) => some .list
    | some (.fro _) => some .list
    | some (.dK _) => some .dict
    | _ => none)
def mIsi (T : Ty) (a : EM) : EM := fun ds h => (a ds h).bind fun x h1 => match tyD x h1 with | some S => .ok (.bl (subTy S T)) h1 | none => .no
section
variable {G : Cw} {X : Cx} {W : WX} {pos : Pos} {μ : List Addr} {H : Hp} {h : DH} {ds : DSt}
theorem s_int2 {f : D → D → DH → Res D} {g : Int → Int → D} {gv : Int → Int → V} (hg : ∀ i j μ H, RV G μ H (g i j) (gv i j)) (hf : ∀ x y h, (∃ i j, x = .int i ∧ y = .int j ∧ f x y h = .ok (g i j) h) ∨ f x y h = .no) : OpS G (rI0 gv) f := fun W ds μ h H x y v u Q w rx ry p => by
  rcases hf x y h with ⟨i, j, rfl, rfl, e⟩ | e
  · simp only [RV] at rx ry
    rw [e] at p
    exact ⟨i, j, rx, ry, post_ok p w (hg i j μ H)⟩
  · rw [e] at p; exact p.elim
theorem s_sub : OpS G (rI0 fun i j => .int (i - j)) subD := s_int2 (g := fun i j => .int (i - j)) (fun _ _ _ _ => by simp only [RV]) fun x y h => by cases x <;> cases y <;> first | exact .inr rfl | exact .inl ⟨_, _, rfl, rfl, rfl⟩
theorem s_lt : OpS G (rI0 fun i j => .bl (decide (i < j))) ltD := s_int2 (g := fun i j => .bl (decide (i < j))) (fun _ _ _ _ => by simp only [RV]) fun x y h => by cases x <;> cases y <;> first | exact .inr rfl | exact .inl ⟨_, _, rfl, rfl, rfl⟩
theorem s_le : OpS G (rI0 fun i j => .bl (decide (i ≤ j))) leD := s_int2 (g := fun i j => .bl (decide (i ≤ j))) (fun _ _ _ _ => by simp only [RV]) fun x y h => by cases x <;> cases y <;> first | exact .inr rfl | exact .inl ⟨_, _, rfl, rfl, rfl⟩
theorem s_gt : OpS G (rI0 fun i j => .bl (decide (j < i))) gtD := s_int2 (g := fun i j => .bl (decide (j < i))) (fun _ _ _ _ => by simp only [RV]) fun x y h => by cases x <;> cases y <;> first | exact .inr rfl | exact .inl ⟨_, _, rfl, rfl, rfl⟩
theorem s_int2C {C : Int → Int → Prop} [∀ i j, Decidable (C i j)] {f : D → D → DH → Res D} {g : Int → Int → D} {gv : Int → Int → V} (hg : ∀ i j μ H, RV G μ H (g i j) (gv i j)) (hf : ∀ x y h, (∃ i j, x = .int i ∧ y = .int j ∧ f x y h = if C i j then .ok (g i j) h else .no) ∨ f x y h = .no) : OpS G (rI C gv) f := fun W ds μ h H x y v u Q w rx ry p => by
  rcases hf x y h with ⟨i, j, rfl, rfl, e⟩ | e
  · simp only [RV] at rx ry
    rw [e] at p
    by_cases hc : C i j
    · rw [if_pos hc] at p
      exact ⟨i, j, rx, ry, hc, post_ok p w (hg i j μ H)⟩
    · rw [if_neg hc] at p; exact p.elim
  · rw [e] at p; exact p.elim
instance (i j : Int) : Decidable (CDiv i j) := by unfold CDiv; infer_instance
instance (i j : Int) : Decidable (CPow i j) := by unfold CPow; infer_instance
theorem s_fdiv : OpS G (rI CDiv fun i j => .int (i / j)) fdivD := s_int2C (g := fun i j => .int (i / j)) (fun _ _ _ _ => by simp only [RV]) fun x y h => by cases x <;> cases y <;> first | exact .inr rfl | exact .inl ⟨_, _, rfl, rfl, rfl⟩
theorem s_mod : OpS G (rI (fun _ j => 0 < j) fun i j => .int (i % j)) modD := s_int2C (C := fun _ j => 0 < j) (g := fun i j => .int (i % j)) (fun _ _ _ _ => by simp only [RV]) fun x y h => by cases x <;> cases y <;> first | exact .inr rfl | exact .inl ⟨_, _, rfl, rfl, rfl⟩
theorem s_pow : OpS G (rI CPow fun i j => .int (i ^ j.toNat)) powD := s_int2C (g := fun i j => .int (i ^ j.toNat)) (fun _ _ _ _ => by simp only [RV]) fun x y h => by cases x <;> cases y <;> first | exact .inr rfl | exact .inl ⟨_, _, rfl, rfl, rfl⟩
theorem s_neg : UnS G (rU fun i => .int (-i)) negD := fun W ds μ h H x v Q w rx p => by
  cases x with
  | int i => simp only [RV] at rx; exact ⟨i, rx, post_ok p w (by simp only [RV])⟩
  | _ => exact p.elim
def rPlus (K : PySem.W.Frag) : R2 := fun x y H Q => rI0 (fun i j => .int (i + j)) x y H Q ∨ (∃ i j, x = .str i ∧ y = .str j ∧ i.length + j.length ≤ sizeLine ∧ Q (.str (i ++ j)) H) ∨ rCat x y H Q ∨ rCatA K x y H Q
theorem op_plus : OpR X (binaryOp .Add) (rPlus X.K) := op_add.or (op_add_str.or (op_cat.or op_catA))
theorem s_plus : OpS G (rPlus G.K) addD := fun W ds μ h H x y v u Q w rx ry p => by
  cases x with
  | int i =>
    cases y with
    | int j => simp only [RV] at rx ry; exact .inl ⟨i, j, rx, ry, post_ok p w (by simp only [RV])⟩
    | _ => exact p.elim
  | str a =>
    cases y with
    | str b =>
      simp only [RV] at rx ry
      simp only [addD] at p
      by_cases hz : a.length + b.length ≤ 16777216
      · rw [if_pos hz] at p
        exact .inr (.inl ⟨a, b, rx, ry, by rw [sizeLine_eq]; exact hz, post_ok p w (by simp only [RV])⟩)
      · rw [if_neg hz] at p; exact p.elim
    | _ => exact p.elim
  | ref m =>
    cases y with
    | ref n =>
      simp only [RV] at rx ry
      obtain ⟨a, rfl, ha⟩ := rx
      obtain ⟨b, rfl, hb⟩ := ry
      simp only [addD] at p
      cases q1 : h[m]? with
      | none => simp only [q1] at p; exact p.elim
      | some o1 =>
        cases o1 with
        | lst xs =>
          cases q2 : h[n]? with
          | none => simp only [q1, q2] at p; exact p.elim
          | some o2 =>
            cases o2 with
            | lst ys =>
              simp only [q1, q2] at p
              by_cases hz : xs.length + ys.length ≤ 16777216
              · rw [if_pos hz] at p
                obtain ⟨vs, h1, r1⟩ := w.ob _ _ _ ha q1
                obtain ⟨us, h2, r2⟩ := w.ob _ _ _ hb q2
                exact .inr (.inr (.inl ⟨a, b, vs, us, rfl, rfl, h1, h2, by rw [← r1.length, ← r2.length, sizeLine_eq]; exact hz, new_lst w (RVs.append r1 r2) p⟩))
              · rw [if_neg hz] at p; exact p.elim
            | _ => simp only [q1, q2] at p; exact p.elim
        | _ => simp only [q1] at p; exact p.elim
    | _ => exact p.elim
  | tup xs =>
    cases y with
    | tup ys =>
      simp only [RV] at rx ry
      obtain ⟨a, vs, rfl, ha, r1⟩ := rx
      obtain ⟨b, us, rfl, hb, r2⟩ := ry
      simp only [addD] at p
      by_cases hz : xs.length + ys.length ≤ 16777216
      · rw [if_pos hz] at p
        refine .inr (.inr (.inr ⟨a, b, vs, us, rfl, rfl, ha.1, hb.1, by rw [← r1.length, ← r2.length, sizeLine_eq]; exact hz, fun e => ?_, fun _ e => ?_, fun _ _ => new_tup w (RVs.append r1 r2) p⟩))
        · subst e
          have e2 : xs = [] := List.eq_nil_of_length_eq_zero r1.length
          subst e2
          rw [List.nil_append] at p
          exact post_ok p w (by simp only [RV]; exact ⟨b, us, rfl, hb, r2⟩)
        · subst e
          have e2 : ys = [] := List.eq_nil_of_length_eq_zero r2.length
          subst e2
          rw [List.append_nil] at p
          exact post_ok p w (by simp only [RV]; exact ⟨a, vs, rfl, ha, r1⟩)
      · rw [if_neg hz] at p; exact p.elim
    | _ => exact p.elim
  | _ => cases y <;> exact p.elim
def rTimes : R2 := fun x y H Q => rI CMul (fun i j => .int (i * j)) x y H Q ∨ (∃ z k, x = .str z ∧ y = .int k ∧ 0 ≤ k ∧ k ≤ 1000 ∧ z.length ≤ 10000 ∧ Q (.str (strRep z k.toNat)) H) ∨ rRep x y H Q
theorem op_times : OpR X (binaryOp .Mult) rTimes := op_mul.or (op_rep_str.or op_rep)
theorem s_times : OpS G rTimes mulD := fun W ds μ h H x y v u Q w rx ry p => by
  cases y with
  | int j =>
    simp only [RV] at ry
    cases x with
    | int i =>
      simp only [RV] at rx
      simp only [mulD] at p
      by_cases hz : mulC i j
      · rw [if_pos hz] at p; exact .inl ⟨i, j, rx, ry, hz, post_ok p w (by simp only [RV])⟩
      · rw [if_neg hz] at p; exact p.elim
    | str a =>
      simp only [RV] at rx
      simp only [mulD] at p
      by_cases hz : 0 ≤ j ∧ j ≤ 1000 ∧ a.length ≤ 10000
      · rw [if_pos hz] at p; exact .inr (.inl ⟨a, j, rx, ry, hz.1, hz.2.1, hz.2.2, post_ok p w (by simp only [RV])⟩)
      · rw [if_neg hz] at p; exact p.elim
    | ref m =>
      simp only [RV] at rx
      obtain ⟨a, rfl, ha⟩ := rx
      simp only [mulD] at p
      cases q1 : h[m]? with
      | none => simp only [q1] at p; exact p.elim
      | some o1 =>
        cases o1 with
        | lst xs =>
          simp only [q1] at p
          by_cases hz : 0 ≤ j ∧ j ≤ 100000 ∧ xs.length * j.toNat ≤ 16777216
          · rw [if_pos hz] at p
            obtain ⟨vs, h1, r1⟩ := w.ob _ _ _ ha q1
            refine .inr (.inr ⟨a, j, vs, rfl, ry, h1, by omega, by omega, by rw [← r1.length, sizeLine_eq]; exact hz.2.2, new_lst w ?_ p⟩)
            have rep : ∀ n : Nat, RVs G μ H (List.replicate n xs).flatten (List.replicate n vs).flatten := fun n => by
              induction n with
              | zero => exact RVs.nil
              | succ n ih => rw [List.replicate_succ, List.replicate_succ, List.flatten_cons, List.flatten_cons]; exact RVs.append r1 ih
            exact rep _
          · rw [if_neg hz] at p; exact p.elim
        | _ => simp only [q1] at p; exact p.elim
    | _ => exact p.elim
  | _ => cases x <;> exact p.elim
theorem eqS_ok {x y : D} {v u : V} {b : Bool} (rx : RV G μ H x v) (ry : RV G μ H y u) (e : eqS x y = some b) : scal v u = true ∧ decide (v = u) = b := by
  cases x <;> cases y <;> simp only [eqS, RV] at e rx ry <;> first | (cases e; done) | (subst rx; subst ry; cases e; exact ⟨rfl, by first | rfl | simp⟩)
theorem s_eq : OpS G rEq eqD := fun W ds μ h H x y v u Q w rx ry p => by
  unfold eqD at p
  cases e : eqS x y with
  | none => rw [e] at p; exact p.elim
  | some b =>
    rw [e] at p
    obtain ⟨h1, h2⟩ := eqS_ok rx ry e
    exact ⟨h1, post_ok p w (by simp only [RV]; rw [h2])⟩
theorem items_ok {y : D} {u : V} {xs : List D} (w : Wd G μ h H) (ry : RV G μ H y u) (e : itemsD y h = some xs) : ∃ a vs, u = .ref a ∧ RVs G μ H xs vs ∧ (((∃ n, y = .ref n) ∧ SqL G.K H a vs) ∨ (y = .tup xs ∧ SqT G.K H a vs)) := by
  cases y with
  | tup ys =>
    simp only [RV] at ry
    obtain ⟨a, vs, rfl, ha, r⟩ := ry
    cases e
    exact ⟨a, vs, rfl, r, .inr ⟨rfl, ha.1⟩⟩
  | ref n =>
    simp only [RV] at ry
    obtain ⟨a, rfl, ha⟩ := ry
    simp only [itemsD] at e
    cases q : h[n]? with
    | none => simp only [q] at e; cases e
    | some o =>
      simp only [q] at e
      cases o with
      | lst ys => cases e; obtain ⟨vs, s, r⟩ := w.seq ha (.inl q); exact ⟨a, vs, rfl, r, .inl ⟨⟨n, rfl⟩, s⟩⟩
      | fro ys => cases e; obtain ⟨vs, s, r⟩ := w.seq ha (.inr q); exact ⟨a, vs, rfl, r, .inl ⟨⟨n, rfl⟩, s⟩⟩
      | dK kvs => cases e
      | ins c fs => cases e
      | dT kvs => cases e
  | _ => cases e
theorem flat_ok {x : D} {v : V} (rx : RV G μ H x v) (f : flatD x = true) : flatV v = true := by
  cases x <;> simp only [RV] at rx <;> first | (cases f; done) | (subst rx; rfl)
theorem eqF_ok {x y : D} {v u : V} (rx : RV G μ H x v) (ry : RV G μ H y u) (f : flatD x = true) (g : flatD y = true) : eqV v u = eqF x y := by
  cases x <;> simp only [RV] at rx <;> first | (cases f; done) | (subst rx; cases y <;> simp only [RV] at ry <;> first | (cases g; done) | (subst ry; rfl))
theorem flats_ok : ∀ {xs : List D} {vs : List V}, RVs G μ H xs vs → xs.all flatD = true → vs.all flatV = true
  | [], vs, r, f => by simp only [RVs] at r; subst r; rfl
  | x :: xs, vs, r, f => by
    simp only [RVs] at r
    obtain ⟨v, ws, rfl, r1, r2⟩ := r
    rw [List.all_cons, Bool.and_eq_true] at f ⊢
    exact ⟨flat_ok r1 f.1, flats_ok r2 f.2⟩
theorem any_ok {x : D} {v : V} (rx : RV G μ H x v) (f : flatD x = true) : ∀ {xs : List D} {vs : List V}, RVs G μ H xs vs → xs.all flatD = true → inV v vs = xs.any fun z => eqF z x
  | [], vs, r, g => by simp only [RVs] at r; subst r; rfl
  | y :: xs, vs, r, g => by
    simp only [RVs] at r
    obtain ⟨u, ws, rfl, r1, r2⟩ := r
    rw [List.all_cons, Bool.and_eq_true] at g
    have ih := any_ok rx f r2 g.2
    unfold inV at ih ⊢
    rw [List.any_cons, List.any_cons, ih, eqF_ok r1 rx g.1 f]
theorem atI_ok {xs : List D} {vs : List V} {i : Int} {d : D} (r : RVs G μ H xs vs) (e : atI xs i = some d) : ∃ v, atI vs i = some v ∧ RV G μ H d v := by
  unfold atI at e ⊢
  rw [← r.length]
  cases q : ixN xs.length i with
  | none => rw [q] at e; cases e
  | some j =>
    rw [q] at e
    exact r.get e
theorem s_ix : OpS G (rIx G.K) ixD := fun W ds μ h H x y v u Q w rx ry p => by
  cases y with
  | int i =>
    simp only [RV] at ry
    have fin : ∀ xs, itemsD x h = some xs → post G W ds (RV G) μ H (match atI xs i with | some d => .ok d h | none => .no) Q → rIx G.K v u H Q := fun xs e p => by
      obtain ⟨a, vs, rfl, r, s⟩ := items_ok w rx e
      cases q : atI xs i with
      | none => rw [q] at p; exact p.elim
      | some d =>
        rw [q] at p
        obtain ⟨z, h1, h2⟩ := atI_ok r q
        rcases s with ⟨_, s⟩ | ⟨_, s⟩
        · exact .inl ⟨a, vs, i, z, rfl, ry, s, h1, post_ok p w h2⟩
        · exact .inr (.inl ⟨a, vs, i, z, rfl, ry, s, h1, post_ok p w h2⟩)
    cases x with
    | str z =>
      simp only [RV] at rx
      simp only [ixD] at p
      by_cases hz : z.length ≤ 16777216
      · rw [if_pos hz] at p
        cases q : atI z.cps.toList i with
        | none => rw [q] at p; exact p.elim
        | some c =>
          rw [q] at p
          exact .inr (.inr ⟨z, i, c, rx, ry, by rw [sizeLine_eq]; exact hz, q, post_ok p w (by simp only [RV])⟩)
      · rw [if_neg hz] at p; exact p.elim
    | tup xs => exact fin xs rfl p
    | ref n =>
      have p2 : post G W ds (RV G) μ H (match itemsD (.ref n) h with | some xs => (match atI xs i with | some d => .ok d h | none => .no) | none => .no) Q := p
      cases q : itemsD (.ref n) h with
      | none => rw [q] at p2; exact p2.elim
      | some xs => rw [q] at p2; exact fin xs q p2
    | _ => exact p.elim
  | _ => exact p.elim
theorem cut_ok {xs : List D} {vs : List V} (lo hi : Option Int) (r : RVs G μ H xs vs) : RVs G μ H (cutD xs lo hi) (cutV vs lo hi) := by
  unfold cutD cutV
  rw [← r.length]
  exact RVs.take _ (RVs.drop _ r)
def rSlA (K : PySem.W.Frag) : V → Option Int → Option Int → Hp → VK → Prop := fun x lo hi H Q => rSlL K x lo hi H Q ∨ rSlT K x lo hi H Q ∨ rSlS x lo hi H Q
theorem sl_any : SlR X (rSlA X.K) := sl_list.or (sl_tup.or sl_str)
theorem s_sl : SlS G (rSlA G.K) slD := fun W ds μ h H x v lo hi Q w rx p => by
  cases x with
  | str z =>
    simp only [RV] at rx
    simp only [slD] at p
    by_cases hz : z.length ≤ 16777216
    · rw [if_pos hz] at p
      exact .inr (.inr ⟨z, rx, by rw [sizeLine_eq]; exact hz, post_ok p w (by simp only [RV])⟩)
    · rw [if_neg hz] at p; exact p.elim
  | tup xs =>
    simp only [RV] at rx
    obtain ⟨a, vs, rfl, ha, r⟩ := rx
    simp only [slD] at p
    by_cases hz : HT.sIx xs.length 0 lo = 0 ∧ HT.sIx xs.length xs.length hi = xs.length
    · rw [if_pos hz] at p; exact p.elim
    · rw [if_neg hz] at p
      exact .inr (.inl ⟨a, vs, rfl, ha.1, by rw [← r.length]; exact hz, new_tup w (cut_ok lo hi r) p⟩)
  | ref n =>
    simp only [slD] at p
    cases q : itemsD (.ref n) h with
    | none => rw [q] at p; exact p.elim
    | some xs =>
      rw [q] at p
      obtain ⟨a, vs, rfl, r, s⟩ := items_ok w rx q
      rcases s with ⟨_, s⟩ | ⟨s, _⟩
      · exact .inl ⟨a, vs, rfl, s, new_lst w (cut_ok lo hi r) p⟩
      · cases s
  | _ => exact p.elim
theorem s_set : SetS G rSetL setD := fun μ h H x y z o i v h' Q w rx ry rz e k => by
  unfold setD at e
  cases x with
  | ref n =>
    cases y with
    | int j =>
      simp only [RV] at rx ry
      obtain ⟨a, rfl, ha⟩ := rx
      simp only at e
      cases q : h[n]? with
      | none => simp only [q] at e; cases e
      | some ob =>
        cases ob with
        | lst xs =>
          simp only [q] at e
          cases q2 : ixN xs.length j with
          | none => simp only [q2] at e; cases e
          | some m =>
            simp only [q2] at e
            cases e
            obtain ⟨vs, h1, r1⟩ := w.ob _ _ _ ha q
            obtain ⟨ex, w2⟩ := w.setL ha q (RVs.set rz m r1)
            exact ⟨a, vs, j, m, rfl, ry, h1, by rw [← r1.length]; exact q2, k _ ex w2⟩
        | _ => simp only [q] at e; cases e
    | _ => cases e
  | _ => cases e
theorem lst_of {x : D} {v : V} {n : Nat} {zs : List D} (w : Wd G μ h H) (rx : RV G μ H (.ref n) v) (q : h[n]? = some (.lst zs)) : ∃ a vs, v = .ref a ∧ μ[n]? = some a ∧ H a = some (.lst vs) ∧ RVs G μ H zs vs := by
  simp only [RV] at rx
  obtain ⟨a, rfl, ha⟩ := rx
  obtain ⟨vs, h1, r1⟩ := w.ob _ _ _ ha q
  exact ⟨a, vs, rfl, ha, h1, r1⟩
theorem s_app : MtSd G rAppend appD := fun W ds μ h H x v xs vs Q w rx rs p => by
  unfold appD at p
  split at p
  · rename_i n y
    cases q : h[n]? with
    | none => simp only [q] at p; exact p.elim
    | some ob =>
      cases ob with
      | lst zs =>
        simp only [q] at p
        by_cases hz : zs.length < 16777216
        · rw [if_pos hz] at p
          obtain ⟨a, us, rfl, ha, h1, r1⟩ := lst_of (x := .non) w rx q
          simp only [RVs] at rs
          obtain ⟨u, ws, rfl, r2, rfl⟩ := rs
          obtain ⟨ex, w2⟩ := w.setL ha q (RVs.append r1 (RVs.cons r2 RVs.nil))
          exact ⟨a, us, u, rfl, rfl, h1, by rw [← r1.length, sizeLine_eq]; exact hz, p _ _ _ ex w2 (by simp only [RV])⟩
        · rw [if_neg hz] at p; exact p.elim
      | _ => simp only [q] at p; exact p.elim
  · exact p.elim
theorem s_pop : MtSd G rPop popD := fun W ds μ h H x v xs vs Q w rx rs p => by
  unfold popD at p
  split at p
  · rename_i n
    cases q : h[n]? with
    | none => simp only [q] at p; exact p.elim
    | some ob =>
      cases ob with
      | lst zs =>
        simp only [q] at p
        cases q2 : zs[zs.length - 1]? with
        | none => simp only [q2] at p; exact p.elim
        | some y =>
          simp only [q2] at p
          obtain ⟨a, us, rfl, ha, h1, r1⟩ := lst_of (x := .non) w rx q
          simp only [RVs] at rs
          subst rs
          obtain ⟨u, g1, g2⟩ := r1.get q2
          have rd : RVs G μ H zs.dropLast us.dropLast := by
            rw [List.dropLast_eq_take, List.dropLast_eq_take, r1.length]
            exact RVs.take _ r1
          obtain ⟨ex, w2⟩ := w.setL ha q rd
          exact ⟨a, us, u, rfl, rfl, h1, by rw [← r1.length]; exact g1, p _ _ _ ex w2 (RV.mono ex _ _ g2)⟩
      | _ => simp only [q] at p; exact p.elim
  · exact p.elim
theorem s_clr : MtSd G rClear clrD := fun W ds μ h H x v xs vs Q w rx rs p => by
  unfold clrD at p
  split at p
  · rename_i n
    cases q : h[n]? with
    | none => simp only [q] at p; exact p.elim
    | some ob =>
      cases ob with
      | lst zs =>
        simp only [q] at p
        obtain ⟨a, us, rfl, ha, h1, r1⟩ := lst_of (x := .non) w rx q
        simp only [RVs] at rs
        subst rs
        obtain ⟨ex, w2⟩ := w.setL (ys := []) ha q RVs.nil
        exact ⟨a, us, rfl, rfl, h1, p _ _ _ ex w2 (by simp only [RV])⟩
      | _ => simp only [q] at p; exact p.elim
  · exact p.elim
theorem RVs.reverse : ∀ {xs : List D} {vs : List V}, RVs G μ H xs vs → RVs G μ H xs.reverse vs.reverse
  | [], vs, r => by simp only [RVs] at r; subst r; exact RVs.nil
  | x :: xs, vs, r => by
    simp only [RVs] at r
    obtain ⟨v, ws, rfl, r1, r2⟩ := r
    rw [List.reverse_cons, List.reverse_cons]
    exact RVs.append (RVs.reverse r2) (RVs.cons r1 RVs.nil)
theorem s_rev : MtSd G rReverse revD := fun W ds μ h H x v xs vs Q w rx rs p => by
  unfold revD at p
  split at p
  · rename_i n
    cases q : h[n]? with
    | none => simp only [q] at p; exact p.elim
    | some ob =>
      cases ob with
      | lst zs =>
        simp only [q] at p
        obtain ⟨a, us, rfl, ha, h1, r1⟩ := lst_of (x := .non) w rx q
        simp only [RVs] at rs
        subst rs
        obtain ⟨ex, w2⟩ := w.setL ha q (RVs.reverse r1)
        exact ⟨a, us, rfl, rfl, h1, p _ _ _ ex w2 (by simp only [RV])⟩
      | _ => simp only [q] at p; exact p.elim
  · exact p.elim
theorem vs1 {x : D} {vs : List V} (r : RVs G μ H [x] vs) : ∃ v, vs = [v] ∧ RV G μ H x v := by
  simp only [RVs] at r
  obtain ⟨v, ws, rfl, r1, rfl⟩ := r
  exact ⟨v, rfl, r1⟩
theorem vs2 {x y : D} {vs : List V} (r : RVs G μ H [x, y] vs) : ∃ v u, vs = [v, u] ∧ RV G μ H x v ∧ RV G μ H y u := by
  simp only [RVs] at r
  obtain ⟨v, ws, rfl, r1, u, ws2, rfl, r2, rfl⟩ := r
  exact ⟨v, u, rfl, r1, r2⟩
def rLen (K : PySem.W.Frag) : List V → Hp → VK → Prop := fun xs H Q => (∃ p ys, xs = [.ref p] ∧ (SqL K H p ys ∨ SqT K H p ys) ∧ Q (.int ys.length) H) ∨ (∃ z, xs = [.str z] ∧ z.length ≤ sizeLine ∧ Q (.int z.length) H)
theorem call_lenA : CallR X (.builtin "len") (rLen X.K) := call_len_seq.or call_len_str
theorem s_len : CallS G (rLen G.K) lenD := fun W ds μ h H xs vs Q w rs p => by
  unfold lenD at p
  split at p
  · rename_i z
    obtain ⟨v, rfl, r⟩ := vs1 rs
    simp only [RV] at r
    by_cases hz : z.length ≤ 16777216
    · rw [if_pos hz] at p
      exact .inr ⟨z, by rw [r], by rw [sizeLine_eq]; exact hz, post_ok p w (by simp only [RV])⟩
    · rw [if_neg hz] at p; exact p.elim
  · rename_i x _
    obtain ⟨v, rfl, r⟩ := vs1 rs
    cases q : itemsD x h with
    | none => simp only [q] at p; exact p.elim
    | some ys =>
      simp only [q] at p
      obtain ⟨a, us, rfl, r1, s⟩ := items_ok w r q
      refine .inl ⟨a, us, rfl, ?_, by rw [← r1.length]; exact post_ok p w (by simp only [RV])⟩
      rcases s with ⟨_, s⟩ | ⟨_, s⟩
      · exact .inl s
      · exact .inr s
  · exact p.elim
theorem s_int1 : CallS G (fun xs H Q => (∃ i, xs = [.int i] ∧ Q (.int i) H) ∨ ∃ k, xs = [.bl k] ∧ Q (.int (if k then 1 else 0)) H) intD := fun W ds μ h H xs vs Q w rs p => by
  unfold intD at p
  split at p
  · obtain ⟨v, rfl, r⟩ := vs1 rs
    simp only [RV] at r
    exact .inl ⟨_, by rw [r], post_ok p w (by simp only [RV])⟩
  · obtain ⟨v, rfl, r⟩ := vs1 rs
    simp only [RV] at r
    exact .inr ⟨_, by rw [r], post_ok p w (by simp only [RV])⟩
  · exact p.elim
theorem s_abs : CallS G (fun xs H Q => ∃ i, xs = [.int i] ∧ Q (.int (if i < 0 then -i else i)) H) absD := fun W ds μ h H xs vs Q w rs p => by
  unfold absD at p
  split at p
  · obtain ⟨v, rfl, r⟩ := vs1 rs
    simp only [RV] at r
    exact ⟨_, by rw [r], post_ok p w (by simp only [RV])⟩
  · exact p.elim
theorem s_max2 : CallS G (fun xs H Q => ∃ i j, xs = [.int i, .int j] ∧ Q (.int (if j > i then j else i)) H) max2D := fun W ds μ h H xs vs Q w rs p => by
  unfold max2D at p
  split at p
  · obtain ⟨v, u, rfl, r, r2⟩ := vs2 rs
    simp only [RV] at r r2
    exact ⟨_, _, by rw [r, r2], post_ok p w (by simp only [RV])⟩
  · exact p.elim
theorem s_min2 : CallS G (fun xs H Q => ∃ i j, xs = [.int i, .int j] ∧ Q (.int (if j < i then j else i)) H) min2D := fun W ds μ h H xs vs Q w rs p => by
  unfold min2D at p
  split at p
  · obtain ⟨v, u, rfl, r, r2⟩ := vs2 rs
    simp only [RV] at r r2
    exact ⟨_, _, by rw [r, r2], post_ok p w (by simp only [RV])⟩
  · exact p.elim
theorem s_lst : CallS G (fun xs H Q => ∃ p ys, xs = [.ref p] ∧ (SqL G.K H p ys ∨ SqT G.K H p ys) ∧ ∀ l, H l = none → Q (.ref l) (upd H l (.lst ys))) lstD := fun W ds μ h H xs vs Q w rs p => by
  unfold lstD at p
  split at p
  · rename_i x
    obtain ⟨v, rfl, r⟩ := vs1 rs
    cases q : itemsD x h with
    | none => simp only [q] at p; exact p.elim
    | some ys =>
      simp only [q] at p
      obtain ⟨a, us, rfl, r1, s⟩ := items_ok w r q
      refine ⟨a, us, rfl, ?_, new_lst w r1 p⟩
      rcases s with ⟨_, s⟩ | ⟨_, s⟩
      · exact .inl s
      · exact .inr s
  · exact p.elim
theorem kit_sub : ∀ a b : Ty, kitB a.nm b.nm = some (subTy a b) := by intro a b; cases a <;> cases b <;> decide +kernel
theorem tyD_ok {x : D} {v : V} {T : Ty} (w : Wd G μ h H) (r : RV G μ H x v) (e : tyD x h = some T) : TyX G.K H v (.type T.nm) := by
  cases x with
  | non => cases e; simp only [RV] at r; subst r; exact .base .non
  | bl b => cases e; simp only [RV] at r; subst r; exact .base (.bl b)
  | int i => cases e; simp only [RV] at r; subst r; exact .base (.int i)
  | str s => cases e; simp only [RV] at r; subst r; exact .base (.str s)
  | tup xs =>
    cases e
    simp only [RV] at r
    obtain ⟨a, vs, rfl, ⟨s, _⟩, _⟩ := r
    rcases s with (s | ⟨o, s⟩) | ⟨o, its, n, s1, s2, _⟩
    · exact .base (.tup s)
    · exact .fTuple s
    · exact .kTuple s1 s2
  | ref n =>
    simp only [RV] at r
    obtain ⟨a, rfl, ha⟩ := r
    simp only [tyD] at e
    cases q : h[n]? with
    | none => simp only [q] at e; cases e
    | some o =>
      simp only [q] at e
      cases o with
      | lst ys => cases e; obtain ⟨vs, s, _⟩ := w.ob _ _ _ ha q; exact .base (.lst s)
      | fro ys =>
        cases e
        obtain ⟨vs, s, _⟩ := w.ob _ _ _ ha q
        rcases s with ⟨o, s⟩ | s
        · exact .base (.frz s)
        · rcases s (fun _ => none) with (z | ⟨o, z⟩) | ⟨o, its, n, s1, s2, _⟩
          · cases z
          · cases z
          · exact .kList s1 s2
      | dK kvs => cases e; obtain ⟨vs, s, _⟩ := w.ob _ _ _ ha q; exact .base (.dK s)
      | ins c fs => cases e
      | dT kvs => cases e
theorem pm_isi {e : Expr} {T : Ty} {m : EM} (hK : X.K = G.K) (h : PE X e (tCB (rIsi X.K) (L2.tCons (tE G W m) (L2.tCons (L2.tC (.ty T.nm)) L2.tNil)))) : PE X e (tE G W (mIsi T m)) := h.imp fun σ H Q ⟨μ, ds, h, w, rs, p⟩ =>
  ⟨μ, ds, h, w, rs, post_bind p fun x h1 μ1 v H1 e1 w1 r1 p1 => by
    cases q : tyD x h1 with
    | none => simp only [q] at p1; exact p1.elim
    | some S =>
      simp only [q] at p1
      rw [hK]
      exact ⟨v, .ty T.nm, .type S.nm, .type T.nm, subTy S T, rfl, .ty _, tyD_ok w1 r1 q, kit_ty (kit_sub S T), post_ok p1 w1 (by simp only [RV])⟩⟩
end
end Mi
namespace Mi
open PySem L2
@[irreducible] def runF (ar n : Nat) (b : SM) (xs : List D) (h : DH) : Res D := if xs.length = ar then runB n b xs h else .no
theorem runF_len {ar n : Nat} {b : SM} {xs : List D} {h : DH} (e : runF ar n b xs h ≠ .no) : xs.length = ar := by
  unfold runF at e
  by_cases q : xs.length = ar
  · exact q
  · rw [if_neg q] at e; exact absurd rfl e
section
variable {G : Cw} {X : Cx} {W : WX} {pos : Pos} {μ : List Addr} {H : Hp} {h : DH}
theorem fn_okF {P : Program} {w : World} {K : PySem.W.Frag} {mg : Str → Option Value} {base : Heap} {x qual : Str} {st : Stmt} {f : Addr} {fd : FuncData} {N ps : List Str} {k : Nat} {m : SM} (F : Fun K x qual st f fd) (S : FnScope N ps (defScope st))
    (hb : ∀ (cdv : Value) (A : Around) (outer : List Env) (s : Shared) (H : Hp) (E : XK), Room k (A.deeper (PyProof.Rows.envOfC qual (defScope st) s.heap.objs.size f cdv)) →
      PSs (cxOf (L2.CX P w) P w K mg base N qual (defScope st) f cdv A outer s H E) (defBody st) (tS G (fun c d _ H => E c d H) m)) :
    FnOk P w K mg base (L2.CX P w) (k + 1) f fd ps (spF G ps.length (runF ps.length N.length m)) := (fn_ok (G := G) F S hb).imp fun vs H Q E ⟨hl, μ, xs, h, w, r, p⟩ => ⟨hl, μ, xs, h, w, r, by
  unfold runF at p
  rw [if_pos (by rw [r.length]; exact hl)] at p
  exact p⟩
/-- the law's promise over its script -/
theorem spF_script {G : Cw} {F : List D → DH → Res D} (main : ∀ ns : List Int, ns.length ≤ 63 → ∃ h', F [.ref 0] [.fro (ns.map D.int)] = .ok (.bl true) h') (H : Hp) (a : Addr) (ns : List Int) (hl : ns.length ≤ 63) (hT : ∀ P ∈ G.tabs, H P = some (.tbl #[]))
    (hS : (∃ o, H a = some (.frz o (.lst (ns.map V.int)))) ∨ SqL G.K (fun _ => none) a (ns.map V.int)) : spF G 1 F [.ref a] H (fun v _ => v = .bl true) fun _ _ _ => False := by
  obtain ⟨h', e⟩ := main ns hl
  refine ⟨rfl, [a], [.ref 0], [.fro (ns.map D.int)], ⟨rfl, fun n b o e1 e2 => ?_, fun n m b o o' e1 e2 e3 e4 m1 m2 => ?_, fun P hP => ⟨#[], hT P hP, trivial⟩⟩, ?_, ?_⟩
  · match n, e1, e2 with
    | 0, e1, e2 =>
      cases e1
      cases e2
      refine ⟨ns.map V.int, ?_, RVs.ints⟩
      rcases hS with ⟨o, hS⟩ | hS
      · exact .inl ⟨o, hS⟩
      · rcases hS with (hS | ⟨o, hS⟩) | hS
        · cases hS
        · cases hS
        · exact .inr fun H' => .inr hS
    | n + 1, e1, e2 => cases e1
  · match n, e3 with
    | 0, e3 => cases e3; cases m1
    | n + 1, e3 => cases e3
  · exact RVs.cons (by simp only [RV]; exact ⟨a, rfl, rfl⟩) RVs.nil
  · rw [e]
    intro μ' v H' _ _ r
    simpa only [RV] using r
theorem walk_law {l : PySem.W.OpenLaw} {k : Nat} {q : Program} {loose : List Str} {XP : (Str → Option Value) → Heap → Prop} {YP : World → Heap → Prop} {d : DefRec} {K : Params → PySem.W.Frag} {cad : PySem.W.Frag → Nat → Addr} {F : List D → DH → Res D}
    (hn : l.most = some 63) (hdf : d.params.defaults = []) (hr : Room k callerA)
    (hY : ∀ (w : World) (h : Heap), YP w h → (K w.params).In h)
    (hF : ∀ (w : World) (mg : Str → Option Value) (fa : Addr) (h : Heap), (K w.params).In h → h.Ns mainGlobals mg → mg d.name = some (.ref fa) →
      ∃ fd : FuncData, (∀ (s : Shared) (u : Value), BindsTo s fd ⟨[u], []⟩ [("script", u)]) ∧
        ∀ base : Heap, (K w.params).In base → base.Ns mainGlobals mg → FnOk l.prog w (K w.params) mg base (L2.CX l.prog w) k fa fd ["script"] (spF ⟨K w.params, cad (K w.params), []⟩ 1 F))
    (main : ∀ ns : List Int, ns.length ≤ 63 → ∃ h', F [.ref 0] [.fro (ns.map D.int)] = .ok (.bl true) h') :
    PySem.W.WalkO q loose XP YP l.row.toRowW d [] (fun f vs => PySem.call f vs) := by
  refine Att.attach_callB hn hdf fun w s₀ s₁ mg mb fa o pm cd doc a vs ns G Y ho hd hcd hmg hobj hints hlen hbits hg => ?_
  have KX := hY w _ Y
  obtain ⟨fd, hb, hF⟩ := hF w mg fa _ KX G.T.g hmg
  refine law_go (cx := L2.CX l.prog w) (T := []) KX G.T.g G.T.b G.T.builtins G.T.nolimit hg (fun p hp => nomatch hp) (fun p hp => nomatch hp) (fun p hp => nomatch hp) G.T.bmain hobj hints (Nat.le_trans hlen (by decide)) hr (fun base k1 k2 _ => hF base k1 k2) hb (fun H _ hS => spF_script main H a ns hlen (fun P hP => nomatch hP) hS) fun H e s' h => ?_
  obtain ⟨_, _, _, _, _, _, _, _, _, _, _, _, z⟩ := h
  exact z.elim
end
end Mi
namespace Mi
open PySem L2
end Mi
namespace Mi
open PySem L2 PyProof.Rows
def pyAll (f : D → Option PyData) : List D → Option (List PyData)
  | [] => some []
  | x :: r => (f x).bind fun d => (pyAll f r).map (d :: ·)
def pyD (h : DH) : Nat → D → Option PyData
  | 0, _ => none
  | _ + 1, .non => some .none
  | _ + 1, .bl b => some (.bool b)
  | _ + 1, .int i => some (.int i)
  | _ + 1, .str z => some (.str z)
  | k + 1, .tup xs => (pyAll (pyD h k) xs).map .tuple
  | k + 1, .ref n => (itemsD (.ref n) h).bind fun xs => (pyAll (pyD h k) xs).map .list
/-- plain data not too deep -/
def shp (d : PyData) : Bool := d.canLay0 && decide (d.depth ≤ 150)
def deepE (x y : D) (h : DH) : Option Bool := match pyD h 160 x, pyD h 160 y with
  | some d, some e => if shp d && shp e then some (PyData.eqv d e) else none
  | _, _ => none
def eqA (x y : D) : DH → Option Bool := fun h => match eqS x y with | some b => some b | none => deepE x y h
def eqDD (x y : D) (h : DH) : Res D := match eqA x y h with | some b => .ok (.bl b) h | none => .no
def neDD (x y : D) (h : DH) : Res D := match eqA x y h with | some b => .ok (.bl (!b)) h | none => .no
def deepIn (x y : D) (h : DH) : Option Bool := match pyD h 70 x, pyD h 70 y with
  | some d, some (.list ds) => if SeqAt.shaped d && SeqAt.shaped (.list ds) then some (ds.any fun z => PyData.eqv z d) else none
  | _, _ => none
def flatIn (x : D) (y : D) (h : DH) : Option Bool := match y with
  | .str _ => none
  | _ => (match itemsD y h with
    | some xs => if flatD x && xs.all flatD then some (xs.any fun z => eqF z x) else none
    | none => none)
def inA (x y : D) (h : DH) : Option Bool := match flatIn x y h with | some b => some b | none => deepIn x y h
def inDD (neg : Bool) (x y : D) (h : DH) : Res D := match inA x y h with | some b => .ok (.bl (if neg then !b else b)) h | none => .no
section
variable {G : Cw} {X : Cx} {W : WX} {pos : Pos} {μ : List Addr} {H : Hp} {h : DH} {ds : DSt}
theorem pyAll_ok {f : D → Option PyData} (hf : ∀ x v d, RV G μ H x v → f x = some d → Dp G.K H v d) : ∀ {xs : List D} {vs : List V} {dd : List PyData}, RVs G μ H xs vs → pyAll f xs = some dd → DpAll G.K H vs dd
  | [], vs, dd, r, e => by
    simp only [RVs] at r
    subst r
    cases e
    exact .nil
  | x :: xs, vs, dd, r, e => by
    simp only [RVs] at r
    obtain ⟨v, ws, rfl, r1, r2⟩ := r
    simp only [pyAll] at e
    cases q : f x with
    | none => rw [q] at e; cases e
    | some d =>
      rw [q] at e
      simp only [Option.bind] at e
      cases q2 : pyAll f xs with
      | none => rw [q2] at e; cases e
      | some d2 => rw [q2] at e; cases e; exact .cons (hf _ _ _ r1 q) (pyAll_ok hf r2 q2)
theorem py_ok (w : Wd G μ h H) : ∀ (k : Nat) (x : D) (v : V) (d : PyData), RV G μ H x v → pyD h k x = some d → Dp G.K H v d
  | 0, x, v, d, r, e => by cases e
  | k + 1, .non, v, d, r, e => by cases e; simp only [RV] at r; subst r; exact .non
  | k + 1, .bl b, v, d, r, e => by cases e; simp only [RV] at r; subst r; exact .bl b
  | k + 1, .int b, v, d, r, e => by cases e; simp only [RV] at r; subst r; exact .int b
  | k + 1, .str b, v, d, r, e => by cases e; simp only [RV] at r; subst r; exact .str b
  | k + 1, .tup xs, v, d, r, e => by
    simp only [RV] at r
    obtain ⟨a, vs, rfl, ⟨s, _⟩, r2⟩ := r
    simp only [pyD] at e
    cases q : pyAll (pyD h k) xs with
    | none => rw [q] at e; cases e
    | some dd => rw [q] at e; cases e; exact .tup s (pyAll_ok (fun x v d => py_ok w k x v d) r2 q)
  | k + 1, .ref n, v, d, r, e => by
    simp only [pyD] at e
    cases q0 : itemsD (.ref n) h with
    | none => rw [q0] at e; cases e
    | some xs =>
      rw [q0] at e
      simp only [Option.bind] at e
      obtain ⟨a, vs, rfl, r2, s⟩ := items_ok w r q0
      cases q : pyAll (pyD h k) xs with
      | none => rw [q] at e; cases e
      | some dd =>
        rw [q] at e; cases e
        rcases s with ⟨_, s⟩ | ⟨s, _⟩
        · exact .lst s (pyAll_ok (fun x v d => py_ok w k x v d) r2 q)
        · cases s
theorem deepE_ok {x y : D} {v u : V} {b : Bool} (w : Wd G μ h H) (rx : RV G μ H x v) (ry : RV G μ H y u) (e : deepE x y h = some b) : ∃ d d', Dp G.K H v d ∧ Dp G.K H u d' ∧ shp d = true ∧ shp d' = true ∧ PyData.eqv d d' = b := by
  unfold deepE at e
  cases q1 : pyD h 160 x with
  | none => simp only [q1] at e; cases e
  | some d =>
    cases q2 : pyD h 160 y with
    | none => simp only [q1, q2] at e; cases e
    | some d' =>
      simp only [q1, q2] at e
      by_cases c : (shp d && shp d') = true
      · rw [if_pos c] at e
        rw [Bool.and_eq_true] at c
        exact ⟨d, d', py_ok w _ _ _ _ rx q1, py_ok w _ _ _ _ ry q2, c.1, c.2, Option.some.inj e⟩
      · rw [if_neg c] at e; cases e
theorem units65 {k : Nat} {A : Around} (r : Room k A) : A.units + 65 < cLine := by have := r.un; omega
theorem units150 {k : Nat} {A : Around} (r : Room k A) : A.units + 150 < cLine := by have := r.un; omega
def rEqX (K : PySem.W.Frag) : R2 := fun x y H Q => ∃ d e, Dp K H x d ∧ Dp K H y e ∧ shp d = true ∧ shp e = true ∧ Q (V.bl (PyData.eqv d e)) H
def rNeX (K : PySem.W.Frag) : R2 := fun x y H Q => ∃ d e, Dp K H x d ∧ Dp K H y e ∧ shp d = true ∧ shp e = true ∧ Q (V.bl (!(PyData.eqv d e))) H
theorem shp_room {A : Around} {d e : PyData} (h : shp d = true) (hu : A.units + 150 < cLine) : A.units + min d.depth e.depth < cLine := by
  unfold shp at h
  rw [Bool.and_eq_true, decide_eq_true_eq] at h
  have := h.2
  omega
theorem shp_lay {d : PyData} (h : shp d = true) : d.canLay0 = true := by
  unfold shp at h
  rw [Bool.and_eq_true] at h
  exact h.1
theorem op_eqX (hu : X.A.units + 150 < cLine) : OpR X (compareOp .Eq) (rEqX X.K) := fun pins s σ H x y v u Q I rx ry ⟨d, e, hd, he, sd, se, q⟩ => by
  obtain ⟨as, r1⟩ := Dp.reads I d x v hd rx
  obtain ⟨bs, r2⟩ := Dp.reads I e y u he ry
  exact SeqAt.compareEq_reads r1 r2 (shp_lay sd) (shp_lay se) (shp_room sd hu) ⟨V.bl (PyData.eqv d e), H, I, rfl, q⟩
theorem op_neX (hu : X.A.units + 150 < cLine) : OpR X (compareOp .NotEq) (rNeX X.K) := fun pins s σ H x y v u Q I rx ry ⟨d, e, hd, he, sd, se, q⟩ => by
  obtain ⟨as, r1⟩ := Dp.reads I d x v hd rx
  obtain ⟨bs, r2⟩ := Dp.reads I e y u he ry
  exact SeqAt.compareNe_reads r1 r2 (shp_lay sd) (shp_lay se) (shp_room sd hu) ⟨V.bl (!(PyData.eqv d e)), H, I, rfl, q⟩
theorem op_eqA (hu : X.A.units + 150 < cLine) : OpR X (compareOp .Eq) (fun x y H Q => rEq x y H Q ∨ rEqX X.K x y H Q) := op_eq.or (op_eqX hu)
theorem op_neA (hu : X.A.units + 150 < cLine) : OpR X (compareOp .NotEq) (fun x y H Q => rNe x y H Q ∨ rNeX X.K x y H Q) := op_ne.or (op_neX hu)
theorem s_eqA : OpS G (fun x y H Q => rEq x y H Q ∨ rEqX G.K x y H Q) eqDD := fun W ds μ h H x y v u Q w rx ry p => by
  unfold eqDD eqA at p
  cases e : eqS x y with
  | some b =>
    simp only [e] at p
    obtain ⟨h1, h2⟩ := eqS_ok rx ry e
    exact .inl ⟨h1, post_ok p w (by simp only [RV]; rw [h2])⟩
  | none =>
    simp only [e] at p
    cases e2 : deepE x y h with
    | none => simp only [e2] at p; exact p.elim
    | some b =>
      simp only [e2] at p
      obtain ⟨d, d', h1, h2, h3, h4, h5⟩ := deepE_ok w rx ry e2
      exact .inr ⟨d, d', h1, h2, h3, h4, post_ok p w (by simp only [RV]; rw [h5])⟩
theorem s_neA : OpS G (fun x y H Q => rNe x y H Q ∨ rNeX G.K x y H Q) neDD := fun W ds μ h H x y v u Q w rx ry p => by
  unfold neDD eqA at p
  cases e : eqS x y with
  | some b =>
    simp only [e] at p
    obtain ⟨h1, h2⟩ := eqS_ok rx ry e
    exact .inl ⟨h1, post_ok p w (by simp only [RV]; rw [h2])⟩
  | none =>
    simp only [e] at p
    cases e2 : deepE x y h with
    | none => simp only [e2] at p; exact p.elim
    | some b =>
      simp only [e2] at p
      obtain ⟨d, d', h1, h2, h3, h4, h5⟩ := deepE_ok w rx ry e2
      exact .inr ⟨d, d', h1, h2, h3, h4, post_ok p w (by simp only [RV]; rw [h5])⟩
def rInDD (K : PySem.W.Frag) (neg : Bool) : R2 := fun x y H Q => rIn K neg x y H Q ∨ (if neg then rNotInD K else rInD K) x y H Q
theorem op_inDD (hu : X.A.units + 65 < cLine) : OpR X (compareOp .In) (rInDD X.K false) := op_in_seq.or (op_inD hu)
theorem op_ninDD (hu : X.A.units + 65 < cLine) : OpR X (compareOp .NotIn) (rInDD X.K true) := op_notIn_seq.or (op_notInD hu)
theorem deepIn_ok {x y : D} {v u : V} {b : Bool} (w : Wd G μ h H) (rx : RV G μ H x v) (ry : RV G μ H y u) (e : deepIn x y h = some b) : ∃ d dd, Dp G.K H v d ∧ Dp G.K H u (.list dd) ∧ SeqAt.shaped d = true ∧ SeqAt.shaped (.list dd) = true ∧ (dd.any fun z => PyData.eqv z d) = b := by
  unfold deepIn at e
  cases q1 : pyD h 70 x with
  | none => simp only [q1] at e; cases e
  | some d =>
    cases q2 : pyD h 70 y with
    | none => simp only [q1, q2] at e; cases e
    | some d' =>
      cases d' with
      | list dd =>
        simp only [q1, q2] at e
        by_cases c : (SeqAt.shaped d && SeqAt.shaped (.list dd)) = true
        · rw [if_pos c] at e
          rw [Bool.and_eq_true] at c
          exact ⟨d, dd, py_ok w _ _ _ _ rx q1, py_ok w _ _ _ _ ry q2, c.1, c.2, Option.some.inj e⟩
        · rw [if_neg c] at e; cases e
      | _ => simp only [q1, q2] at e; cases e
theorem s_inDD {neg : Bool} : OpS G (rInDD G.K neg) (inDD neg) := fun W ds μ h H x y v u Q w rx ry p => by
  unfold inDD inA at p
  cases e : flatIn x y h with
  | some b =>
    simp only [e] at p
    refine .inl ?_
    have key : ∀ xs, itemsD y h = some xs → (if flatD x && xs.all flatD then some (xs.any fun z => eqF z x) else none) = some b → rIn G.K neg v u H Q := fun xs q e2 => by
      by_cases hf : (flatD x && xs.all flatD) = true
      · rw [if_pos hf] at e2
        rw [Bool.and_eq_true] at hf
        obtain ⟨a, vs, rfl, r2, s⟩ := items_ok w ry q
        refine ⟨a, vs, rfl, ?_, flat_ok rx hf.1, flats_ok r2 hf.2, ?_⟩
        · rcases s with ⟨_, s⟩ | ⟨_, s⟩
          · exact .inl s
          · exact .inr s
        · rw [any_ok rx hf.1 r2 hf.2]
          have e3 := Option.some.inj e2
          rw [e3]
          exact post_ok p w (by simp only [RV])
      · rw [if_neg hf] at e2; cases e2
    unfold flatIn at e
    cases y with
    | str z => cases e
    | tup xs => exact key xs rfl e
    | ref n =>
      cases q : itemsD (.ref n) h with
      | none => simp only [q] at e; cases e
      | some xs => simp only [q] at e; exact key xs q e
    | _ => cases e
  | none =>
    simp only [e] at p
    cases e2 : deepIn x y h with
    | none => simp only [e2] at p; exact p.elim
    | some b =>
      simp only [e2] at p
      obtain ⟨d, dd, h1, h2, h3, h4, h5⟩ := deepIn_ok w rx ry e2
      refine .inr ?_
      cases neg with
      | true => exact ⟨d, dd, h1, h2, h3, h4, post_ok p w (by simp only [RV]; rw [h5]; rfl)⟩
      | false => exact ⟨d, dd, h1, h2, h3, h4, post_ok p w (by simp only [RV]; rw [h5]; rfl)⟩
end
end Mi
namespace Mi
open PySem L2
mutual
inductive PTg where
  | nm (i : Nat) | tp (l : PTl)
inductive PTl where
  | nil | cons (p : PTg) (l : PTl)
end
def PTl.len : PTl → Nat | .nil => 0 | .cons _ l => l.len + 1
section
variable {G : Cw} {X : Cx} {W : WX} {pos : Pos} {μ : List Addr} {H : Hp} {h : DH}
def bOpD (g : Bool → Bool → Bool) (x y : D) (h : DH) : Res D := match x, y with | .bl a, .bl b => .ok (.bl (g a b)) h | _, _ => .no
def rBB (g : Bool → Bool → Bool) : V → V → Hp → VK → Prop := fun x y H Q => ∃ a b, x = .bl a ∧ y = .bl b ∧ Q (.bl (g a b)) H
theorem opBB {f : Value → Value → Sem Value} {g : Bool → Bool → Bool}
    (rule : ∀ (i j : Bool) (s : Shared) (Q : Value → Shared → Prop) (E : Value → Shared → Prop), Q (.bool (g i j)) s → wpAny (model X.prog X.w) X.A (f (.bool i) (.bool j)) Q E s) :
    OpR X f (rBB g) := by
  intro pins s σ H x y v u Q I rx ry h
  obtain ⟨i, j, rfl, rfl, q⟩ := h
  cases rx
  cases ry
  exact rule i j s _ _ ⟨.bl (g i j), H, I, rfl, q⟩
theorem op_orB : OpR X (binaryOp .BitOr) (rBB (· || ·)) := opBB fun _ _ _ _ _ q => PyProof.Rows.or_bool q
theorem op_andB : OpR X (binaryOp .BitAnd) (rBB (· && ·)) := opBB fun _ _ _ _ _ q => PyProof.Rows.and_bool q
theorem op_xorB : OpR X (binaryOp .BitXor) (rBB (· != ·)) := opBB fun _ _ _ _ _ q => PyProof.Rows.xor_bool q
theorem s_bOp {g : Bool → Bool → Bool} : OpS G (rBB g) (bOpD g) := fun W ds μ h H x y v u Q w rx ry p => by
  unfold bOpD at p
  cases x with
  | bl a =>
    cases y with
    | bl b =>
      simp only [RV] at rx ry
      exact ⟨a, b, rx, ry, post_ok p w (by simp only [RV])⟩
    | _ => exact p.elim
  | _ => exact p.elim
theorem RVs.look {f : Str} : ∀ {fs : List (Str × D)} {ws : List (Str × V)} {d : D}, ws.map (·.1) = fs.map (·.1) → RVs G μ H (fs.map (·.2)) (ws.map (·.2)) → fs.lookup f = some d → ∃ v, ws.lookup f = some v ∧ RV G μ H d v
  | [], ws, d, e, r, q => by cases q
  | (g, x) :: fs, [], d, e, r, q => by cases e
  | (g, x) :: fs, (g', y) :: ws, d, e, r, q => by
    simp only [List.map_cons, List.cons.injEq] at e
    simp only [List.map_cons, RVs] at r
    obtain ⟨v, us, e2, r1, r2⟩ := r
    simp only [List.cons.injEq] at e2
    obtain ⟨e3, e4⟩ := e2
    have e1 : g' = g := e.1
    subst e1
    simp only [List.lookup] at q ⊢
    cases z : (f == g') with
    | true => rw [z] at q; cases q; exact ⟨y, rfl, by rw [e3]; exact r1⟩
    | false => rw [z] at q; exact RVs.look e.2 (by rw [e4]; exact r2) q
end
end Mi
namespace Mi
open PySem L2
end Mi
namespace Mi
open PySem L2
def keyD : D → Option Key
  | .int i => some (.inl i)
  | .str x => some (.inr x)
  | _ => none
def lookK {α : Type} (kvs : List (Key × α)) (k : Key) : Option α := (kvs.find? fun kv => decide (kv.1 = k)).map (·.2)
def setK {α : Type} (kvs : List (Key × α)) (k : Key) (v : α) : List (Key × α) := if (kvs.any fun kv => decide (kv.1 = k)) = true then kvs.map (fun kv => if kv.1 = k then (kv.1, v) else kv) else kvs ++ [(k, v)]
def delK {α : Type} (kvs : List (Key × α)) (k : Key) : List (Key × α) := kvs.filter fun kv => decide (kv.1 ≠ k)
/-- the entry of a key -/
def getD' (x y : D) (h : DH) : Option (Option D) := match x with
  | .ref n => match h[n]? with
    | some (.dK kvs) => (keyD y).map (lookK kvs)
    | _ => none
  | _ => none
def mDGet (a b : EM) : EM := fun ds h => (a ds h).bind fun x h1 => (b ds h1).bind fun y h2 => match getD' x y h2 with | some (some d) => .ok d h2 | _ => .no
def mDIn (neg : Bool) (b a : EM) : EM := fun ds h => (b ds h).bind fun y h1 => (a ds h1).bind fun x h2 => match getD' x y h2 with | some o => .ok (.bl (if neg then !o.isSome else o.isSome)) h2 | none => .no
def mDNew : EM := fun _ h => .ok (.ref h.length) (h ++ [.dK []])
def putDh (x y v : D) (h : DH) : Option DH := match x with
  | .ref n => match h[n]? with
    | some (.dK kvs) => match keyD y with
      | some k => if kvs.length < 16777216 then some (h.set n (.dK (setK kvs k v))) else none
      | none => none
    | _ => none
  | _ => none
def sDPut (v a b : EM) : SM := fun ds h => (v ds h).st ds fun z h1 => (a ds h1).st ds fun x h2 => (b ds h2).st ds fun y h3 => match putDh x y z h3 with | some h4 => .nx ds h4 | none => .no
section
variable {G : Cw} {X : Cx} {W : WX} {pos : Pos} {μ : List Addr} {h : DH} {H : Hp}
/-- an entry and what stands for it -/
def ROp (G : Cw) (μ : List Addr) (H : Hp) : Option D → Option V → Prop
  | some d, o' => ∃ z, o' = some z ∧ RV G μ H d z
  | none, o' => o' = none
theorem kV_of {y : D} {k : Key} {v : V} (e : keyD y = some k) (r : RV G μ H y v) : v = kV k := by
  cases y with
  | int i => cases e; simp only [RV] at r; exact r
  | str s => cases e; simp only [RV] at r; exact r
  | _ => cases e
theorem RVs.un {d : D} {ds : List D} {vs : List V} (r : RVs G μ H (d :: ds) vs) : ∃ v ws, vs = v :: ws ∧ RV G μ H d v ∧ RVs G μ H ds ws := by simp only [RVs] at r; exact r
theorem look_ok {k : Key} : ∀ {kvs : List (Key × D)} {ws : List (Key × V)}, ws.map (·.1) = kvs.map (·.1) → RVs G μ H (kvs.map (·.2)) (ws.map (·.2)) → match lookK kvs k with | some d => ∃ v, valV ws k = some v ∧ RV G μ H d v | none => valV ws k = none
  | [], ws, e, r => by
    cases ws with
    | nil => rfl
    | cons x y => cases e
  | (a, d) :: kvs, [], e, r => by cases e
  | (a, d) :: kvs, (b, v) :: ws, e, r => by
    simp only [List.map_cons, List.cons.injEq] at e
    obtain ⟨rfl, e⟩ := e
    obtain ⟨v', ws', e2, r1, r2⟩ := RVs.un r
    simp only [List.map_cons, List.cons.injEq] at e2
    obtain ⟨rfl, rfl⟩ := e2
    have ih := look_ok (k := k) e r2
    by_cases c : b = k
    · have e1 : lookK ((b, d) :: kvs) k = some d := by unfold lookK; rw [List.find?_cons_of_pos (by exact decide_eq_true c)]; rfl
      have e3 : valV ((b, v) :: ws) k = some v := by unfold valV; rw [List.find?_cons_of_pos (by exact decide_eq_true c)]; rfl
      rw [e1]; exact ⟨v, e3, r1⟩
    · have e1 : lookK ((b, d) :: kvs) k = lookK kvs k := by unfold lookK; rw [List.find?_cons_of_neg (by simpa using c)]
      have e3 : valV ((b, v) :: ws) k = valV ws k := by unfold valV; rw [List.find?_cons_of_neg (by simpa using c)]
      rw [e1, e3]; exact ih
theorem set_repl {k : Key} {d : D} {v : V} (r0 : RV G μ H d v) : ∀ {kvs : List (Key × D)} {ws : List (Key × V)}, ws.map (·.1) = kvs.map (·.1) → RVs G μ H (kvs.map (·.2)) (ws.map (·.2)) → (ws.map (fun kv => if kv.1 = k then (kv.1, v) else kv)).map (·.1) = (kvs.map (fun kv => if kv.1 = k then (kv.1, d) else kv)).map (·.1) ∧ RVs G μ H ((kvs.map (fun kv => if kv.1 = k then (kv.1, d) else kv)).map (·.2)) ((ws.map (fun kv => if kv.1 = k then (kv.1, v) else kv)).map (·.2))
  | [], ws, e, r => by
    cases ws with
    | nil => exact ⟨rfl, RVs.nil⟩
    | cons x y => cases e
  | (a, z) :: kvs, [], e, r => by cases e
  | (a, z) :: kvs, (b, u) :: ws, e, r => by
    simp only [List.map_cons, List.cons.injEq] at e
    obtain ⟨rfl, e⟩ := e
    obtain ⟨v', ws', e2, r1, r2⟩ := RVs.un r
    simp only [List.map_cons, List.cons.injEq] at e2
    obtain ⟨rfl, rfl⟩ := e2
    obtain ⟨h1, h2⟩ := set_repl (k := k) r0 e r2
    simp only [List.map_cons]
    by_cases c : b = k
    · rw [if_pos c, if_pos c]; exact ⟨by rw [h1], RVs.cons r0 h2⟩
    · rw [if_neg c, if_neg c]; exact ⟨by rw [h1], RVs.cons r1 h2⟩
theorem any_keys {k : Key} : ∀ {kvs : List (Key × D)} {ws : List (Key × V)}, ws.map (·.1) = kvs.map (·.1) → (ws.any fun kv => decide (kv.1 = k)) = kvs.any fun kv => decide (kv.1 = k)
  | [], ws, e => by cases ws with | nil => rfl | cons x y => cases e
  | a :: kvs, [], e => by cases e
  | a :: kvs, b :: ws, e => by
    simp only [List.map_cons, List.cons.injEq] at e
    rw [List.any_cons, List.any_cons, any_keys e.2, e.1]
theorem set_ok {k : Key} {d : D} {v : V} {kvs : List (Key × D)} {ws : List (Key × V)} (r0 : RV G μ H d v) (e : ws.map (·.1) = kvs.map (·.1)) (r : RVs G μ H (kvs.map (·.2)) (ws.map (·.2))) : (putK ws k v).map (·.1) = (setK kvs k d).map (·.1) ∧ RVs G μ H ((setK kvs k d).map (·.2)) ((putK ws k v).map (·.2)) := by
  unfold putK setK
  rw [any_keys e]
  by_cases c : (kvs.any fun kv => decide (kv.1 = k)) = true
  · rw [if_pos c, if_pos c]; exact set_repl r0 e r
  · rw [if_neg c, if_neg c]
    simp only [List.map_append, e, List.map_cons, List.map_nil]
    exact ⟨trivial, RVs.append r (RVs.cons r0 RVs.nil)⟩
theorem dk_at {n : Nat} {v : V} {kvs : List (Key × D)} (w : Wd G μ h H) (rx : RV G μ H (.ref n) v) (q : h[n]? = some (.dK kvs)) : ∃ a ws, v = .ref a ∧ μ[n]? = some a ∧ H a = some (.dK ws) ∧ ws.map (·.1) = kvs.map (·.1) ∧ RVs G μ H (kvs.map (·.2)) (ws.map (·.2)) := by
  simp only [RV] at rx
  obtain ⟨a, rfl, ha⟩ := rx
  obtain ⟨vs, h1, r1⟩ := w.ob _ _ _ ha q
  exact ⟨a, vs, rfl, ha, h1, r1⟩
theorem get_dk {x y : D} {o : Option D} (e : getD' x y h = some o) : ∃ n kvs k, x = .ref n ∧ h[n]? = some (.dK kvs) ∧ keyD y = some k ∧ o = lookK kvs k := by
  unfold getD' at e
  cases x with
  | ref n =>
    cases q : h[n]? with
    | none => simp only [q] at e; cases e
    | some ob =>
      cases ob with
      | dK kvs =>
        simp only [q] at e
        cases q2 : keyD y with
        | none => rw [q2] at e; cases e
        | some k => rw [q2] at e; cases e; exact ⟨n, kvs, k, rfl, q, rfl, rfl⟩
      | _ => simp only [q] at e; cases e
  | _ => cases e
theorem get_ok {x y : D} {v u : V} {o : Option D} (w : Wd G μ h H) (rx : RV G μ H x v) (ry : RV G μ H y u) (e : getD' x y h = some o) : ∃ a o', v = .ref a ∧ DGet H a u o' ∧ ROp G μ H o o' := by
  obtain ⟨n, kvs, k, rfl, q, q2, rfl⟩ := get_dk e
  obtain ⟨a, ws, rfl, ha, h1, h2, h3⟩ := dk_at w rx q
  refine ⟨a, valV ws k, rfl, .inl ⟨ws, k, .inl h1, kV_of q2 ry, rfl⟩, ?_⟩
  have l := look_ok (k := k) h2 h3
  cases q3 : lookK kvs k with
  | none => rw [q3] at l; exact l
  | some d => rw [q3] at l; obtain ⟨z, l1, l2⟩ := l; exact ⟨z, l1, l2⟩
variable {a b : Expr} {ma mb mv : EM}
theorem pm_dget (hr : X.A.units + 1 < cLine) (ha : PE X a (tE G W ma)) (hb : PE X b (tE G W mb)) (hs : NoSl b) : PE X (.Subscript a b pos) (tE G W (mDGet ma mb)) := (pe_dget hr ha hb hs).imp fun σ H Q ⟨μ, ds, h, w, rs, p⟩ =>
  ⟨μ, ds, h, w, rs, post_bind p fun x h1 μ1 v H1 e1 w1 r1 p1 => ⟨μ1, ds, h1, w1, rs.mono e1, post_bind p1 fun y h2 μ2 u H2 e2 w2 r2 p2 => by
    cases q : getD' x y h2 with
    | none => simp only [q] at p2; exact p2.elim
    | some o =>
      obtain ⟨a, o', rfl, g1, g2⟩ := get_ok w2 (RV.mono e2 _ _ r1) r2 q
      cases o with
      | none => simp only [q] at p2; exact p2.elim
      | some d =>
        simp only [q] at p2
        obtain ⟨z, rfl, rz⟩ := g2
        exact ⟨a, z, rfl, g1, post_ok p2 w2 rz⟩⟩⟩
theorem un1 {k : Nat} {A : Around} (h : Room k A) : A.units + 1 < cLine := by have := h.un; omega
theorem Wd.setD {n : Nat} {a : Addr} {kvs kvs' : List (Key × D)} {ws' : List (Key × V)} (w : Wd G μ h H) (e1 : μ[n]? = some a) (e2 : h[n]? = some (.dK kvs)) (hk : ws'.map (·.1) = kvs'.map (·.1)) (hv : RVs G μ H (kvs'.map (·.2)) (ws'.map (·.2))) :
    Ext G μ H μ (upd H a (.dK ws')) ∧ Wd G μ (h.set n (.dK kvs')) (upd H a (.dK ws')) := by
  obtain ⟨us, h1, _⟩ := w.ob n a _ e1 e2
  have ex : Ext G μ H μ (upd H a (.dK ws')) := ext_write h1 trivial
  exact ⟨ex, w.write e1 e2 rfl rfl ex ⟨ws', upd_same, hk, RVs.mono ex _ _ hv⟩⟩
theorem put_dk {x y z : D} {h' : DH} (e : putDh x y z h = some h') : ∃ n kvs k, x = .ref n ∧ h[n]? = some (.dK kvs) ∧ keyD y = some k ∧ kvs.length < 16777216 ∧ h' = h.set n (.dK (setK kvs k z)) := by
  unfold putDh at e
  cases x with
  | ref n =>
    cases q : h[n]? with
    | none => simp only [q] at e; cases e
    | some ob =>
      cases ob with
      | dK kvs =>
        simp only [q] at e
        cases q2 : keyD y with
        | none => rw [q2] at e; cases e
        | some k =>
          rw [q2] at e
          by_cases c : kvs.length < 16777216
          · simp only [if_pos c] at e; cases e; exact ⟨n, kvs, k, rfl, q, rfl, c, rfl⟩
          · simp only [if_neg c] at e; cases e
      | _ => simp only [q] at e; cases e
  | _ => cases e
theorem keys_len {kvs : List (Key × D)} {ws : List (Key × V)} (e : ws.map (·.1) = kvs.map (·.1)) : ws.length = kvs.length := by
  have := congrArg List.length e
  rwa [List.length_map, List.length_map] at this
theorem put_ok {x y z : D} {v u t : V} {h' : DH} (w : Wd G μ h H) (rx : RV G μ H x v) (ry : RV G μ H y u) (rz : RV G μ H z t) (e : putDh x y z h = some h') : ∃ a H', v = .ref a ∧ DPut H a u t H' ∧ Ext G μ H μ H' ∧ Wd G μ h' H' := by
  obtain ⟨n, kvs, k, rfl, q, q2, hl, rfl⟩ := put_dk e
  obtain ⟨a, ws, rfl, ha, h1, h2, h3⟩ := dk_at w rx q
  obtain ⟨s1, s2⟩ := set_ok (k := k) rz h2 h3
  obtain ⟨ex, w'⟩ := w.setD ha q s1 s2
  exact ⟨a, _, rfl, .inl ⟨ws, k, h1, kV_of q2 ry, by rw [keys_len h2, sizeLine_eq]; exact hl, rfl⟩, ex, w'⟩
theorem sm_dput {value : Expr} {pos' : Pos} (hr : X.A.units + 1 < cLine) (ha : PE X a (tE G W ma)) (hb : PE X b (tE G W mb)) (hv : PE X value (tE G W mv)) (hs : swapsWith value (some (.Subscript a b pos')) pos.line X.env = pure false := by rfl) : PS X (.Assign [.Subscript a b pos'] value pos) (tS G W (sDPut mv ma mb)) := (ps_dput hr ha hb hv hs).imp fun E σ H ⟨μ, ds, h, w, rs, p⟩ =>
  ⟨μ, ds, h, w, rs, post_st p fun z h1 μ1 t H1 e1 w1 r1 p1 => ⟨μ1, ds, h1, w1, rs.mono e1, post_st p1 fun x h2 μ2 v H2 e2 w2 r2 p2 => ⟨μ2, ds, h2, w2, rs.mono (e1.trans e2), post_st p2 fun y h3 μ3 u H3 e3 w3 r3 p3 => by
    cases q : putDh x y z h3 with
    | none => simp only [q] at p3; exact p3.elim
    | some h4 =>
      obtain ⟨a, H4, rfl, g1, ex, w4⟩ := put_ok w3 (RV.mono e3 _ _ r2) r3 (RV.mono (e2.trans e3) _ _ r1) q
      simp only [q] at p3
      exact ⟨a, H4, rfl, g1, p3 μ3 σ H4 ex w4 (rs.mono ((e1.trans (e2.trans e3)).trans ex))⟩⟩⟩⟩
theorem pm_dnew : PE X (.Dict [] [] pos) (tE G W mDNew) := pe_dnewK.imp fun σ H Q ⟨μ, ds, h, w, rs, p⟩ => fun q hq => by
  have ex : Ext G μ H (μ ++ [q]) (upd H q (.dK [])) := (ext_new hq).trans (ext_app [q])
  refine p (μ ++ [q]) (.ref q) (upd H q (.dK [])) ex (w.alloc hq rfl ⟨[], upd_same, rfl, RVs.nil⟩) ?_
  simp only [RV]
  exact ⟨q, rfl, by rw [← w.len]; exact get_last μ q⟩
end
end Mi
namespace L2
open PySem
end L2
namespace L2
open PySem
end L2
namespace Mi
open PySem L2
end Mi
namespace Mi
open PySem L2
def keyO : Key → D
  | .inl i => .int i
  | .inr s => .str s
def keysD (x : D) (h : DH) : Option (List D) := match x with
  | .ref n => match h[n]? with
    | some (.dK kvs) => some (kvs.map fun kv => keyO kv.1)
    | _ => none
  | _ => none
def dkeysD (xs : List D) (h : DH) : Res D := match xs with
  | [x] => match keysD x h with
    | some ys => .ok (.ref h.length) (h ++ [.lst ys])
    | none => .no
  | _ => .no
def rDKeys : List V → Hp → VK → Prop := fun xs H Q => ∃ (a : Addr) (kvs : List (Key × V)), xs = [.ref a] ∧ Rd H a (.dK kvs) ∧ ∀ p, H p = none → Q (.ref p) (upd H p (.lst (kvs.map fun kv => kV kv.1)))
section
variable {G : Cw} {X : Cx} {W : WX} {pos : Pos} {μ : List Addr} {h : DH} {H : Hp} {ma mb : EM} {a b : Expr}
theorem snd_dnin : ∀ σ H Q, tE G W (mDIn true mb ma) σ H Q → tDNotIn (tE G W mb) (tE G W ma) σ H Q := fun σ H Q ⟨μ, ds, h, w, rs, p⟩ =>
  ⟨μ, ds, h, w, rs, post_bind p fun y h1 μ1 u H1 e1 w1 r1 p1 => ⟨μ1, ds, h1, w1, rs.mono e1, post_bind p1 fun x h2 μ2 v H2 e2 w2 r2 p2 => by
    cases q : getD' x y h2 with
    | none => simp only [q] at p2; exact p2.elim
    | some o =>
      obtain ⟨a, o', rfl, g1, g2⟩ := get_ok w2 r2 (RV.mono e2 _ _ r1) q
      simp only [q] at p2
      refine ⟨a, o', rfl, g1, post_ok p2 w2 ?_⟩
      cases o with
      | none => rw [show o' = none from g2]; simp [RV]
      | some d => obtain ⟨z, rfl, rz⟩ := g2; simp [RV]⟩⟩
theorem tm_dnin (hr : X.A.units + 1 < cLine) (hb : PE X b (tE G W mb)) (ha : PE X a (tE G W ma)) (hm : behindInMarks .NotIn a = false) : PT X (.Compare b [.NotIn] [a] pos) (tT G W (mTest (mDIn true mb ma))) := (pt_cmp (pc_dnotin hr hb ha) hm).imp (snd_test snd_dnin)
theorem keys_rv {μ : List Addr} {H : Hp} : ∀ {kvs : List (Key × D)} {ws : List (Key × V)}, ws.map (·.1) = kvs.map (·.1) → RVs G μ H (kvs.map fun kv => keyO kv.1) (ws.map fun kv => kV kv.1)
  | [], [], _ => RVs.nil
  | [], w :: ws, e => by cases e
  | k :: kvs, [], e => by cases e
  | k :: kvs, w :: ws, e => by
    simp only [List.map_cons, List.cons.injEq] at e
    simp only [List.map_cons]
    refine RVs.cons ?_ (keys_rv e.2)
    rw [e.1]
    cases k.1 with
    | inl i => simp only [keyO, RV]; rfl
    | inr s => simp only [keyO, RV]; rfl
theorem keysD_get {x : D} {h : DH} {ys : List D} (e : keysD x h = some ys) : ∃ n kvs, x = .ref n ∧ h[n]? = some (.dK kvs) ∧ ys = kvs.map fun kv => keyO kv.1 := by
  unfold keysD at e
  cases x with
  | ref n =>
    cases q : h[n]? with
    | none => simp only [q] at e; cases e
    | some ob =>
      cases ob with
      | dK kvs => simp only [q] at e; cases e; exact ⟨n, kvs, rfl, q, rfl⟩
      | _ => simp only [q] at e; cases e
  | _ => cases e
theorem s_dkeys : CallS G rDKeys dkeysD := fun W ds μ h H xs vs Q w rs p => by
  unfold dkeysD at p
  match xs, rs, p with
  | [x], rs, p =>
    obtain ⟨v, ws, rfl, r1, r2⟩ := RVs.un rs
    simp only [RVs] at r2
    subst r2
    cases q0 : keysD x h with
    | none => simp only [q0] at p; exact p.elim
    | some ys =>
      simp only [q0] at p
      obtain ⟨n, kvs, rfl, q, rfl⟩ := keysD_get q0
      obtain ⟨a, ws, rfl, ha, h1, h2, h3⟩ := dk_at w r1 q
      exact ⟨a, ws, rfl, .inl h1, new_lst w (keys_rv h2) p⟩
end
end Mi
namespace L2
open PySem PySem.Spec PyProof.Rows
end L2
namespace Mi
open PySem L2
end Mi
namespace Mi
open PySem L2
def extD (x : D) (xs : List D) (h : DH) : Res D := match x, xs with
  | .ref n, [.ref m] => (match h[n]?, h[m]? with
    | some (.lst zs), some (.lst ys) => if zs.length + ys.length ≤ 16777216 then .ok .non (h.set n (.lst (zs ++ ys))) else .no
    | _, _ => .no)
  | _, _ => .no
section
variable {G : Cw} {X : Cx} {W : WX} {pos : Pos} {μ : List Addr} {H : Hp} {h : DH}
theorem s_ext : MtSd G rExtend extD := fun W ds μ h H x v xs vs Q w rx rs p => by
  unfold extD at p
  split at p
  · rename_i n m
    cases q : h[n]? with
    | none => simp only [q] at p; exact p.elim
    | some ob =>
      cases q2 : h[m]? with
      | none => simp only [q, q2] at p; exact p.elim
      | some ob2 =>
        cases ob with
        | lst zs =>
          cases ob2 with
          | lst ys =>
            simp only [q, q2] at p
            by_cases hz : zs.length + ys.length ≤ 16777216
            · rw [if_pos hz] at p
              obtain ⟨a, us, rfl, ha, h1, r1⟩ := lst_of (x := .non) w rx q
              simp only [RVs] at rs
              obtain ⟨u, ws, rfl, r2, rfl⟩ := rs
              obtain ⟨b, ts, rfl, hb, h2, r3⟩ := lst_of (x := .non) w r2 q2
              obtain ⟨ex, w2⟩ := w.setL ha q (RVs.append r1 r3)
              exact ⟨a, b, us, ts, rfl, rfl, h1, h2, by rw [← r1.length, ← r3.length, sizeLine_eq]; exact hz, p _ _ _ ex w2 (by simp only [RV])⟩
            · rw [if_neg hz] at p; exact p.elim
          | _ => simp only [q, q2] at p; exact p.elim
        | _ => simp only [q] at p; exact p.elim
  · exact p.elim
end
end Mi
namespace Mi
open PySem L2
end Mi
namespace Mi
open PySem L2
/-- arguments, and constants for those that are left out -/
def aDef (m : AM) (cs : List D) : AM := fun ds h => (m ds h).bind fun xs h1 => .ok (xs ++ cs) h1
section
variable {G : Cw} {X : Cx} {W : WX} {pos : Pos}
theorem snd_callD {F : List D → DH → Res D} {n : Nat} {m : AM} {cs : List D} {dvs : List V} (hn : ∀ xs h, F xs h ≠ .no → xs.length = n) (hc : ∀ μ H, RVs G μ H cs dvs) : ∀ σ H Q, tE G W (mCB F (aDef m cs)) σ H Q → tCallSD (spF G n F) dvs (WE W) (tA G W m) σ H Q := fun σ H Q ⟨μ, ds, h, w, rs, p⟩ =>
  ⟨μ, ds, h, w, rs, by
    have e : mCB F (aDef m cs) ds h = (m ds h).bind fun xs h1 => F (xs ++ cs) h1 := by
      unfold mCB aDef
      cases m ds h <;> rfl
    rw [e] at p
    refine post_bind p fun xs h1 μ1 vs H1 e1 w1 r1 p1 => ?_
    have r2 := RVs.append r1 (hc μ1 H1)
    refine ⟨by rw [← r2.length]; exact hn _ h1 (fun e => by rw [e] at p1; exact p1), μ1, xs ++ cs, h1, w1, r2, ?_⟩
    cases q : F (xs ++ cs) h1 with
    | ok d h2 => rw [q] at p1; exact p1
    | exc x h2 => rw [q] at p1; exact fun μ' σ' cls d H' e' w' r' rx => p1 μ' σ cls d H' e' w' (rs.mono (e1.trans e')) rx
    | no => rw [q] at p1; exact p1⟩
theorem pm_callD {e : Expr} {F : List D → DH → Res D} {n : Nat} {m : AM} {cs : List D} {dvs : List V} (hn : ∀ xs h, F xs h ≠ .no → xs.length = n) (hc : ∀ μ H, RVs G μ H cs dvs) (h : PE X e (tCallSD (spF G n F) dvs (WE W) (tA G W m))) : PE X e (tE G W (mCB F (aDef m cs))) := h.imp (snd_callD hn hc)
end
section
variable {X : Cx} {CX : CXT} {k : Nat} {f : Addr} {fd : FuncData} {ps : List Str} {sp : Sp} {dvs : List V} {E : St → XK} {x : Str} {p pos : Pos} {e : Expr} {es : List Expr} {t : TA}
theorem pe_callE (F : FnOk X.prog X.w X.K X.mg X.base CX k f fd ps sp) (hr : Room k X.A) (hg : Gl X x) (hm : X.mg x = some (.ref f)) (hk : PySem.W.keepIn X.K (.ref f) = true) (hb : ∃ ds, Vals dvs ds ∧ Binds X.K fd ps ds) (hx : ∀ σ, PassesAt CX X σ (E σ))
    (ha : PA X (e :: es) t) (hdb : (x == ("__debug__" : Str)) = false := by decide) (he : starEach (e :: es) X.env = (false, eval e X.env) :: starEach es X.env := by rfl) (hpl : (PySem.backTo pos (starEach es X.env)).any (·.1) = false := by rfl) :
    PE X (.Call (.Name x p) (e :: es) [] pos) (tCallSD sp dvs E t) := by
  obtain ⟨ds, hd, hb⟩ := hb
  exact pe_callSD F hr hg hm hk hb hd hx ha hdb he hpl
end
/-- a def with defaults -/
theorem fn_okFD {G : Cw} {P : Program} {w : World} {K : PySem.W.Frag} {mg : Str → Option Value} {base : Heap} {x qual : Str} {st : Stmt} {f : Addr} {fd : FuncData} {N ps : List Str} {k : Nat} {m : SM} {dvs : List V} (F : FunD K x qual (defArgs st) (defBody st) (defScope st) dvs [] f fd) (S : FnScope N ps (defScope st))
    (hb : ∀ (cdv : Value) (A : Around) (outer : List Env) (s : Shared) (H : Hp) (E : XK), Room k (A.deeper (PyProof.Rows.envOfC qual (defScope st) s.heap.objs.size f cdv)) →
      PSs (cxOf (L2.CX P w) P w K mg base N qual (defScope st) f cdv A outer s H E) (defBody st) (tS G (fun c d _ H => E c d H) m)) :
    FnOk P w K mg base (L2.CX P w) (k + 1) f fd ps (spF G ps.length (runF ps.length N.length m)) := by
  have key : FnOk P w K mg base (L2.CX P w) (k + 1) f fd ps (spF G ps.length (runB N.length m)) := by
    obtain ⟨oc, od, dV, kV, doc, pm, an, cdv, ct, osl, rfl, lk, hcd, _, _⟩ := F.ex
    refine fn_of lk hcd S (fun vs H Q E h => h.1) fun A outer s H vs Q E hr h => ⟨_, hb cdv A outer s H E hr, ?_⟩
    obtain ⟨hl, μ, xs, h, w, r, p⟩ := h
    refine ⟨μ, _, h, w, start_st r, ?_⟩
    unfold runB at p
    cases q : m (xs.map some ++ List.replicate (N.length - xs.length) none) h with
    | nx ds h' => rw [q] at p; exact fun μ' σ' H' e' w' r' => p μ' .non H' e' w' (by simp only [RV])
    | rt d h' => rw [q] at p; exact p
    | exc e ds h' => rw [q] at p; exact fun μ' σ' cls d H' e' w' r' rx => p μ' [] cls d H' e' w' ⟨rfl, fun i d z => by simp at z⟩ rx
    | bk ds h' => rw [q] at p; exact p.elim
    | ct ds h' => rw [q] at p; exact p.elim
    | no => rw [q] at p; exact p.elim
  exact key.imp fun vs H Q E ⟨hl, μ, xs, h, w, r, p⟩ => ⟨hl, μ, xs, h, w, r, by
    unfold runF at p
    rw [if_pos (by rw [r.length]; exact hl)] at p
    exact p⟩
theorem fund_mk {K : PySem.W.Frag} {x qual : Str} {st : Stmt} {dvs : List V} {f T : Addr} {oc ot : Value} {od ox an : Option Addr} {osl ts : Array (Option Value)} {ti : Array Value} {tn : Nat} {kV doc pm cdv ct : Value} (hd : dvs ≠ [])
    (l : K.lookup f = some ⟨oc, od, .func (PySem.W.fnOf x qual (defArgs st) (defBody st) (defScope st) (.ref T) kV doc pm an cdv ct), osl⟩) (c : PySem.W.codeIn K cdv qual = true) (k : PySem.W.keepIn K (.ref f) = true)
    (lt : K.lookup T = some ⟨ot, ox, .seq ti tn, ts⟩) (v : Vals dvs ti.toList) : FunD K x qual (defArgs st) (defBody st) (defScope st) dvs [] f (PySem.W.fnOf x qual (defArgs st) (defBody st) (defScope st) (.ref T) kV doc pm an cdv ct) :=
  ⟨⟨oc, od, .ref T, kV, doc, pm, an, cdv, ct, osl, rfl, l, c, .inr ⟨hd, T, _, ti.toList, tn, rfl, lt, rfl, v⟩, .inl rfl⟩, k⟩
theorem binds_all {K : PySem.W.Frag} {x qual : Str} {params : Arguments} {body : List Stmt} {scope : Scope} {dvs : List V} {f : Addr} {fd : FuncData} {ps : List Str} (F : FunD K x qual params body scope dvs [] f fd) (hd : dvs ≠ [])
    (h : ∀ (T : Addr) (kV doc pm : Value) (an : Option Addr) (cdv ct : Value) (us its : List Value), us.length = ps.length → its.length = dvs.length →
      ∃ k, bindArgs (PySem.W.fnOf x qual params body scope (.ref T) kV doc pm an cdv ct) ⟨us, []⟩ = seqItems? (.ref T) >>= k ∧ k (some its.toArray) = pure (ps.zip us)) : Binds K fd ps [] := by
  obtain ⟨ds, v, b⟩ := F.binds1 (ps := ps) ps.length dvs.length hd (by omega) fun T kV doc pm an cdv ct us its l1 l2 => by
    obtain ⟨k, e1, e2⟩ := h T kV doc pm an cdv ct us its l1 l2
    refine ⟨k, e1, ?_⟩
    rw [e2, ← l2, List.drop_length, List.append_nil]
  rw [List.drop_length] at v
  cases v
  exact b
end Mi
namespace Mi
open PySem L2
end Mi
namespace Mi
open PySem L2 PyProof.Rows
end Mi
namespace Mi
open PySem L2
end Mi
namespace Mi
open PySem L2
end Mi
namespace Mi
open PySem L2
end Mi
namespace Mi
open PySem L2
end Mi
namespace Mi
open PySem L2 PyProof.Rows
end Mi
namespace Mi
open PySem L2
end Mi
namespace Mi
open PySem L2
end Mi
namespace L2
open PySem
end L2
namespace L2
open PySem PySem.Spec PyProof.Rows
end L2
namespace Mi
open PySem L2
end Mi
namespace Mi
open PySem L2
def splitD (x : D) (xs : List D) (h : DH) : Res D := match x, xs with
  | .str a, [.str b] => if b.length ≠ 0 ∧ a.length + 2 ≤ 16777216 then .ok (.ref h.length) (h ++ [.lst ((Txt.split a b).map .str)]) else .no
  | _, _ => .no
def predD (g : Str → Bool) (x : D) (xs : List D) (h : DH) : Res D := match x, xs with
  | .str a, [] => .ok (.bl (g a)) h
  | _, _ => .no
def strsD : List D → Option (List Str)
  | [] => some []
  | .str a :: r => (strsD r).map (a :: ·)
  | _ => none
def intSD (xs : List D) (h : DH) : Res D := match xs with
  | [.str a] => (match PySem.intText? a with | some n => if a.length ≤ 640 then .ok (.int n) h else .no | none => .no)
  | _ => .no
section
variable {G : Cw} {X : Cx} {W : WX} {pos : Pos} {μ : List Addr} {H : Hp} {h : DH}
theorem rvs_strs : ∀ {us : List D} {ys : List Str} {vs : List V}, strsD us = some ys → RVs G μ H us vs → vs = ys.map V.str
  | [], ys, vs, e, r => by cases e; simp only [RVs] at r; subst r; rfl
  | d :: us, ys, vs, e, r => by
    cases d with
    | str a =>
      unfold strsD at e
      cases q : strsD us with
      | none => rw [q] at e; cases e
      | some zs =>
        rw [q] at e
        cases e
        obtain ⟨v, ws, rfl, r1, r2⟩ := RVs.un r
        simp only [RV] at r1
        rw [r1, rvs_strs q r2]; rfl
    | _ => cases e
theorem rvs_ofS : ∀ (ys : List Str), RVs G μ H (ys.map D.str) (ys.map V.str)
  | [] => RVs.nil
  | y :: ys => RVs.cons (by simp only [RV]) (rvs_ofS ys)
theorem s_split : MtSd G (fun x xs H Q => ∃ a b, x = .str a ∧ xs = [.str b] ∧ (b.length == 0) = false ∧ a.length + 2 ≤ sizeLine ∧ rNewStrs (Txt.split a b) H Q) splitD := fun W ds μ h H x v xs vs Q w rx rs p => by
  unfold splitD at p
  split at p
  · rename_i a b
    obtain ⟨u, rfl, r⟩ := vs1 rs
    simp only [RV] at rx r
    by_cases c : b.length ≠ 0 ∧ a.length + 2 ≤ 16777216
    · rw [if_pos c] at p
      exact ⟨a, b, rx, by rw [r], beq_eq_false_iff_ne.mpr c.1, by rw [sizeLine_eq]; exact c.2, new_lst w (rvs_ofS _) p⟩
    · rw [if_neg c] at p; exact p.elim
  · exact p.elim
theorem s_pred {g : Str → Bool} : MtSd G (fun x xs H Q => ∃ a, x = .str a ∧ xs = [] ∧ True ∧ Q (.bl (g a)) H) (predD g) := fun W ds μ h H x v xs vs Q w rx rs p => by
  unfold predD at p
  split at p
  · simp only [RVs] at rs
    subst rs
    simp only [RV] at rx
    exact ⟨_, rx, rfl, trivial, post_ok p w (by simp only [RV])⟩
  · exact p.elim
theorem s_intS : CallS G (fun xs H Q => ∃ a n, xs = [.str a] ∧ PySem.intText? a = some n ∧ a.length ≤ 640 ∧ Q (.int n) H) intSD := fun W ds μ h H xs vs Q w rs p => by
  unfold intSD at p
  split at p
  · obtain ⟨u, rfl, r⟩ := vs1 rs
    simp only [RV] at r
    split at p
    · rename_i n q
      split at p
      · rename_i c
        exact ⟨_, n, by rw [r], q, c, post_ok p w (by simp only [RV])⟩
      · exact p.elim
    · exact p.elim
  · exact p.elim
end
end Mi
namespace MxL
open PySem
def lenAt (ys : List Str) (i : Nat) : Int := ((ys.getD i Str.empty).length : Int)
def longS (ys : List Str) : Str := ys.getD (argBest (fun i j => decide (lenAt ys i > lenAt ys j)) (ys.length - 1)) Str.empty
theorem best_spec (v : Nat → Int) : ∀ k, argBest (fun i j => decide (v i > v j)) k ≤ k ∧ ∀ i, i ≤ k → v i ≤ v (argBest (fun i j => decide (v i > v j)) k)
  | 0 => ⟨Nat.le_refl _, fun i hi => by have : i = 0 := by omega
                                        subst this; exact Int.le_refl _⟩
  | k + 1 => by
    obtain ⟨h1, h2⟩ := best_spec v k
    show (if decide (v (k + 1) > v (argBest _ k)) = true then k + 1 else argBest _ k) ≤ k + 1 ∧ _
    by_cases c : v (k + 1) > v (argBest (fun i j => decide (v i > v j)) k)
    · have e : argBest (fun i j => decide (v i > v j)) (k + 1) = k + 1 := by
        show (if decide (v (k + 1) > v (argBest _ k)) = true then k + 1 else _) = _
        rw [if_pos (decide_eq_true c)]
      rw [e]
      refine ⟨by rw [if_pos (decide_eq_true c)]; exact Nat.le_refl _, fun i hi => ?_⟩
      by_cases z : i = k + 1
      · rw [z]; exact Int.le_refl _
      · have := h2 i (by omega); omega
    · have e : argBest (fun i j => decide (v i > v j)) (k + 1) = argBest (fun i j => decide (v i > v j)) k := by
        show (if decide (v (k + 1) > v (argBest _ k)) = true then k + 1 else _) = _
        rw [if_neg (by simpa using c)]
      rw [e]
      refine ⟨by rw [if_neg (by simpa using c)]; omega, fun i hi => ?_⟩
      by_cases z : i = k + 1
      · rw [z]; omega
      · exact h2 i (by omega)
theorem long_spec {ys : List Str} (h : 0 < ys.length) : longS ys ∈ ys ∧ ∀ y ∈ ys, y.length ≤ (longS ys).length := by
  obtain ⟨h1, h2⟩ := best_spec (lenAt ys) (ys.length - 1)
  unfold longS
  generalize argBest (fun i j => decide (lenAt ys i > lenAt ys j)) (ys.length - 1) = b at h1 h2
  refine ⟨?_, fun y hy => ?_⟩
  · rw [List.getD_eq_getElem?_getD, List.getElem?_eq_getElem (show b < ys.length by omega)]
    exact List.getElem_mem _
  · obtain ⟨i, hi⟩ := List.getElem?_of_mem hy
    have il := (List.getElem?_eq_some_iff.mp hi).1
    have := h2 i (by omega)
    unfold lenAt at this
    rw [show ys.getD i Str.empty = y from by rw [List.getD_eq_getElem?_getD, hi]; rfl] at this
    omega
section
variable {prog : Program} {w : World} {A : Around} {s : Shared} {l : Addr} {its : List Value} {ys : List Str}
theorem call_max_len {E Q : Value → Shared → Prop} (hh : A.handled = none) (hl : s.heap.IsList l its.toArray) (hi : PyProof.Rows.StrsAre its ys) (hne : 0 < ys.length) (hz : ∀ y ∈ ys, y.length ≤ 16777216)
    (h : ∀ (h' : Heap) (tk : Nat) (t' : Tok), (∀ b o, s.heap.get? b = some o → h'.get? b = some o) → Q (.str (longS ys) t') { s with heap := h', toks := tk }) :
    wpAny (model prog w) A (call (.builtin "max") [.ref l] [(Str.ofString "key", .builtin "len")]) Q E s := by
  have hlt : l < s.heap.objs.size := by obtain ⟨_, e, _⟩ := hl; exact Heap.lt_size e
  have hlen : its.length = ys.length := PyProof.Rows.StrsAre.len_eq hi
  have hat : ∀ (i : Nat) (v : Value), its.toArray[i]? = some v → ∃ t, v = .str (ys.getD i Str.empty) t := fun i v hv => SS.strs_at hi i v (by simpa using hv)
  refine call_max_walkKB ?_
  refine wpAny_pyIter_list hl ?_
  refine ⟨s.heap.objs.size, [s.heap.objs.size, l], [s.heap.objs.size], (fun a b => b = a), its.toArray.size, (fun i v => its.toArray[i]? = some v), _, (fun s' => (∀ b o, b < s.heap.objs.size → s.heap.get? b = some o → s'.heap.get? b = some o) ∧ s'.gens = s.gens ∧ s'.drawn = s.drawn ∧ s'.os = s.os), (fun i k _ => ∃ t, k = .int (lenAt ys i) t), (fun i j => decide (lenAt ys i > lenAt ys j)), rfl,
    (Walks.list (A := A.in1) hh _ l (Nat.ne_of_lt hlt) its.toArray).toS, ⟨⟨_, Heap.get?_push_size _ rfl, rfl, rfl⟩, hl.push _⟩, ?_, by simpa [hlen] using hne, ?_, ?_, ?_⟩
  · intro b hb
    show b < (s.heap.push _).objs.size
    rw [Heap.size_push]
    rcases List.mem_cons.mp hb with rfl | hb
    · exact Nat.lt_succ_self _
    · rw [List.mem_singleton.mp hb]; exact Nat.lt_succ_of_lt hlt
  · refine ⟨fun s1 s2 ⟨j1, j2, j3, j4⟩ m => ⟨fun b o lb e => m.heap b o (fun z => ?_) (j1 b o lb e), m.gens.trans j2, m.drawn.trans j3, m.os.trans j4⟩, fun i k s1 s2 v m => v, fun i v s1 o Q E hi' hP hJ hst hS k => ?_, fun i j ki kj s1 Q E hJ hVi hVj k => ?_⟩
    · rcases List.mem_cons.mp z with z | z
      · rw [z, Heap.size_push] at lb; omega
      · rw [List.mem_singleton.mp z] at lb; omega
    · obtain ⟨t, rfl⟩ := hat i v hP
      have il : i < ys.length := by rw [← hlen]; simpa using hi'
      have hzi : (ys.getD i Str.empty).length ≤ 16777216 := hz _ (by rw [List.getD_eq_getElem?_getD, List.getElem?_eq_getElem il]; exact List.getElem_mem _)
      refine PyProof.Rows.len_str (by omega) ?_
      exact k _ _ hJ hst hS ⟨_, rfl⟩ fun j k' v => v
    · obtain ⟨t, rfl⟩ := hVi
      obtain ⟨u, rfl⟩ := hVj
      exact richCompare_gives (op := .Gt) (typeIs_int s1 _ t) (typeIs_int s1 _ u) F.slot_int_gt F.entry_int_gt (F.args_int_gt_2 _ _) (gives_int_gt _ _ t u) (fun x => nomatch x) k
  · exact ⟨fun b o lb e => Heap.get?_push_of_some _ e, rfl, rfl, rfl⟩
  · rintro v s' hP ⟨j1, j2, j3, j4⟩
    obtain ⟨t, rfl⟩ := hat _ v hP
    have e : its.toArray.size = ys.length := by simpa using hlen
    rw [e]
    obtain ⟨h', g', d', t', o'⟩ := s'
    have j2 : g' = s.gens := j2
    have j3 : d' = s.drawn := j3
    have j4 : o' = s.os := j4
    subst j2; subst j3; subst j4
    exact h h' t' t fun b o e => j1 b o (Heap.lt_size e) e
end
end MxL
namespace L2
open PySem
def rMaxLen (K : PySem.W.Frag) : List V → Hp → VK → Prop := fun vs H Q => ∃ (a : Addr) (ys : List Str), vs = [V.ref a] ∧ SqL K H a (ys.map V.str) ∧ 0 < ys.length ∧ (∀ y ∈ ys, y.length ≤ 16777216) ∧ Q (.str (MxL.longS ys)) H
theorem pe_maxLen {X : Cx} {e : Expr} {t : TA} {p p2 kp pos : Pos} (hc : X.calm = true) (g1 : Gl X "max") (m1 : X.mg "max" = none) (g2 : Gl X "len") (m2 : X.mg "len" = none) (ha : PA X [e] t)
    (h1 : backTo pos (starEach [e] X.env) = (false, eval e X.env) :: backTo pos (starEach [] X.env) := by rfl) (h2 : (backTo pos (starEach [e] X.env)).any (·.1) = false := by rfl)
    (h3 : (backToKw pos (keywordEach [⟨some "key", .Name "len" p2, kp⟩] X.env)).all (·.1.isSome) = true := by rfl)
    (h4 : (backToKw pos (keywordEach [⟨some "key", .Name "len" p2, kp⟩] X.env)).any (·.1.isNone) = false := by rfl)
    (h5 : (backToKw pos (keywordEach [⟨some "key", .Name "len" p2, kp⟩] X.env)).filterMap (·.1) = [Str.ofString "key"] := by rfl) :
    PE X (.Call (.Name "max" p) [e] [⟨some "key", .Name "len" p2, kp⟩] pos) (tCB (rMaxLen X.K) t) := ⟨fun pins s σ H Q I hq => by
  refine wpAny_Call_Name_kw (ld_blt I g1 m1 PyProof.Rows.boot_max ?_)
  refine PyProof.Rows.callWith_kw (thn (ha.run pos pins s σ H _ I hq) fun us s1 hh => ?_) h1 h2 h3 h4
  obtain ⟨vs, H1, I1, r1, a, ys, rfl, sq, hn, hz, q⟩ := hh
  rw [h5]
  show wpAny _ _ (evalAll ((do let v ← eval (.Name "len" p2) X.env; standAt pos; pure v) :: [])) _ _ s1
  refine wpAny_evalAll_cons (wpAny_bind (ld_blt I1 g2 m2 PySem.boot_len (wpAny_bind (wpAny_standAt (wpAny_pure ?_)))))
  refine wpAny_evalAll_nil ?_
  obtain ⟨its, rv, hl, _⟩ := I1.list sq
  rw [Vals.ref1 r1]
  exact MxL.call_max_len (I1.ok.hd hc) hl.isList (strsAre_of rv) hn hz fun h' tk t' hk => ⟨.str _, H1, I1.kept hk, ⟨_, rfl⟩, q⟩⟩
end L2
namespace Mi
open PySem L2
def maxLenD (xs : List D) (h : DH) : Res D := match xs with
  | [.ref n] => (match itemsD (.ref n) h with
    | some us => (match strsD us with
      | some ys => if 0 < ys.length ∧ ∀ y ∈ ys, y.length ≤ 16777216 then .ok (.str (MxL.longS ys)) h else .no
      | none => .no)
    | none => .no)
  | _ => .no
section
variable {G : Cw}
theorem s_maxLen : CallS G (rMaxLen G.K) maxLenD := fun W ds μ h H xs vs Q w rs p => by
  unfold maxLenD at p
  split at p
  · obtain ⟨u, rfl, r⟩ := vs1 rs
    split at p
    · rename_i us q1
      split at p
      · rename_i ys q2
        split at p
        · rename_i c
          obtain ⟨a, as, rfl, ra, sa⟩ := items_ok w r q1
          have := rvs_strs q2 ra
          subst this
          refine ⟨a, ys, rfl, ?_, c.1, c.2, post_ok p w (by simp only [RV])⟩
          rcases sa with z | z
          · exact z.2
          · exact nomatch z.1
        · exact p.elim
      · exact p.elim
    · exact p.elim
  · exact p.elim
end
end Mi
namespace Mi
open PySem L2
section
variable {G : Cw} {X : Cx} {W : WX} {pos : Pos} {μ : List Addr} {H : Hp} {h : DH}
theorem nil_args {σ : L2.St} {H : Hp} {Q : List V → Hp → Prop} (h : tA G W aNil σ H Q) : Q [] H := by
  obtain ⟨μ, ds, h, w, rs, p⟩ := h
  exact post_ok p w RVs.nil
/-- keys and values of a display -/
inductive PD (G : Cw) (X : Cx) (W : WX) : List (Option Expr) → List Expr → List (Key × EM) → Prop where
  | nil : PD G X W [] [] []
  | cons {ek ev : Expr} {k : Key} {d : D} {m : EM} {ks : List (Option Expr)} {vs : List Expr} {r : List (Key × EM)} (hd : keyD d = some k) (hk : PE X ek (tE G W (mC d))) (hv : PE X ev (tE G W m)) (h : PD G X W ks vs r) : PD G X W (some ek :: ks) (ev :: vs) ((k, m) :: r)
end
end Mi
namespace Mi
open PySem L2
/-- what can be shown: plain, not too deep, not too long -/
def shw (d : PyData) : Bool := d.canLay0 && (d.showable && (decide (d.depth ≤ 140) && decide (d.shown.length ≤ 16777216)))
end Mi
namespace Mi
open PySem
open L2 hiding FnOk Room fn_of run_fnS run_fnSD pe_callS pe_callSD pe_make
section
variable {κ : Type} [DecidableEq κ]
def lookT {α : Type} (kvs : List (κ × α)) (k : κ) : Option α := (kvs.find? fun kv => decide (kv.1 = k)).map (·.2)
end
end Mi
namespace L2
open PySem PySem.Spec PyProof.Rows
end L2
namespace Mi
open PySem
open L2 hiding FnOk Room fn_of run_fnS run_fnSD pe_callS pe_callSD pe_make
end Mi
namespace Mi
open PySem L2
def SatE {α : Type} (r : Res α) (P : α → DH → Prop) : Prop := match r with | .ok a h => P a h | _ => False
/-- next and continue, break, return -/
def SatL (r : RS) (C B : DSt → DH → Prop) (R : D → DH → Prop) : Prop := match r with | .nx s h => C s h | .ct s h => C s h | .bk s h => B s h | .rt d h => R d h | _ => False
abbrev NoB : DSt → DH → Prop := fun _ _ => False
section
variable {α β : Type} {P : α → DH → Prop} {C B : DSt → DH → Prop} {R : D → DH → Prop} {ds : DSt} {h : DH}
theorem satE_ok {a : α} : SatE (.ok a h) P ↔ P a h := Iff.rfl
theorem SatE.of_eq {r : Res α} {a : α} (e : r = .ok a h) (p : P a h) : SatE r P := by rw [e]; exact p
theorem SatE.imp {r : Res α} {Q : α → DH → Prop} (s : SatE r P) (k : ∀ a h, P a h → Q a h) : SatE r Q := by
  cases r with
  | ok a h => exact k a h s
  | exc e h => exact s
  | no => exact s
theorem SatE.eq {r : Res α} (s : SatE r P) : ∃ a h, r = .ok a h ∧ P a h := by
  cases r with
  | ok a h => exact ⟨a, h, rfl, s⟩
  | exc e h => exact s.elim
  | no => exact s.elim
theorem SatL.imp {r : RS} {C' B' : DSt → DH → Prop} {R' : D → DH → Prop} (s : SatL r C B R) (k : ∀ a h, C a h → C' a h) (kb : ∀ a h, B a h → B' a h) (kr : ∀ a h, R a h → R' a h) : SatL r C' B' R' := by
  cases r with
  | nx a h => exact k a h s
  | ct a h => exact k a h s
  | bk a h => exact kb a h s
  | rt a h => exact kr a h s
  | exc e s' h => exact s
  | no => exact s
theorem satE_bind {Q : β → DH → Prop} {r : Res α} {f : α → DH → Res β} : SatE (r.bind f) Q ↔ SatE r fun a h => SatE (f a h) Q := by
  cases r <;> exact Iff.rfl
theorem satE_ite {c : Prop} [Decidable c] {r : Res α} : SatE (if c then r else .no) P ↔ c ∧ SatE r P := by
  by_cases q : c
  · rw [if_pos q]; exact ⟨fun x => ⟨q, x⟩, fun x => x.2⟩
  · rw [if_neg q]; exact ⟨fun x => x.elim, fun x => q x.1⟩
variable {PD : D → DH → Prop} {PB : Bool → DH → Prop} {PL : List D → DH → Prop} {PO : Option Int → DH → Prop}
theorem w_op {f : D → D → DH → Res D} {a b : EM} : SatE (mOp f a b ds h) PD ↔ SatE (a ds h) fun x h1 => SatE (b ds h1) fun y h2 => SatE (f x y h2) PD := by
  unfold mOp
  rw [satE_bind]
  simp only [satE_bind]
theorem w_un {f : D → DH → Res D} {a : EM} : SatE (mUn f a ds h) PD ↔ SatE (a ds h) fun x h1 => SatE (f x h1) PD := satE_bind
theorem w_nil : SatE (aNil ds h) PL ↔ PL [] h := Iff.rfl
theorem w_cons {a : EM} {r : AM} : SatE (aCons a r ds h) PL ↔ SatE (a ds h) fun x h1 => SatE (r ds h1) fun xs h2 => PL (x :: xs) h2 := by
  unfold aCons
  rw [satE_bind]
  simp only [satE_bind, satE_ok]
theorem w_tup {a : AM} : SatE (mTup a ds h) PD ↔ SatE (a ds h) fun xs h1 => xs.length ≤ 16777216 ∧ PD (.tup xs) h1 := by
  unfold mTup
  rw [satE_bind]
  simp only [satE_ite, satE_ok]
theorem w_lst {a : AM} : SatE (mLst a ds h) PD ↔ SatE (a ds h) fun xs h1 => xs.length ≤ 16777216 ∧ PD (.ref h1.length) (h1 ++ [.lst xs]) := by
  unfold mLst
  rw [satE_bind]
  simp only [satE_ite, satE_ok]
theorem w_cb {f : List D → DH → Res D} {a : AM} : SatE (mCB f a ds h) PD ↔ SatE (a ds h) fun xs h1 => SatE (f xs h1) PD := satE_bind
theorem w_test {a : EM} : SatE (mTest a ds h) PB ↔ SatE (a ds h) fun x h1 => ∃ b, x = .bl b ∧ PB b h1 := by
  unfold mTest
  rw [satE_bind]
  cases a ds h with
  | ok x h1 =>
    show SatE (match x with | .bl b => .ok b h1 | _ => .no) PB ↔ ∃ b, x = .bl b ∧ PB b h1
    cases x with
    | bl b => exact ⟨fun p => ⟨b, rfl, p⟩, fun ⟨c, e, p⟩ => by cases e; exact p⟩
    | _ => exact ⟨fun p => p.elim, fun ⟨c, e, p⟩ => by cases e⟩
  | exc e h => exact Iff.rfl
  | no => exact Iff.rfl
theorem w_not {t : TM} : SatE (mNot t ds h) PB ↔ SatE (t ds h) fun b h1 => PB (!b) h1 := by
  unfold mNot; rw [satE_bind]; exact Iff.rfl
theorem w_and {t u : TM} : SatE (mAnd t u ds h) PB ↔ SatE (t ds h) fun b h1 => if b then SatE (u ds h1) PB else PB false h1 := by
  unfold mAnd
  rw [satE_bind]
  cases t ds h with
  | ok b h1 => cases b <;> exact Iff.rfl
  | exc e h => exact Iff.rfl
  | no => exact Iff.rfl
theorem w_or {t u : TM} : SatE (mOr t u ds h) PB ↔ SatE (t ds h) fun b h1 => if b then PB true h1 else SatE (u ds h1) PB := by
  unfold mOr
  rw [satE_bind]
  cases t ds h with
  | ok b h1 => cases b <;> exact Iff.rfl
  | exc e h => exact Iff.rfl
  | no => exact Iff.rfl
theorem w_notV {a : EM} : SatE (mNotV a ds h) PD ↔ SatE (a ds h) fun x h1 => ∃ b, x = .bl b ∧ PD (.bl (!b)) h1 := by
  unfold mNotV
  rw [satE_bind]
  cases a ds h with
  | ok x h1 =>
    cases x with
    | bl b => exact ⟨fun p => ⟨b, rfl, p⟩, fun ⟨c, e, p⟩ => by cases e; exact p⟩
    | _ => exact ⟨fun p => p.elim, fun ⟨c, e, p⟩ => by cases e⟩
  | exc e h => exact Iff.rfl
  | no => exact Iff.rfl
theorem w_andV {a b : EM} : SatE (mAndV a b ds h) PD ↔ SatE (a ds h) fun x h1 => ∃ c, x = .bl c ∧ if c then SatE (b ds h1) PD else PD (.bl false) h1 := by
  unfold mAndV
  rw [satE_bind]
  cases a ds h with
  | ok x h1 =>
    cases x with
    | bl c => cases c <;> exact ⟨fun p => ⟨_, rfl, p⟩, fun ⟨d, e, p⟩ => by cases e; exact p⟩
    | _ => exact ⟨fun p => p.elim, fun ⟨c, e, p⟩ => by cases e⟩
  | exc e h => exact Iff.rfl
  | no => exact Iff.rfl
theorem w_orV {a b : EM} : SatE (mOrV a b ds h) PD ↔ SatE (a ds h) fun x h1 => ∃ c, x = .bl c ∧ if c then PD (.bl true) h1 else SatE (b ds h1) PD := by
  unfold mOrV
  rw [satE_bind]
  cases a ds h with
  | ok x h1 =>
    cases x with
    | bl c => cases c <;> exact ⟨fun p => ⟨_, rfl, p⟩, fun ⟨d, e, p⟩ => by cases e; exact p⟩
    | _ => exact ⟨fun p => p.elim, fun ⟨c, e, p⟩ => by cases e⟩
  | exc e h => exact Iff.rfl
  | no => exact Iff.rfl
theorem w_oS {a : EM} : SatE (oSome a ds h) PO ↔ SatE (a ds h) fun x h1 => ∃ i, x = .int i ∧ PO (some i) h1 := by
  unfold oSome
  rw [satE_bind]
  cases a ds h with
  | ok x h1 =>
    cases x with
    | int i => exact ⟨fun p => ⟨i, rfl, p⟩, fun ⟨c, e, p⟩ => by cases e; exact p⟩
    | _ => exact ⟨fun p => p.elim, fun ⟨c, e, p⟩ => by cases e⟩
  | exc e h => exact Iff.rfl
  | no => exact Iff.rfl
theorem w_sl {f : D → Option Int → Option Int → DH → Res D} {a : EM} {lo hi : DSt → DH → Res (Option Int)} : SatE (mSl f a lo hi ds h) PD ↔ SatE (a ds h) fun x h1 => SatE (lo ds h1) fun l h2 => SatE (hi ds h2) fun u h3 => SatE (f x l u h3) PD := by
  unfold mSl
  rw [satE_bind]
  simp only [satE_bind]
theorem w_mt {T : String} {f : D → List D → DH → Res D} {o : EM} {a : AM} : SatE (mMt T f o a ds h) PD ↔ SatE (o ds h) fun x h1 => isTy T x h1 = true ∧ SatE (a ds h1) fun xs h2 => SatE (f x xs h2) PD := by
  unfold mMt
  rw [satE_bind]
  simp only [satE_ite, satE_bind]
theorem w_isi {T : Ty} {a : EM} : SatE (mIsi T a ds h) PD ↔ SatE (a ds h) fun x h1 => ∃ S, tyD x h1 = some S ∧ PD (.bl (subTy S T)) h1 := by
  unfold mIsi
  rw [satE_bind]
  cases a ds h with
  | ok x h1 =>
    show SatE (match tyD x h1 with | some S => .ok (.bl (subTy S T)) h1 | none => .no) PD ↔ _
    cases q : tyD x h1 with
    | none => exact ⟨fun p => p.elim, fun ⟨S, e, p⟩ => by rw [q] at e; cases e⟩
    | some S => exact ⟨fun p => ⟨S, q, p⟩, fun ⟨S', e, p⟩ => by rw [q] at e; cases e; exact p⟩
  | exc e h => exact Iff.rfl
  | no => exact Iff.rfl
/-- a sequence, where the first part neither breaks nor goes on with the next turn -/
def SatN (r : RS) (N : DSt → DH → Prop) (C B : DSt → DH → Prop) (R : D → DH → Prop) : Prop := match r with | .nx s h => N s h | .ct s h => C s h | .bk s h => B s h | .rt d h => R d h | _ => False
variable {N : DSt → DH → Prop}
theorem SatN.imp {r : RS} {N' C' B' : DSt → DH → Prop} {R' : D → DH → Prop} (s : SatN r N C B R) (kn : ∀ a h, N a h → N' a h) (k : ∀ a h, C a h → C' a h) (kb : ∀ a h, B a h → B' a h) (kr : ∀ a h, R a h → R' a h) : SatN r N' C' B' R' := by
  cases r with
  | nx a h => exact kn a h s
  | ct a h => exact k a h s
  | bk a h => exact kb a h s
  | rt a h => exact kr a h s
  | exc e s' h => exact s
  | no => exact s
/-- a def -/
theorem w_def {ar n : Nat} {b : SM} {xs : List D} (hl : xs.length = ar) (s : SatN (b (xs.map some ++ List.replicate (n - xs.length) none) h) (fun _ h' => PD .non h') NoB NoB PD) : SatE (runF ar n b xs h) PD := by
  unfold runF runB
  rw [if_pos hl]
  cases q : b (xs.map some ++ List.replicate (n - xs.length) none) h with
  | nx ds' h' => rw [q] at s; exact s
  | rt d h' => rw [q] at s; exact s
  | ct ds' h' => rw [q] at s; exact s.elim
  | bk ds' h' => rw [q] at s; exact s.elim
  | exc e ds' h' => rw [q] at s; exact s.elim
  | no => rw [q] at s; exact s.elim
theorem w_r1 {e : EM} {P : Itd → DH → Prop} : SatE (iR1 e ds h) P ↔ SatE (e ds h) fun d h1 => ∃ j, d = .int j ∧ (-(2 ^ 62) ≤ j ∧ j < 2 ^ 62) ∧ P (.rng 0 j.toNat) h1 := by
  unfold iR1
  rw [satE_bind]
  cases e ds h with
  | ok d h1 =>
    cases d with
    | int j =>
      show SatE (if -(2 ^ 62) ≤ j ∧ j < 2 ^ 62 then Res.ok (Itd.rng 0 j.toNat) h1 else .no) P ↔ _
      rw [satE_ite]
      exact ⟨fun p => ⟨j, rfl, p.1, p.2⟩, fun ⟨i, e, p1, p2⟩ => by cases e; exact ⟨p1, p2⟩⟩
    | _ => exact ⟨fun p => p.elim, fun ⟨c, e, p⟩ => by cases e⟩
  | exc e h => exact Iff.rfl
  | no => exact Iff.rfl
def Keep (h h' : DH) : Prop := ∀ (n : Nat) o, h[n]? = some o → h'[n]? = some o
theorem Keep.refl (h : DH) : Keep h h := fun _ _ e => e
theorem Keep.trans {h1 h2 h3 : DH} (a : Keep h1 h2) (b : Keep h2 h3) : Keep h1 h3 := fun n o e => b n o (a n o e)
theorem Keep.app (h l : DH) : Keep h (h ++ l) := fun n o e => by
  rw [List.getElem?_append_left (List.getElem?_eq_some_iff.mp e).1]; exact e
theorem Keep.len {h h' : DH} (k : Keep h h') : h.length ≤ h'.length := by
  cases hl : h.length with
  | zero => exact Nat.zero_le _
  | succ n =>
    have : n < h.length := by omega
    have q := k n h[n] (by simp [this])
    have := (List.getElem?_eq_some_iff.mp q).1
    omega
theorem Keep.set {h h' : DH} (k : Keep h h') {n : Nat} {o : DO} (hn : h.length ≤ n) : Keep h (h'.set n o) := fun m u e => by
  have : m < h.length := (List.getElem?_eq_some_iff.mp e).1
  rw [List.getElem?_set_ne (by omega)]
  exact k m u e
theorem set_same {h : DH} {n : Nat} {o u : DO} (e : h[n]? = some u) : (h.set n o)[n]? = some o := by
  rw [List.getElem?_set_self (List.getElem?_eq_some_iff.mp e).1]
theorem items_lst {h : DH} {n : Nat} {xs : List D} (e : h[n]? = some (.lst xs)) : itemsD (.ref n) h = some xs := by simp only [itemsD, e]
theorem w_lc {mi : IM} {j : Nat} {t : TM} {e : EM} {vs : List Nat} : SatE (mLc mi j t e vs ds h) PD ↔ SatE (mi ds h) fun it h1 => SatE (lcN it j t e h1.length (wipeD ds vs) (it.len h1 + 1) 0 (h1 ++ [.lst []])) PD := by unfold mLc; exact satE_bind
section
variable {i j : Int} {a b : Str} {p q : Bool}
theorem addD_ss : addD (.str a) (.str b) h = if a.length + b.length ≤ 16777216 then .ok (.str (a ++ b)) h else .no := rfl
theorem mulD_ii : mulD (.int i) (.int j) h = if mulC i j then .ok (.int (i * j)) h else .no := rfl
theorem mulD_si : mulD (.str a) (.int j) h = if 0 ≤ j ∧ j ≤ 1000 ∧ a.length ≤ 10000 then .ok (.str (strRep a j.toNat)) h else .no := rfl
theorem fdivD_ii : fdivD (.int i) (.int j) h = if 0 < j ∧ j < 1073741824 then .ok (.int (i / j)) h else .no := rfl
theorem modD_ii : modD (.int i) (.int j) h = if 0 < j then .ok (.int (i % j)) h else .no := rfl
theorem powD_ii : powD (.int i) (.int j) h = if 0 ≤ j ∧ j ≤ 1000000 ∧ i.natAbs < 2 ^ 64 then .ok (.int (i ^ j.toNat)) h else .no := rfl
end
/-- all but one object is kept -/
def Fr (s : Nat) (h h' : DH) : Prop := ∀ (n : Nat) o, n ≠ s → h[n]? = some o → h'[n]? = some o
theorem Fr.refl (s : Nat) (h : DH) : Fr s h h := fun _ _ _ e => e
theorem Fr.trans {s : Nat} {h1 h2 h3 : DH} (a : Fr s h1 h2) (b : Fr s h2 h3) : Fr s h1 h3 := fun n o z e => b n o z (a n o z e)
theorem Keep.fr {h h' : DH} (k : Keep h h') (s : Nat) : Fr s h h' := fun n o _ e => k n o e
theorem Fr.set {s : Nat} {h h' : DH} (f : Fr s h h') (o : DO) : Fr s h (h'.set s o) := fun n u z e => by
  rw [List.getElem?_set_ne (Ne.symm z)]
  exact f n u z e
theorem Fr.keep {s : Nat} {h0 h h' : DH} (f : Fr s h h') (k : Keep h0 h) (l : h0.length ≤ s) : Keep h0 h' := fun n o e => by
  have : n < h0.length := (List.getElem?_eq_some_iff.mp e).1
  exact f n o (by omega) (k n o e)
theorem lt_of_get {h : DH} {n : Nat} {o : DO} (e : h[n]? = some o) : n < h.length := (List.getElem?_eq_some_iff.mp e).1
theorem isTy_lst {n : Nat} {xs : List D} (e : h[n]? = some (.lst xs)) : isTy "list" (.ref n) h = true := by simp only [isTy, e]; rfl
theorem w_len {d : D} {zs : List D} (e : itemsD d h = some zs) : SatE (lenD [d] h) PD ↔ PD (.int zs.length) h := by
  cases d with
  | str z => cases e
  | tup xs => cases e; exact Iff.rfl
  | ref n => simp only [lenD, e]; exact Iff.rfl
  | _ => cases e
theorem w_ixs {d x : D} {zs : List D} {i : Int} (e : itemsD d h = some zs) (e2 : atI zs i = some x) : SatE (ixD d (.int i) h) PD ↔ PD x h := by
  cases d with
  | str z => cases e
  | tup xs => cases e; simp only [ixD, itemsD, e2]; exact Iff.rfl
  | ref n => simp only [ixD, e, e2]; exact Iff.rfl
  | _ => cases e
theorem atI_pos {α : Type} {xs : List α} {i : Int} {d : α} (h0 : 0 ≤ i) (h : xs[i.toNat]? = some d) : atI xs i = some d := by
  have e : (i.toNat : Int) = i := by omega
  have q := L2.atI_nat h
  rw [e] at q
  exact q
theorem w_add_lst {m n : Nat} {xs ys : List D} (e1 : h[m]? = some (.lst xs)) (e2 : h[n]? = some (.lst ys)) : SatE (addD (.ref m) (.ref n) h) PD ↔ xs.length + ys.length ≤ 16777216 ∧ PD (.ref h.length) (h ++ [.lst (xs ++ ys)]) := by
  simp only [addD, e1, e2]
  exact satE_ite
/-- a condition told -/
theorem w_ifE {c : Bool} {A B : Prop} (h1 : c = true → A) (h2 : c = false → B) : if c = true then A else B := by
  cases c with
  | true => exact h1 rfl
  | false => exact h2 rfl
theorem mulC_r {i j : Int} (h : -(2 ^ 64) < j ∧ j < 2 ^ 64) : mulC i j = True := eq_true (.inr h)
theorem atI_0 {α : Type} {x : α} {r : List α} : atI (x :: r) 0 = some x := atI_pos (by decide) rfl
theorem atI_1 {α : Type} {x y : α} {r : List α} : atI (x :: y :: r) 1 = some y := atI_pos (by decide) rfl
theorem atI_2 {α : Type} {x y z : α} {r : List α} : atI (x :: y :: z :: r) 2 = some z := atI_pos (by decide) rfl
theorem tyT {z : List D} : tyD (.tup z) h = some .tuple := rfl
end
end Mi
namespace Fu
open PySem L2 Mi
inductive T where
  | non | bl (b : Bool) | int (i : Int) | str (s : Str) | tup (xs : List T) | lst (xs : List T) | fro (xs : List T) | dic (kvs : List (Key × T)) | obj (c : Nat) (fs : List (Str × T)) | dit (ks : List (List Key)) (vs : List T)
  deriving Inhabited
mutual
def Val (A : Nat → Prop) (h : DH) : T → D → Prop
  | .non, d => d = .non
  | .bl b, d => d = .bl b
  | .int i, d => d = .int i
  | .str s, d => d = .str s
  | .tup ts, d => ∃ xs, d = .tup xs ∧ Vals A h ts xs
  | .lst ts, d => ∃ n xs, d = .ref n ∧ A n ∧ h[n]? = some (.lst xs) ∧ Vals A h ts xs
  | .fro ts, d => ∃ n xs, d = .ref n ∧ A n ∧ h[n]? = some (.fro xs) ∧ Vals A h ts xs
  | .dic ks, d => ∃ n ws, d = .ref n ∧ A n ∧ h[n]? = some (.dK ws) ∧ ValsK A h ks ws
  | .obj c fs, d => ∃ n ws, d = .ref n ∧ A n ∧ h[n]? = some (.ins c ws) ∧ ValsO A h fs ws
  | .dit ks vs, d => ∃ n ws, d = .ref n ∧ A n ∧ h[n]? = some (.dT ws) ∧ ∃ xs, ws = ks.zip xs ∧ xs.length = ks.length ∧ Vals A h vs xs
def Vals (A : Nat → Prop) (h : DH) : List T → List D → Prop
  | [], xs => xs = []
  | t :: ts, xs => ∃ d ds, xs = d :: ds ∧ Val A h t d ∧ Vals A h ts ds
def ValsK (A : Nat → Prop) (h : DH) : List (Key × T) → List (Key × D) → Prop
  | [], ws => ws = []
  | p :: ps, ws => ∃ d ds, ws = (p.1, d) :: ds ∧ Val A h p.2 d ∧ ValsK A h ps ds
def ValsO (A : Nat → Prop) (h : DH) : List (Str × T) → List (Str × D) → Prop
  | [], ws => ws = []
  | p :: ps, ws => ∃ d ds, ws = (p.1, d) :: ds ∧ Val A h p.2 d ∧ ValsO A h ps ds
end
section
variable {A B : Nat → Prop} {h h' : DH}
/-- what may be reached is kept -/
def KeepIn (A : Nat → Prop) (h h' : DH) : Prop := ∀ (m : Nat) o, A m → h[m]? = some o → h'[m]? = some o
theorem KeepIn.refl (A : Nat → Prop) (h : DH) : KeepIn A h h := fun _ _ _ e => e
theorem _root_.Mi.Keep.kin (k : Keep h h') (A : Nat → Prop) : KeepIn A h h' := fun m o _ e => k m o e
mutual
theorem Val.mono (hA : ∀ m, A m → m < h.length → B m) (k : KeepIn A h h') : ∀ (t : T) (d : D), Val A h t d → Val B h' t d
  | .non, d, r => by simp only [Val] at r ⊢; exact r
  | .bl b, d, r => by simp only [Val] at r ⊢; exact r
  | .int i, d, r => by simp only [Val] at r ⊢; exact r
  | .str s, d, r => by simp only [Val] at r ⊢; exact r
  | .tup ts, d, r => by
    simp only [Val] at r ⊢
    obtain ⟨xs, e, r⟩ := r
    exact ⟨xs, e, Vals.mono hA k ts xs r⟩
  | .lst ts, d, r => by
    simp only [Val] at r ⊢
    obtain ⟨n, xs, e, a, q, r⟩ := r
    exact ⟨n, xs, e, hA n a (lt_of_get q), k n _ a q, Vals.mono hA k ts xs r⟩
  | .fro ts, d, r => by
    simp only [Val] at r ⊢
    obtain ⟨n, xs, e, a, q, r⟩ := r
    exact ⟨n, xs, e, hA n a (lt_of_get q), k n _ a q, Vals.mono hA k ts xs r⟩
  | .dic ks, d, r => by
    simp only [Val] at r ⊢
    obtain ⟨n, xs, e, a, q, r⟩ := r
    exact ⟨n, xs, e, hA n a (lt_of_get q), k n _ a q, ValsK.mono hA k ks xs r⟩
  | .obj c fs, d, r => by
    simp only [Val] at r ⊢
    obtain ⟨n, xs, e, a, q, r⟩ := r
    exact ⟨n, xs, e, hA n a (lt_of_get q), k n _ a q, ValsO.mono hA k fs xs r⟩
  | .dit ks vs, d, r => by
    simp only [Val] at r ⊢
    obtain ⟨n, ws, e, a, q, xs, e2, l, r⟩ := r
    exact ⟨n, ws, e, hA n a (lt_of_get q), k n _ a q, xs, e2, l, Vals.mono hA k vs xs r⟩
theorem Vals.mono (hA : ∀ m, A m → m < h.length → B m) (k : KeepIn A h h') : ∀ (ts : List T) (xs : List D), Vals A h ts xs → Vals B h' ts xs
  | [], xs, r => by simp only [Vals] at r ⊢; exact r
  | t :: ts, xs, r => by
    simp only [Vals] at r ⊢
    obtain ⟨d, ds, e, r1, r2⟩ := r
    exact ⟨d, ds, e, Val.mono hA k t d r1, Vals.mono hA k ts ds r2⟩
theorem ValsK.mono (hA : ∀ m, A m → m < h.length → B m) (k : KeepIn A h h') : ∀ (ts : List (Key × T)) (xs : List (Key × D)), ValsK A h ts xs → ValsK B h' ts xs
  | [], xs, r => by simp only [ValsK] at r ⊢; exact r
  | p :: ts, xs, r => by
    simp only [ValsK] at r ⊢
    obtain ⟨d, ds, e, r1, r2⟩ := r
    exact ⟨d, ds, e, Val.mono hA k p.2 d r1, ValsK.mono hA k ts ds r2⟩
theorem ValsO.mono (hA : ∀ m, A m → m < h.length → B m) (k : KeepIn A h h') : ∀ (ts : List (Str × T)) (xs : List (Str × D)), ValsO A h ts xs → ValsO B h' ts xs
  | [], xs, r => by simp only [ValsO] at r ⊢; exact r
  | p :: ts, xs, r => by
    simp only [ValsO] at r ⊢
    obtain ⟨d, ds, e, r1, r2⟩ := r
    exact ⟨d, ds, e, Val.mono hA k p.2 d r1, ValsO.mono hA k ts ds r2⟩
end
theorem Val.keep {t : T} {d : D} (r : Val A h t d) (k : Keep h h') : Val A h' t d := Val.mono (fun _ a _ => a) (k.kin A) t d r
theorem Vals.keep {t : List T} {d : List D} (r : Vals A h t d) (k : Keep h h') : Vals A h' t d := Vals.mono (fun _ a _ => a) (k.kin A) t d r
theorem Val.sub {t : T} {d : D} (r : Val A h t d) (s : ∀ m, A m → m < h.length → B m) : Val B h t d := Val.mono s (KeepIn.refl A h) t d r
theorem Vals.sub {t : List T} {d : List D} (r : Vals A h t d) (s : ∀ m, A m → m < h.length → B m) : Vals B h t d := Vals.mono s (KeepIn.refl A h) t d r
theorem Vals.nil : Vals A h [] [] := by simp only [Vals]
theorem Vals.cons {t : T} {ts : List T} {d : D} {ds : List D} (r : Val A h t d) (s : Vals A h ts ds) : Vals A h (t :: ts) (d :: ds) := by simp only [Vals]; exact ⟨d, ds, rfl, r, s⟩
theorem Vals.length : ∀ {ts : List T} {ds : List D}, Vals A h ts ds → ds.length = ts.length
  | [], ds, r => by simp only [Vals] at r; rw [r]; rfl
  | t :: ts, ds, r => by
    simp only [Vals] at r
    obtain ⟨d, ds, rfl, _, r⟩ := r
    rw [List.length_cons, List.length_cons, Vals.length r]
theorem Vals.get : ∀ {ts : List T} {ds : List D} {i : Nat} {t : T}, Vals A h ts ds → ts[i]? = some t → ∃ d, ds[i]? = some d ∧ Val A h t d
  | [], ds, i, t, r, e => by simp at e
  | t :: ts, ds, 0, u, r, e => by
    simp only [Vals] at r
    obtain ⟨d, ds, rfl, r, _⟩ := r
    simp at e; subst e
    exact ⟨d, rfl, r⟩
  | t :: ts, ds, i + 1, u, r, e => by
    simp only [Vals] at r
    obtain ⟨d, ds, rfl, _, r⟩ := r
    obtain ⟨x, h1, h2⟩ := Vals.get (i := i) r (by simpa using e)
    exact ⟨x, by simpa using h1, h2⟩
theorem Vals.append : ∀ {ts us : List T} {ds es : List D}, Vals A h ts ds → Vals A h us es → Vals A h (ts ++ us) (ds ++ es)
  | [], us, ds, es, r, s => by simp only [Vals] at r; rw [r]; exact s
  | t :: ts, us, ds, es, r, s => by
    simp only [Vals] at r
    obtain ⟨d, ds, rfl, r1, r⟩ := r
    exact Vals.cons r1 (Vals.append r s)
theorem Vals.take : ∀ {ts : List T} {ds : List D} (n : Nat), Vals A h ts ds → Vals A h (ts.take n) (ds.take n)
  | ts, ds, 0, r => by simp only [List.take_zero]; exact Vals.nil
  | [], ds, n + 1, r => by simp only [Vals] at r; rw [r]; simp only [List.take_nil]; exact Vals.nil
  | t :: ts, ds, n + 1, r => by
    simp only [Vals] at r
    obtain ⟨d, ds, rfl, r1, r⟩ := r
    exact Vals.cons r1 (Vals.take n r)
theorem Vals.drop : ∀ {ts : List T} {ds : List D} (n : Nat), Vals A h ts ds → Vals A h (ts.drop n) (ds.drop n)
  | ts, ds, 0, r => r
  | [], ds, n + 1, r => by simp only [Vals] at r; rw [r]; simp only [List.drop_nil]; exact Vals.nil
  | t :: ts, ds, n + 1, r => by
    simp only [Vals] at r
    obtain ⟨d, ds, rfl, r1, r⟩ := r
    exact Vals.drop n r
theorem Vals.set {t : T} {d : D} (r0 : Val A h t d) : ∀ {ts : List T} {ds : List D} (n : Nat), Vals A h ts ds → Vals A h (ts.set n t) (ds.set n d)
  | [], ds, n, r => by simp only [Vals] at r; rw [r]; simp only [List.set_nil]; exact Vals.nil
  | t :: ts, ds, 0, r => by
    simp only [Vals] at r
    obtain ⟨d, ds, rfl, r1, r⟩ := r
    exact Vals.cons r0 r
  | t :: ts, ds, n + 1, r => by
    simp only [Vals] at r
    obtain ⟨d, ds, rfl, r1, r⟩ := r
    exact Vals.cons r1 (Vals.set r0 n r)
theorem Vals.reverse : ∀ {ts : List T} {ds : List D}, Vals A h ts ds → Vals A h ts.reverse ds.reverse
  | [], ds, r => by simp only [Vals] at r; rw [r]; exact Vals.nil
  | t :: ts, ds, r => by
    simp only [Vals] at r
    obtain ⟨d, ds, rfl, r1, r⟩ := r
    rw [List.reverse_cons, List.reverse_cons]
    exact Vals.append (Vals.reverse r) (Vals.cons r1 Vals.nil)
theorem Vals.rep : ∀ {ts : List T} {ds : List D} (n : Nat), Vals A h ts ds → Vals A h (List.replicate n ts).flatten (List.replicate n ds).flatten
  | ts, ds, 0, r => Vals.nil
  | ts, ds, n + 1, r => by
    rw [List.replicate_succ, List.replicate_succ, List.flatten_cons, List.flatten_cons]
    exact Vals.append r (Vals.rep n r)
theorem Vals.ints {ns : List Int} : Vals A h (ns.map T.int) (ns.map D.int) := by
  induction ns with
  | nil => exact Vals.nil
  | cons n r ih => exact Vals.cons (by simp only [Val]) ih
end
inductive Sh where
  | s | l (e : Sh) | d (e : Sh) | m (e : Sh) | t (es : List Sh) | o (c : Nat) (ns : List Str) (es : List Sh) | k
def OdL (P : T → D → List Nat → Prop) : List T → List D → List Nat → Prop
  | [], xs, S => xs = [] ∧ S = []
  | t :: ts, xs, S => ∃ d ds S1 S2, xs = d :: ds ∧ S = S1 ++ S2 ∧ P t d S1 ∧ OdL P ts ds S2
mutual
def Od (A : Nat → Prop) (h : DH) : Sh → T → D → List Nat → Prop
  | .s, t, d, S => S = [] ∧ Val A h t d
  | .l e, t, d, S => ∃ ts n xs S', t = .lst ts ∧ d = .ref n ∧ S = n :: S' ∧ h[n]? = some (.lst xs) ∧ OdL (Od A h e) ts xs S'
  | .d e, t, d, S => ∃ ks n ws S', t = .dic ks ∧ d = .ref n ∧ S = n :: S' ∧ h[n]? = some (.dK ws) ∧ ks.map (·.1) = ws.map (·.1) ∧ OdL (Od A h e) (ks.map (·.2)) (ws.map (·.2)) S'
  | .m e, t, d, S => (S = [] ∧ t = .non ∧ d = .non) ∨ Od A h e t d S
  | .t es, t, d, S => ∃ ts xs, t = .tup ts ∧ d = .tup xs ∧ OdT A h es ts xs S
  | .o c ns es, t, d, S => ∃ gs n ws S', t = .obj c gs ∧ d = .ref n ∧ S = n :: S' ∧ h[n]? = some (.ins c ws) ∧ gs.map (·.1) = ns ∧ ws.map (·.1) = ns ∧ OdT A h es (gs.map (·.2)) (ws.map (·.2)) S'
  | .k, t, d, S => ∃ ks vs n xs, t = .dit ks vs ∧ d = .ref n ∧ S = [n] ∧ h[n]? = some (.dT (ks.zip xs)) ∧ xs.length = ks.length ∧ Vals A h vs xs
def OdT (A : Nat → Prop) (h : DH) : List Sh → List T → List D → List Nat → Prop
  | [], ts, xs, S => ts = [] ∧ xs = [] ∧ S = []
  | e :: es, ts, xs, S => ∃ t ts' d ds S1 S2, ts = t :: ts' ∧ xs = d :: ds ∧ S = S1 ++ S2 ∧ Od A h e t d S1 ∧ OdT A h es ts' ds S2
end
def KeepS (S : List Nat) (h h' : DH) : Prop := ∀ m ∈ S, ∀ o, h[m]? = some o → h'[m]? = some o
section
variable {A B : Nat → Prop} {h h' : DH}
theorem KeepS.refl (S : List Nat) (h : DH) : KeepS S h h := fun _ _ _ e => e
theorem _root_.Mi.Keep.kS (k : Keep h h') (S : List Nat) : KeepS S h h' := fun m _ o e => k m o e
theorem KeepS.sub {S S' : List Nat} (k : KeepS S h h') (s : ∀ m ∈ S', m ∈ S) : KeepS S' h h' := fun m hm => k m (s m hm)
theorem OdL.imp {P Q : T → D → List Nat → Prop} : ∀ {ts : List T} {xs : List D} {S : List Nat}, (∀ t d U, (∀ m ∈ U, m ∈ S) → P t d U → Q t d U) → OdL P ts xs S → OdL Q ts xs S
  | [], xs, S, _, r => r
  | t :: ts, xs, S, k, ⟨d, ds, S1, S2, e1, e2, r1, r2⟩ => ⟨d, ds, S1, S2, e1, e2, k t d S1 (fun m hm => by rw [e2]; exact List.mem_append_left _ hm) r1, OdL.imp (fun t d U hU => k t d U fun m hm => by rw [e2]; exact List.mem_append_right _ (hU m hm)) r2⟩
mutual
theorem Od.mono (hA : ∀ m, A m → m < h.length → B m) (k : KeepIn A h h') : ∀ (sh : Sh) (t : T) (d : D) (S : List Nat), KeepS S h h' → Od A h sh t d S → Od B h' sh t d S
  | .s, t, d, S, ks, r => by
    simp only [Od] at r ⊢
    exact ⟨r.1, Val.mono hA k t d r.2⟩
  | .l e, t, d, S, ks, r => by
    simp only [Od] at r ⊢
    obtain ⟨ts, n, xs, S', e1, e2, e3, q, r⟩ := r
    exact ⟨ts, n, xs, S', e1, e2, e3, ks n (by rw [e3]; exact List.mem_cons_self) _ q, OdL.imp (fun t d U hU p => Od.mono hA k e t d U (ks.sub fun m hm => by rw [e3]; exact List.mem_cons_of_mem _ (hU m hm)) p) r⟩
  | .d e, t, d, S, ks, r => by
    simp only [Od] at r ⊢
    obtain ⟨ts, n, xs, S', e1, e2, e3, q, q2, r⟩ := r
    exact ⟨ts, n, xs, S', e1, e2, e3, ks n (by rw [e3]; exact List.mem_cons_self) _ q, q2, OdL.imp (fun t d U hU p => Od.mono hA k e t d U (ks.sub fun m hm => by rw [e3]; exact List.mem_cons_of_mem _ (hU m hm)) p) r⟩
  | .m e, t, d, S, ks, r => by
    simp only [Od] at r ⊢
    exact r.imp id fun r => Od.mono hA k e t d S ks r
  | .t es, t, d, S, ks, r => by
    simp only [Od] at r ⊢
    obtain ⟨ts, xs, e1, e2, r⟩ := r
    exact ⟨ts, xs, e1, e2, OdT.mono hA k es ts xs S ks r⟩
  | .o c ns es, t, d, S, ks, r => by
    simp only [Od] at r ⊢
    obtain ⟨gs, n, ws, S', e1, e2, e3, q, q2, q3, r⟩ := r
    exact ⟨gs, n, ws, S', e1, e2, e3, ks n (by rw [e3]; exact List.mem_cons_self) _ q, q2, q3, OdT.mono hA k es _ _ S' (ks.sub fun m hm => by rw [e3]; exact List.mem_cons_of_mem _ hm) r⟩
  | .k, t, d, S, ks, r => by
    simp only [Od] at r ⊢
    obtain ⟨us, vs, n, xs, e1, e2, e3, q, l, r⟩ := r
    exact ⟨us, vs, n, xs, e1, e2, e3, ks n (by rw [e3]; exact List.mem_cons_self) _ q, l, Vals.mono hA k vs xs r⟩
theorem OdT.mono (hA : ∀ m, A m → m < h.length → B m) (k : KeepIn A h h') : ∀ (es : List Sh) (ts : List T) (ds : List D) (S : List Nat), KeepS S h h' → OdT A h es ts ds S → OdT B h' es ts ds S
  | [], ts, ds, S, ks, r => by simp only [OdT] at r ⊢; exact r
  | e :: es, ts, ds, S, ks, r => by
    simp only [OdT] at r ⊢
    obtain ⟨t, ts', d, ds', S1, S2, e1, e2, e3, r1, r2⟩ := r
    exact ⟨t, ts', d, ds', S1, S2, e1, e2, e3, Od.mono hA k e t d S1 (ks.sub fun m hm => by rw [e3]; exact List.mem_append_left _ hm) r1, OdT.mono hA k es ts' ds' S2 (ks.sub fun m hm => by rw [e3]; exact List.mem_append_right _ hm) r2⟩
end
theorem OdL.vals {P : T → D → List Nat → Prop} : ∀ {ts : List T} {xs : List D} {S : List Nat}, (∀ t d U, (∀ m ∈ U, m ∈ S) → P t d U → Val B h t d) → OdL P ts xs S → Vals B h ts xs
  | [], xs, S, _, r => by simp only [Vals]; exact r.1
  | t :: ts, xs, S, k, ⟨d, ds, S1, S2, e1, e2, r1, r2⟩ => by
    simp only [Vals]
    exact ⟨d, ds, e1, k t d S1 (fun m hm => by rw [e2]; exact List.mem_append_left _ hm) r1, OdL.vals (fun t d U hU => k t d U fun m hm => by rw [e2]; exact List.mem_append_right _ (hU m hm)) r2⟩
theorem valsK_of : ∀ {ks : List (Key × T)} {ws : List (Key × D)}, ks.map (·.1) = ws.map (·.1) → Vals A h (ks.map (·.2)) (ws.map (·.2)) → ValsK A h ks ws
  | [], [], _, _ => by simp only [ValsK]
  | [], w :: ws, e, _ => by cases e
  | k :: ks, [], e, _ => by cases e
  | k :: ks, w :: ws, e, v => by
    simp only [List.map_cons, List.cons.injEq] at e
    simp only [List.map_cons, Vals] at v
    obtain ⟨d, ds, e2, v1, v2⟩ := v
    simp only [List.cons.injEq] at e2
    simp only [ValsK]
    exact ⟨w.2, ws, by rw [e.1], by rw [e2.1]; exact v1, valsK_of e.2 (by rw [e2.2]; exact v2)⟩
theorem valsK_to : ∀ {ks : List (Key × T)} {ws : List (Key × D)}, ValsK A h ks ws → ks.map (·.1) = ws.map (·.1) ∧ Vals A h (ks.map (·.2)) (ws.map (·.2))
  | [], ws, v => by simp only [ValsK] at v; rw [v]; exact ⟨rfl, Vals.nil⟩
  | k :: ks, ws, v => by
    simp only [ValsK] at v
    obtain ⟨d, ds, rfl, v1, v2⟩ := v
    obtain ⟨i1, i2⟩ := valsK_to v2
    exact ⟨by simp only [List.map_cons, i1], Vals.cons v1 i2⟩
theorem valsO_of : ∀ {ks : List (Str × T)} {ws : List (Str × D)}, ks.map (·.1) = ws.map (·.1) → Vals A h (ks.map (·.2)) (ws.map (·.2)) → ValsO A h ks ws
  | [], [], _, _ => by simp only [ValsO]
  | [], w :: ws, e, _ => by cases e
  | k :: ks, [], e, _ => by cases e
  | k :: ks, w :: ws, e, v => by
    simp only [List.map_cons, List.cons.injEq] at e
    simp only [List.map_cons, Vals] at v
    obtain ⟨d, ds, e2, v1, v2⟩ := v
    simp only [List.cons.injEq] at e2
    simp only [ValsO]
    exact ⟨w.2, ws, by rw [e.1], by rw [e2.1]; exact v1, valsO_of e.2 (by rw [e2.2]; exact v2)⟩
mutual
/-- an owner may let go -/
theorem Od.val (hA : ∀ m, A m → m < h.length → B m) : ∀ (sh : Sh) (t : T) (d : D) (S : List Nat), (∀ m ∈ S, B m) → Od A h sh t d S → Val B h t d
  | .s, t, d, S, hS, r => by simp only [Od] at r; exact r.2.sub hA
  | .l e, t, d, S, hS, r => by
    simp only [Od] at r
    obtain ⟨ts, n, xs, S', rfl, rfl, rfl, q, r⟩ := r
    simp only [Val]
    exact ⟨n, xs, rfl, hS n List.mem_cons_self, q, OdL.vals (fun t d U hU p => Od.val hA e t d U (fun m hm => hS m (List.mem_cons_of_mem _ (hU m hm))) p) r⟩
  | .d e, t, d, S, hS, r => by
    simp only [Od] at r
    obtain ⟨ts, n, xs, S', rfl, rfl, rfl, q, q2, r⟩ := r
    simp only [Val]
    exact ⟨n, xs, rfl, hS n List.mem_cons_self, q, valsK_of q2 (OdL.vals (fun t d U hU p => Od.val hA e t d U (fun m hm => hS m (List.mem_cons_of_mem _ (hU m hm))) p) r)⟩
  | .m e, t, d, S, hS, r => by
    simp only [Od] at r
    rcases r with ⟨_, rfl, rfl⟩ | r
    · simp only [Val]
    · exact Od.val hA e t d S hS r
  | .t es, t, d, S, hS, r => by
    simp only [Od] at r
    obtain ⟨ts, xs, rfl, rfl, r⟩ := r
    simp only [Val]
    exact ⟨xs, rfl, OdT.vals hA es ts xs S hS r⟩
  | .o c ns es, t, d, S, hS, r => by
    simp only [Od] at r
    obtain ⟨gs, n, ws, S', rfl, rfl, rfl, q, q2, q3, r⟩ := r
    simp only [Val]
    exact ⟨n, ws, rfl, hS n List.mem_cons_self, q, valsO_of (q2.trans q3.symm) (OdT.vals hA es _ _ S' (fun m hm => hS m (List.mem_cons_of_mem _ hm)) r)⟩
  | .k, t, d, S, hS, r => by
    simp only [Od] at r
    obtain ⟨us, vs, n, xs, rfl, rfl, rfl, q, l, r⟩ := r
    simp only [Val]
    exact ⟨n, _, rfl, hS n List.mem_cons_self, q, xs, rfl, l, r.sub hA⟩
theorem OdT.vals (hA : ∀ m, A m → m < h.length → B m) : ∀ (es : List Sh) (ts : List T) (ds : List D) (S : List Nat), (∀ m ∈ S, B m) → OdT A h es ts ds S → Vals B h ts ds
  | [], ts, ds, S, hS, r => by simp only [OdT] at r; rw [r.1, r.2.1]; exact Vals.nil
  | e :: es, ts, ds, S, hS, r => by
    simp only [OdT] at r
    obtain ⟨t, ts', d, ds', S1, S2, rfl, rfl, rfl, r1, r2⟩ := r
    exact Vals.cons (Od.val hA e t d S1 (fun m hm => hS m (List.mem_append_left _ hm)) r1) (OdT.vals hA es ts' ds' S2 (fun m hm => hS m (List.mem_append_right _ hm)) r2)
end
mutual
theorem Od.lt : ∀ (sh : Sh) (t : T) (d : D) (S : List Nat), Od A h sh t d S → ∀ m ∈ S, m < h.length
  | .s, t, d, S, r, m, hm => by simp only [Od] at r; rw [r.1] at hm; cases hm
  | .l e, t, d, S, r, m, hm => by
    simp only [Od] at r
    obtain ⟨ts, n, xs, S', rfl, rfl, rfl, q, r⟩ := r
    rcases List.mem_cons.mp hm with rfl | hm
    · exact lt_of_get q
    · exact OdL.lt (fun t d U p => Od.lt e t d U p) r m hm
  | .d e, t, d, S, r, m, hm => by
    simp only [Od] at r
    obtain ⟨ts, n, xs, S', rfl, rfl, rfl, q, q2, r⟩ := r
    rcases List.mem_cons.mp hm with rfl | hm
    · exact lt_of_get q
    · exact OdL.lt (fun t d U p => Od.lt e t d U p) r m hm
  | .m e, t, d, S, r, m, hm => by
    simp only [Od] at r
    rcases r with ⟨rfl, _, _⟩ | r
    · cases hm
    · exact Od.lt e t d S r m hm
  | .t es, t, d, S, r, m, hm => by
    simp only [Od] at r
    obtain ⟨ts, xs, rfl, rfl, r⟩ := r
    exact OdT.lt es ts xs S r m hm
  | .o c ns es, t, d, S, r, m, hm => by
    simp only [Od] at r
    obtain ⟨gs, n, ws, S', rfl, rfl, rfl, q, q2, q3, r⟩ := r
    rcases List.mem_cons.mp hm with rfl | hm
    · exact lt_of_get q
    · exact OdT.lt es _ _ S' r m hm
  | .k, t, d, S, r, m, hm => by
    simp only [Od] at r
    obtain ⟨us, vs, n, xs, rfl, rfl, rfl, q, l, r⟩ := r
    rw [List.mem_singleton.mp hm]
    exact lt_of_get q
theorem OdT.lt : ∀ (es : List Sh) (ts : List T) (ds : List D) (S : List Nat), OdT A h es ts ds S → ∀ m ∈ S, m < h.length
  | [], ts, ds, S, r, m, hm => by simp only [OdT] at r; rw [r.2.2] at hm; cases hm
  | e :: es, ts, ds, S, r, m, hm => by
    simp only [OdT] at r
    obtain ⟨t, ts', d, ds', S1, S2, rfl, rfl, rfl, r1, r2⟩ := r
    rcases List.mem_append.mp hm with hm | hm
    · exact Od.lt e t d S1 r1 m hm
    · exact OdT.lt es ts' ds' S2 r2 m hm
theorem OdL.lt {P : T → D → List Nat → Prop} (k : ∀ t d U, P t d U → ∀ m ∈ U, m < h.length) : ∀ {ts : List T} {xs : List D} {S : List Nat}, OdL P ts xs S → ∀ m ∈ S, m < h.length
  | [], xs, S, r, m, hm => by rw [r.2] at hm; cases hm
  | t :: ts, xs, S, ⟨d, ds, S1, S2, e1, e2, r1, r2⟩, m, hm => by
    rw [e2] at hm
    rcases List.mem_append.mp hm with hm | hm
    · exact k t d S1 r1 m hm
    · exact OdL.lt k r2 m hm
end
theorem Od.s_iff {t : T} {d : D} : Od A h .s t d [] ↔ Val A h t d := by simp only [Od, true_and]
theorem OdL.length {P : T → D → List Nat → Prop} : ∀ {ts : List T} {xs : List D} {S : List Nat}, OdL P ts xs S → xs.length = ts.length
  | [], xs, S, r => by rw [r.1]; rfl
  | t :: ts, xs, S, ⟨d, ds, S1, S2, e1, e2, r1, r2⟩ => by rw [e1, List.length_cons, List.length_cons, OdL.length r2]
theorem OdL.of_vals : ∀ {ts : List T} {xs : List D}, Vals A h ts xs → OdL (Od A h .s) ts xs []
  | [], xs, v => by simp only [Vals] at v; exact ⟨v, rfl⟩
  | t :: ts, xs, v => by
    simp only [Vals] at v
    obtain ⟨d, ds, e, v1, v2⟩ := v
    exact ⟨d, ds, [], [], e, rfl, Od.s_iff.mpr v1, OdL.of_vals v2⟩
theorem OdL.to_vals : ∀ {ts : List T} {xs : List D} {S : List Nat}, OdL (Od A h .s) ts xs S → Vals A h ts xs ∧ S = []
  | [], xs, S, r => by rw [r.1]; exact ⟨Vals.nil, r.2⟩
  | t :: ts, xs, S, ⟨d, ds, S1, S2, e1, e2, r1, r2⟩ => by
    simp only [Od] at r1
    obtain ⟨i1, i2⟩ := OdL.to_vals r2
    rw [e1, e2, r1.1, i2]
    exact ⟨Vals.cons r1.2 i1, rfl⟩
theorem OdL.append {P : T → D → List Nat → Prop} : ∀ {ts us : List T} {xs ys : List D} {S U : List Nat}, OdL P ts xs S → OdL P us ys U → OdL P (ts ++ us) (xs ++ ys) (S ++ U)
  | [], us, xs, ys, S, U, r, s => by rw [r.1, r.2]; exact s
  | t :: ts, us, xs, ys, S, U, ⟨d, ds, S1, S2, e1, e2, r1, r2⟩, s => ⟨d, ds ++ ys, S1, S2 ++ U, by rw [e1]; rfl, by rw [e2, List.append_assoc], r1, OdL.append r2 s⟩
theorem OdL.one {P : T → D → List Nat → Prop} {t : T} {d : D} {S : List Nat} (r : P t d S) : OdL P [t] [d] S := ⟨d, [], S, [], rfl, (List.append_nil _).symm, r, rfl, rfl⟩
/-- one of them -/
theorem OdL.focus {P : T → D → List Nat → Prop} : ∀ {ts : List T} {xs : List D} {S : List Nat} {j : Nat} {t : T}, OdL P ts xs S → ts[j]? = some t → ∃ d S1 Sj S2, xs[j]? = some d ∧ S = S1 ++ (Sj ++ S2) ∧ P t d Sj ∧
    ∀ (Q : T → D → List Nat → Prop) (t' : T) (d' : D) (Sj' : List Nat), (∀ u e U, (∀ m ∈ U, m ∈ S1 ∨ m ∈ S2) → P u e U → Q u e U) → Q t' d' Sj' → OdL Q (ts.set j t') (xs.set j d') (S1 ++ (Sj' ++ S2))
  | [], xs, S, j, t, r, e => by simp at e
  | t :: ts, xs, S, 0, u, ⟨d, ds, S1, S2, e1, e2, r1, r2⟩, e => by
    simp at e; subst e
    refine ⟨d, [], S1, S2, by rw [e1]; rfl, by rw [e2]; rfl, r1, fun Q t' d' Sj' k q => ?_⟩
    rw [e1]
    exact ⟨d', ds, Sj', S2, rfl, rfl, q, OdL.imp (fun t d U hU p => k t d U (fun m hm => .inr (hU m hm)) p) r2⟩
  | t :: ts, xs, S, j + 1, u, ⟨d, ds, S1, S2, e1, e2, r1, r2⟩, e => by
    obtain ⟨d', T1, Tj, T2, f1, f2, f3, f4⟩ := OdL.focus (j := j) r2 (by simpa using e)
    refine ⟨d', S1 ++ T1, Tj, T2, by rw [e1]; simpa using f1, by rw [e2, f2, List.append_assoc], f3, fun Q t' d'' Sj' k q => ?_⟩
    rw [e1]
    refine ⟨d, ds.set j d'', S1, T1 ++ (Sj' ++ T2), rfl, by rw [List.append_assoc], k t d S1 (fun m hm => .inl (List.mem_append_left _ hm)) r1, f4 Q t' d'' Sj' (fun u e U hU p => k u e U (fun m hm => (hU m hm).imp (fun z => List.mem_append_right _ z) id) p) q⟩
theorem OdT.focus : ∀ {es : List Sh} {ts : List T} {xs : List D} {S : List Nat} {j : Nat} {e : Sh}, OdT A h es ts xs S → es[j]? = some e → ∃ t d S1 Sj S2, ts[j]? = some t ∧ xs[j]? = some d ∧ S = S1 ++ (Sj ++ S2) ∧ Od A h e t d Sj ∧
    ∀ (B : Nat → Prop) (h' : DH) (e' : Sh) (t' : T) (d' : D) (Sj' : List Nat), (∀ m, A m → m < h.length → B m) → KeepIn A h h' → KeepS (S1 ++ S2) h h' → Od B h' e' t' d' Sj' → OdT B h' (es.set j e') (ts.set j t') (xs.set j d') (S1 ++ (Sj' ++ S2))
  | [], ts, xs, S, j, e, r, q => by simp at q
  | e0 :: es, ts, xs, S, 0, e, r, q => by
    simp only [OdT] at r
    obtain ⟨t, ts', d, ds, S1, S2, rfl, rfl, rfl, r1, r2⟩ := r
    simp at q; subst q
    refine ⟨t, d, [], S1, S2, rfl, rfl, rfl, r1, fun B h' e' t' d' Sj' hA k ks q => ?_⟩
    simp only [List.set_cons_zero, OdT]
    exact ⟨t', ts', d', ds, Sj', S2, rfl, rfl, rfl, q, OdT.mono hA k es ts' ds S2 (ks.sub fun m hm => List.mem_append_right _ hm) r2⟩
  | e0 :: es, ts, xs, S, j + 1, e, r, q => by
    simp only [OdT] at r
    obtain ⟨t, ts', d, ds, S1, S2, rfl, rfl, rfl, r1, r2⟩ := r
    obtain ⟨t1, d1, T1, Tj, T2, f1, f2, f3, f4, f5⟩ := OdT.focus (j := j) r2 (by simpa using q)
    refine ⟨t1, d1, S1 ++ T1, Tj, T2, by simpa using f1, by simpa using f2, by rw [f3, List.append_assoc], f4, fun B h' e' t' d' Sj' hA k ks q => ?_⟩
    simp only [List.set_cons_succ, OdT]
    refine ⟨t, ts'.set j t', d, ds.set j d', S1, T1 ++ (Sj' ++ T2), rfl, rfl, by rw [List.append_assoc], Od.mono hA k e0 t d S1 (ks.sub fun m hm => List.mem_append_left _ (List.mem_append_left _ hm)) r1, f5 B h' e' t' d' Sj' hA k (ks.sub fun m hm => ?_) q⟩
    rcases List.mem_append.mp hm with z | z
    · exact List.mem_append_left _ (List.mem_append_right _ z)
    · exact List.mem_append_right _ z
end
end Fu
namespace Fu
open PySem L2 Mi
abbrev FSt := List (Option T)
abbrev Ws := List (Nat × Sh)
abbrev Ow := Nat → List Nat
def Al (A : Nat → Prop) (w : Ws) (own : Ow) (m : Nat) : Prop := A m ∧ ∀ p ∈ w, m ∉ own p.1
structure Rel (A X : Nat → Prop) (w : Ws) (own : Ow) (ds : DSt) (h : DH) (e : FSt) : Prop where
  big : ∀ m, h.length ≤ m → A m
  bigX : ∀ m, h.length ≤ m → X m
  ow : ∀ p ∈ w, (own p.1).Nodup ∧ (∀ m ∈ own p.1, X m ∧ A m) ∧ ∃ t d, e.getD p.1 none = some t ∧ ds.getD p.1 none = some d ∧ Od (Al A w own) h p.2 t d (own p.1)
  dj : ∀ p ∈ w, ∀ q ∈ w, p.1 ≠ q.1 → ∀ m ∈ own p.1, m ∉ own q.1
  un : ∀ p ∈ w, ∀ q ∈ w, p.1 = q.1 → p = q
  sh : ∀ i t, (∀ p ∈ w, p.1 ≠ i) → e.getD i none = some t → ∃ d, ds.getD i none = some d ∧ Val (Al A w own) h t d
  len : ds.length = e.length
theorem getD_set_ne {α : Type} {l : List (Option α)} {i j : Nat} {x : Option α} (n : i ≠ j) : (l.set i x).getD j none = l.getD j none := by
  rw [List.getD_eq_getElem?_getD, List.getElem?_set_ne n, ← List.getD_eq_getElem?_getD]
theorem getD_set_eq {α : Type} {l : List (Option α)} {i : Nat} {x : Option α} (n : i < l.length) : (l.set i x).getD i none = x := by
  rw [List.getD_eq_getElem?_getD, List.getElem?_set_self n]; rfl
theorem getD_set_no {α : Type} {l : List (Option α)} {i : Nat} {x : Option α} (n : ¬ i < l.length) : (l.set i x).getD i none = none := by
  rw [List.getD_eq_getElem?_getD, List.getElem?_eq_none (by simpa using n)]; rfl
theorem lt_of_getD {α : Type} {l : List (Option α)} {i : Nat} {x : α} (e : l.getD i none = some x) : i < l.length := by
  apply Classical.byContradiction
  intro n
  rw [List.getD_eq_getElem?_getD, List.getElem?_eq_none (by simpa using n)] at e
  cases e
section
variable {A X : Nat → Prop} {w w' : Ws} {own : Ow} {ds : DSt} {h h' : DH} {e : FSt}
theorem Rel.kin (r : Rel A X w own ds h e) (k : KeepIn A h h') (l : h.length ≤ h'.length) : Rel A X w own ds h' e := by
  have ka : KeepIn (Al A w own) h h' := fun m o a => k m o a.1
  exact ⟨fun m q => r.big m (Nat.le_trans l q), fun m q => r.bigX m (Nat.le_trans l q), fun p hp => let ⟨a, a1, t, d, a2, a3, a4⟩ := r.ow p hp; ⟨a, a1, t, d, a2, a3, Od.mono (fun _ x _ => x) ka _ _ _ _ (fun m hm o => k m o (a1 m hm).2) a4⟩, r.dj, r.un, fun i t hi he => let ⟨d, a1, a2⟩ := r.sh i t hi he; ⟨d, a1, Val.mono (fun _ x _ => x) ka _ _ a2⟩, r.len⟩
theorem Rel.keep (r : Rel A X w own ds h e) (k : Keep h h') : Rel A X w own ds h' e := r.kin (k.kin A) k.len
theorem Rel.ltO (r : Rel A X w own ds h e) {p : Nat × Sh} (hp : p ∈ w) : ∀ m ∈ own p.1, m < h.length := fun m hm => by
  obtain ⟨_, _, t, d, _, _, o⟩ := r.ow p hp
  exact Od.lt _ _ _ _ o m hm
theorem Rel.bigAl (r : Rel A X w own ds h e) : ∀ m, h.length ≤ m → Al A w own m := fun m l => ⟨r.big m l, fun p hp q => by
  have := r.ltO hp m q
  omega⟩
theorem Rel.weaken (r : Rel A X w own ds h e) (s : ∀ p ∈ w', p ∈ w) : Rel A X w' own ds h e := by
  have hA : ∀ m, Al A w own m → m < h.length → Al A w' own m := fun m a _ => ⟨a.1, fun p hp => a.2 p (s p hp)⟩
  refine ⟨r.big, r.bigX, fun p hp => ?_, fun p hp q hq => r.dj p (s p hp) q (s q hq), fun p hp q hq => r.un p (s p hp) q (s q hq), fun i t hi he => ?_, r.len⟩
  · obtain ⟨a, a1, t, d, a2, a3, a4⟩ := r.ow p (s p hp)
    exact ⟨a, a1, t, d, a2, a3, Od.mono hA (KeepIn.refl _ _) _ _ _ _ (KeepS.refl _ _) a4⟩
  · by_cases q : ∃ p ∈ w, p.1 = i
    · obtain ⟨p, hp, rfl⟩ := q
      obtain ⟨a, a1, u, d, a2, a3, a4⟩ := r.ow p hp
      rw [a2] at he
      cases he
      exact ⟨d, a3, Od.val hA _ _ _ _ (fun m hm => ⟨(a1 m hm).2, fun q hq z => r.dj p hp q (s q hq) (fun y => hi q hq y.symm) m hm z⟩) a4⟩
    · obtain ⟨d, a1, a2⟩ := r.sh i t (fun p hp z => q ⟨p, hp, z⟩) he
      exact ⟨d, a1, a2.sub hA⟩
theorem Rel.put (r : Rel A X w own ds h e) {i : Nat} {t : T} {d : D} (hi : ∀ p ∈ w, p.1 ≠ i) (v : Val (Al A w own) h t d) : Rel A X w own (ds.set i (some d)) h (e.set i (some t)) := by
  refine ⟨r.big, r.bigX, fun p hp => ?_, r.dj, r.un, fun j u hj he => ?_, by rw [List.length_set, List.length_set, r.len]⟩
  · obtain ⟨a, a1, t', d', a2, a3, a4⟩ := r.ow p hp
    exact ⟨a, a1, t', d', by rw [getD_set_ne (hi p hp).symm]; exact a2, by rw [getD_set_ne (hi p hp).symm]; exact a3, a4⟩
  · by_cases n : i = j
    · subst n
      by_cases l : i < e.length
      · rw [getD_set_eq l] at he
        cases he
        exact ⟨d, getD_set_eq (by rw [r.len]; exact l), v⟩
      · rw [getD_set_no l] at he; cases he
    · rw [getD_set_ne n] at he
      rw [getD_set_ne n]
      exact r.sh j u hj he
theorem Rel.wipe (r : Rel A X w own ds h e) {i : Nat} (hi : ∀ p ∈ w, p.1 ≠ i) : Rel A X w own (ds.set i none) h (e.set i none) := by
  refine ⟨r.big, r.bigX, fun p hp => ?_, r.dj, r.un, fun j u hj he => ?_, by rw [List.length_set, List.length_set, r.len]⟩
  · obtain ⟨a, a1, t', d', a2, a3, a4⟩ := r.ow p hp
    exact ⟨a, a1, t', d', by rw [getD_set_ne (hi p hp).symm]; exact a2, by rw [getD_set_ne (hi p hp).symm]; exact a3, a4⟩
  · by_cases n : i = j
    · subst n
      by_cases l : i < e.length
      · rw [getD_set_eq l] at he; cases he
      · rw [getD_set_no l] at he; cases he
    · rw [getD_set_ne n] at he
      rw [getD_set_ne n]
      exact r.sh j u hj he
/-- a slot takes what is new -/
theorem Rel.owns (r : Rel A X w own ds h e) (k : Keep h h') {i : Nat} {sh : Sh} {t : T} {d : D} {S : List Nat} (hi : ∀ p ∈ w, p.1 ≠ i) (hl : i < e.length) (hS : ∀ m ∈ S, h.length ≤ m) (nd : S.Nodup) (o : Od (fun m => Al A w own m ∧ m ∉ S) h' sh t d S) :
    Rel A X ((i, sh) :: w) (fun j => if j = i then S else own j) (ds.set i (some d)) h' (e.set i (some t)) := by
  have r' := r.keep k
  have hA : ∀ m, (Al A w own m ∧ m ∉ S) → m < h'.length → Al A ((i, sh) :: w) (fun j => if j = i then S else own j) m := fun m a _ => ⟨a.1.1, fun p hp => by
    show m ∉ (if p.1 = i then S else own p.1)
    by_cases q : p.1 = i
    · rw [if_pos q]; exact a.2
    · rw [if_neg q]
      rcases List.mem_cons.mp hp with z | z
      · exact absurd (by rw [z]) q
      · exact a.1.2 p z⟩
  have hB : ∀ m, Al A w own m → m < h.length → Al A ((i, sh) :: w) (fun j => if j = i then S else own j) m := fun m a l => hA m ⟨a, fun z => by have := hS m z; omega⟩ (Nat.lt_of_lt_of_le l k.len)
  refine ⟨r'.big, r'.bigX, fun p hp => ?_, fun p hp q hq n m hm => ?_, fun p hp q hq z => ?_, fun j u hj he => ?_, by rw [List.length_set, List.length_set, r.len]⟩
  · show (if p.1 = i then S else own p.1).Nodup ∧ (∀ m ∈ (if p.1 = i then S else own p.1), X m ∧ A m) ∧ ∃ t' d', (e.set i (some t)).getD p.1 none = some t' ∧ (ds.set i (some d)).getD p.1 none = some d' ∧ Od _ h' p.2 t' d' (if p.1 = i then S else own p.1)
    rcases List.mem_cons.mp hp with z | z
    · subst z
      simp only [if_pos]
      exact ⟨nd, fun m hm => ⟨r.bigX m (hS m hm), r.big m (hS m hm)⟩, t, d, getD_set_eq hl, getD_set_eq (by rw [r.len]; exact hl), Od.mono hA (KeepIn.refl _ _) _ _ _ _ (KeepS.refl _ _) o⟩
    · have n := hi p z
      simp only [if_neg n]
      obtain ⟨a, a1, t', d', a2, a3, a4⟩ := r.ow p z
      exact ⟨a, a1, t', d', by rw [getD_set_ne n.symm]; exact a2, by rw [getD_set_ne n.symm]; exact a3, Od.mono hB (k.kin _) _ _ _ _ (k.kS _) a4⟩
  · replace hm : m ∈ (if p.1 = i then S else own p.1) := hm
    show m ∉ (if q.1 = i then S else own q.1)
    rcases List.mem_cons.mp hp with z | z
    · subst z
      simp only [if_pos] at hm
      rcases List.mem_cons.mp hq with y | y
      · exact absurd (by rw [y]) n
      · rw [if_neg (hi q y)]
        exact fun x => by have := r.ltO y m x; have := hS m hm; omega
    · rw [if_neg (hi p z)] at hm
      rcases List.mem_cons.mp hq with y | y
      · subst y
        simp only [if_pos]
        exact fun x => by have := r.ltO z m hm; have := hS m x; omega
      · rw [if_neg (hi q y)]
        exact r.dj p z q y n m hm
  · rcases List.mem_cons.mp hp with y | y
    · rcases List.mem_cons.mp hq with x | x
      · rw [y, x]
      · exact absurd (by rw [← z, y]) (hi q x)
    · rcases List.mem_cons.mp hq with x | x
      · exact absurd (by rw [z, x]) (hi p y)
      · exact r.un p y q x z
  · have n : i ≠ j := hj (i, sh) List.mem_cons_self
    rw [getD_set_ne n] at he
    obtain ⟨x, a1, a2⟩ := r.sh j u (fun p hp => hj p (List.mem_cons_of_mem _ hp)) he
    exact ⟨x, by rw [getD_set_ne n]; exact a1, Val.mono hB (k.kin _) _ _ a2⟩
/-- an owner's thing is changed -/
theorem Rel.store (r : Rel A X w own ds h e) {i : Nat} {sh' : Sh} {t' : T} {d : D} {S' : List Nat} (hw : ∀ p ∈ w', (p.1 = i ∧ p.2 = sh') ∨ (p.1 ≠ i ∧ p ∈ w)) (hw2 : ∀ p ∈ w, p.1 ≠ i → p ∈ w') (hi : (i, sh') ∈ w') (hi0 : ∃ p ∈ w, p.1 = i) (hd : ds.getD i none = some d)
    (kA : KeepIn (Al A w own) h h') (kS : ∀ p ∈ w, p.1 ≠ i → KeepS (own p.1) h h') (l : h.length ≤ h'.length) (nd : S'.Nodup) (hS : ∀ m ∈ S', m ∈ own i ∨ h.length ≤ m) (o : Od (fun m => Al A w own m ∧ m ∉ S') h' sh' t' d S') :
    Rel A X w' (fun j => if j = i then S' else own j) ds h' (e.set i (some t')) := by
  obtain ⟨p0, hp0, e0⟩ := hi0
  have hl : i < e.length := by
    obtain ⟨_, _, t, d, a2, _⟩ := r.ow p0 hp0
    rw [e0] at a2
    exact lt_of_getD a2
  have hA : ∀ m, (Al A w own m ∧ m ∉ S') → Al A w' (fun j => if j = i then S' else own j) m := fun m a => ⟨a.1.1, fun p hp => by
    show m ∉ (if p.1 = i then S' else own p.1)
    rcases hw p hp with ⟨q, _⟩ | ⟨q, z⟩
    · rw [if_pos q]; exact a.2
    · rw [if_neg q]; exact a.1.2 p z⟩
  have hB : ∀ m, Al A w own m → m < h.length → Al A w' (fun j => if j = i then S' else own j) m := fun m a l' => hA m ⟨a, fun z => by
    rcases hS m z with y | y
    · exact a.2 p0 hp0 (e0 ▸ y)
    · omega⟩
  refine ⟨fun m q => r.big m (Nat.le_trans l q), fun m q => r.bigX m (Nat.le_trans l q), fun p hp => ?_, fun p hp q hq n m hm => ?_, fun p hp q hq z => ?_, fun j u hj he => ?_, by rw [List.length_set, r.len]⟩
  · show (if p.1 = i then S' else own p.1).Nodup ∧ (∀ m ∈ (if p.1 = i then S' else own p.1), X m ∧ A m) ∧ ∃ t d, (e.set i (some t')).getD p.1 none = some t ∧ ds.getD p.1 none = some d ∧ Od _ h' p.2 t d (if p.1 = i then S' else own p.1)
    rcases hw p hp with ⟨q, q2⟩ | ⟨q, z⟩
    · simp only [if_pos q]
      refine ⟨nd, fun m hm => ?_, t', d, by rw [q]; exact getD_set_eq hl, by rw [q]; exact hd, by rw [q2]; exact Od.mono (fun m a _ => hA m a) (KeepIn.refl _ _) _ _ _ _ (KeepS.refl _ _) o⟩
      rcases hS m hm with y | y
      · exact (r.ow p0 hp0).2.1 m (e0 ▸ y)
      · exact ⟨r.bigX m y, r.big m y⟩
    · simp only [if_neg q]
      obtain ⟨a, a1, t, d', a2, a3, a4⟩ := r.ow p z
      exact ⟨a, a1, t, d', by rw [getD_set_ne (Ne.symm q)]; exact a2, a3, Od.mono hB kA _ _ _ _ (kS p z q) a4⟩
  · replace hm : m ∈ (if p.1 = i then S' else own p.1) := hm
    show m ∉ (if q.1 = i then S' else own q.1)
    rcases hw p hp with ⟨y, _⟩ | ⟨y, y2⟩
    · rw [if_pos y] at hm
      rcases hw q hq with ⟨x, _⟩ | ⟨x, x2⟩
      · exact absurd (y.trans x.symm) n
      · rw [if_neg x]
        intro z
        rcases hS m hm with v | v
        · exact r.dj q x2 p0 hp0 (by rw [e0]; exact x) m z (e0 ▸ v)
        · have := r.ltO x2 m z; omega
    · rw [if_neg y] at hm
      rcases hw q hq with ⟨x, _⟩ | ⟨x, x2⟩
      · rw [if_pos x]
        intro z
        rcases hS m z with v | v
        · exact r.dj p y2 p0 hp0 (by rw [e0]; exact y) m hm (e0 ▸ v)
        · have := r.ltO y2 m hm; omega
      · rw [if_neg x]
        exact r.dj p y2 q x2 n m hm
  · rcases hw p hp with ⟨y, y2⟩ | ⟨y, y2⟩
    · rcases hw q hq with ⟨x, x2⟩ | ⟨x, x2⟩
      · exact Prod.ext z (y2.trans x2.symm)
      · exact absurd (z ▸ y) x
    · rcases hw q hq with ⟨x, x2⟩ | ⟨x, x2⟩
      · exact absurd (z ▸ x) y
      · exact r.un p y2 q x2 z
  · have n : i ≠ j := hj (i, sh') hi
    rw [getD_set_ne n] at he
    obtain ⟨x, a1, a2⟩ := r.sh j u (fun p hp z => by
      by_cases q : p.1 = i
      · exact n (q ▸ z)
      · exact hj p (hw2 p hp q) z) he
    exact ⟨x, a1, Val.mono hB kA _ _ a2⟩
theorem Rel.avoid (r : Rel A X w own ds h e) (F : List Nat) (hF : ∀ m ∈ F, h.length ≤ m) (k : Keep h h') (hl : ∀ m ∈ F, m < h'.length) : Rel (fun m => A m ∧ m ∉ F) X w own ds h' e := by
  have hA : ∀ m, Al A w own m → m < h.length → Al (fun m => A m ∧ m ∉ F) w own m := fun m a l => ⟨⟨a.1, fun z => by have := hF m z; omega⟩, a.2⟩
  refine ⟨fun m l => ⟨r.big m (Nat.le_trans k.len l), fun z => by have := hl m z; omega⟩, fun m l => r.bigX m (Nat.le_trans k.len l), fun p hp => ?_, r.dj, r.un, fun i t hi he => ?_, r.len⟩
  · obtain ⟨a, a1, t, d, a2, a3, a4⟩ := r.ow p hp
    exact ⟨a, fun m hm => ⟨(a1 m hm).1, (a1 m hm).2, fun z => by have := hF m z; have := Od.lt _ _ _ _ a4 m hm; omega⟩, t, d, a2, a3, Od.mono hA (k.kin _) _ _ _ _ (k.kS _) a4⟩
  · obtain ⟨d, a1, a2⟩ := r.sh i t hi he
    exact ⟨d, a1, Val.mono hA (k.kin _) _ _ a2⟩
end
structure Foc (A : Nat → Prop) (h : DH) (sh : Sh) (d : D) (S : List Nat) (sh' : Sh) (t' : T) (d' : D) (S' R : List Nat) (up : T → T) : Prop where
  od : Od A h sh' t' d' S'
  pm : ∀ m, m ∈ S ↔ m ∈ R ∨ m ∈ S'
  nd : S.Nodup → S'.Nodup ∧ ∀ m ∈ R, m ∉ S'
  back : ∀ (B : Nat → Prop) (h' : DH) (t'' : T) (S'' : List Nat), (∀ m, A m → m < h.length → B m) → KeepIn A h h' → KeepS R h h' → Od B h' sh' t'' d' S'' → ∃ Sn, Od B h' sh (up t'') d Sn ∧ (∀ m, m ∈ Sn ↔ m ∈ R ∨ m ∈ S'') ∧ (S.Nodup → S''.Nodup → (∀ m ∈ R, m ∉ S'') → Sn.Nodup)
section
variable {A : Nat → Prop} {h h' : DH} {sh sh' e : Sh} {t t' : T} {d d' : D} {S S' R : List Nat} {up : T → T}
theorem Foc.refl (o : Od A h sh t d S) : Foc A h sh d S sh t d S [] id := ⟨o, fun m => ⟨.inr, fun z => z.elim (fun y => nomatch y) id⟩, fun n => ⟨n, fun m z => nomatch z⟩, fun B h' t'' S'' _ _ _ o => ⟨S'', o, fun m => ⟨.inr, fun z => z.elim (fun y => nomatch y) id⟩, fun _ n _ => n⟩⟩
theorem Foc.keep (f : Foc A h sh d S sh' t' d' S' R up) (k : Keep h h') : Foc A h' sh d S sh' t' d' S' R up := by
  refine ⟨Od.mono (fun _ a _ => a) (k.kin A) _ _ _ _ (k.kS _) f.od, f.pm, f.nd, fun B h2 t'' S'' hA kA kR o => ?_⟩
  exact f.back B h2 t'' S'' (fun m a l => hA m a (Nat.lt_of_lt_of_le l k.len)) (fun m o a q => kA m o a (k m o q)) (fun m hm o q => kR m hm o (k m o q)) o
/-- what is there -/
theorem Foc.there (f : Foc A h sh d S (.m e) t' d' S' R up) (n : t' ≠ .non) : Foc A h sh d S e t' d' S' R up := by
  refine ⟨?_, f.pm, f.nd, fun B h2 t'' S'' hA kA kR o => f.back B h2 t'' S'' hA kA kR (by simp only [Od]; exact .inr o)⟩
  have o := f.od
  simp only [Od] at o
  rcases o with ⟨_, z, _⟩ | o
  · exact absurd z n
  · exact o
end
end Fu
namespace Fu
open PySem L2 Mi
abbrev FE := FSt → Option T
abbrev FA := FSt → Option (List T)
abbrev FT := FSt → Option Bool
abbrev FO := FSt → Option (Option Int)
/-- what is only looked at -/
def BV (A : Nat → Prop) (h : DH) (t : T) (d : D) : Prop :=
  match t with
  | .lst ts => ∃ n xs, d = .ref n ∧ h[n]? = some (.lst xs) ∧ Vals A h ts xs
  | .dic ks => ∃ n ws, d = .ref n ∧ h[n]? = some (.dK ws) ∧ ValsK A h ks ws
  | .obj c fs => ∃ n ws, d = .ref n ∧ h[n]? = some (.ins c ws) ∧ ValsO A h fs ws
  | .dit ks vs => ∃ n xs, d = .ref n ∧ h[n]? = some (.dT (ks.zip xs)) ∧ xs.length = ks.length ∧ Vals A h vs xs
  | t => Val A h t d
def BVs (A : Nat → Prop) (h : DH) : List T → List D → Prop
  | [], xs => xs = []
  | t :: ts, xs => ∃ d ds, xs = d :: ds ∧ BV A h t d ∧ BVs A h ts ds
section
variable {A B : Nat → Prop} {h h' : DH} {t u : T} {d x y : D}
theorem Val.bv (r : Val A h t d) : BV A h t d := by
  cases t with
  | lst ts => simp only [Val] at r; obtain ⟨n, xs, e, _, q, r⟩ := r; exact ⟨n, xs, e, q, r⟩
  | dic ks => simp only [Val] at r; obtain ⟨n, xs, e, _, q, r⟩ := r; exact ⟨n, xs, e, q, r⟩
  | obj c ks => simp only [Val] at r; obtain ⟨n, xs, e, _, q, r⟩ := r; exact ⟨n, xs, e, q, r⟩
  | dit ks vs => simp only [Val] at r; obtain ⟨n, ws, e, _, q, xs, rfl, l, r⟩ := r; exact ⟨n, xs, e, q, l, r⟩
  | _ => exact r
theorem BV.keep (r : BV A h t d) (k : Keep h h') : BV A h' t d := by
  cases t with
  | lst ts => obtain ⟨n, xs, e, q, r⟩ := r; exact ⟨n, xs, e, k _ _ q, r.keep k⟩
  | dic ks => obtain ⟨n, xs, e, q, r⟩ := r; exact ⟨n, xs, e, k _ _ q, ValsK.mono (fun _ a _ => a) (k.kin A) _ _ r⟩
  | obj c ks => obtain ⟨n, xs, e, q, r⟩ := r; exact ⟨n, xs, e, k _ _ q, ValsO.mono (fun _ a _ => a) (k.kin A) _ _ r⟩
  | dit ks vs => obtain ⟨n, xs, e, q, l, r⟩ := r; exact ⟨n, xs, e, k _ _ q, l, r.keep k⟩
  | _ => exact Val.keep r k
theorem BVs.keep : ∀ {ts : List T} {xs : List D}, BVs A h ts xs → Keep h h' → BVs A h' ts xs
  | [], xs, r, k => r
  | t :: ts, xs, ⟨d, ds, e, r, s⟩, k => ⟨d, ds, e, r.keep k, BVs.keep s k⟩
theorem BVs.length : ∀ {ts : List T} {xs : List D}, BVs A h ts xs → xs.length = ts.length
  | [], xs, r => by rw [show xs = [] from r]; rfl
  | t :: ts, xs, ⟨d, ds, e, r, s⟩ => by rw [e, List.length_cons, List.length_cons, BVs.length s]
theorem val_non : Val A h .non d ↔ d = .non := by simp only [Val]
theorem val_bl {b : Bool} : Val A h (.bl b) d ↔ d = .bl b := by simp only [Val]
theorem val_int {i : Int} : Val A h (.int i) d ↔ d = .int i := by simp only [Val]
theorem val_str {s : Str} : Val A h (.str s) d ↔ d = .str s := by simp only [Val]
theorem val_tup {ts : List T} : Val A h (.tup ts) d ↔ ∃ xs, d = .tup xs ∧ Vals A h ts xs := by simp only [Val]
theorem val_lst {ts : List T} : Val A h (.lst ts) d ↔ ∃ n xs, d = .ref n ∧ A n ∧ h[n]? = some (.lst xs) ∧ Vals A h ts xs := by simp only [Val]
theorem val_fro {ts : List T} : Val A h (.fro ts) d ↔ ∃ n xs, d = .ref n ∧ A n ∧ h[n]? = some (.fro xs) ∧ Vals A h ts xs := by simp only [Val]
theorem val_dic {ks : List (Key × T)} : Val A h (.dic ks) d ↔ ∃ n xs, d = .ref n ∧ A n ∧ h[n]? = some (.dK xs) ∧ ValsK A h ks xs := by simp only [Val]
theorem val_dit {ks : List (List Key)} {vs : List T} : Val A h (.dit ks vs) d ↔ ∃ n ws, d = .ref n ∧ A n ∧ h[n]? = some (.dT ws) ∧ ∃ xs, ws = ks.zip xs ∧ xs.length = ks.length ∧ Vals A h vs xs := by simp only [Val]
theorem val_obj {c : Nat} {ks : List (Str × T)} : Val A h (.obj c ks) d ↔ ∃ n xs, d = .ref n ∧ A n ∧ h[n]? = some (.ins c xs) ∧ ValsO A h ks xs := by simp only [Val]
end
section
variable {A : Nat → Prop} {h : DH} {d : D}
theorem bv_non (r : BV A h .non d) : d = .non := val_non.mp (show Val A h _ d from r)
theorem bv_bl {b : Bool} (r : BV A h (.bl b) d) : d = .bl b := val_bl.mp (show Val A h _ d from r)
theorem bv_int {i : Int} (r : BV A h (.int i) d) : d = .int i := val_int.mp (show Val A h _ d from r)
theorem bv_str {s : Str} (r : BV A h (.str s) d) : d = .str s := val_str.mp (show Val A h _ d from r)
theorem bv_tup {ts : List T} (r : BV A h (.tup ts) d) : ∃ xs, d = .tup xs ∧ Vals A h ts xs := val_tup.mp (show Val A h _ d from r)
theorem bv_fro {ts : List T} (r : BV A h (.fro ts) d) : ∃ n xs, d = .ref n ∧ A n ∧ h[n]? = some (.fro xs) ∧ Vals A h ts xs := val_fro.mp (show Val A h _ d from r)
end
def itemsT : T → Option (List T)
  | .tup xs => some xs
  | .lst xs => some xs
  | .fro xs => some xs
  | _ => none
theorem items_bv {A : Nat → Prop} {h : DH} {t : T} {d : D} {ts : List T} (r : BV A h t d) (e : itemsT t = some ts) : ∃ xs, itemsD d h = some xs ∧ Vals A h ts xs ∧ (∀ z, d ≠ .str z) := by
  cases t with
  | tup us => cases e; obtain ⟨xs, rfl, r'⟩ := bv_tup r; exact ⟨xs, rfl, r', fun z q => by cases q⟩
  | lst us => cases e; obtain ⟨n, xs, rfl, q, r⟩ := r; exact ⟨xs, items_lst q, r, fun z q => by cases q⟩
  | fro us => cases e; obtain ⟨n, xs, rfl, _, q, r'⟩ := bv_fro r; exact ⟨xs, by simp only [itemsD, q], r', fun z q => by cases q⟩
  | _ => cases e
def SOp (f : D → D → DH → Res D) (g : T → T → Option T) : Prop := ∀ (A : Nat → Prop) (h : DH) (x y : D) (t u v : T), (∀ m, h.length ≤ m → A m) → BV A h t x → BV A h u y → g t u = some v → SatE (f x y h) fun d h' => Keep h h' ∧ Val A h' v d
/-- a new list -/
def NewV (A : Nat → Prop) (h h' : DH) (v : T) (d : D) : Prop := ∃ n ts xs, d = .ref n ∧ v = .lst ts ∧ h.length ≤ n ∧ h'[n]? = some (.lst xs) ∧ Vals (fun m => A m ∧ m ≠ n) h' ts xs
theorem NewV.val {A : Nat → Prop} {h h' : DH} {v : T} {d : D} (big : ∀ m, h.length ≤ m → A m) (n : NewV A h h' v d) : Val A h' v d := by
  obtain ⟨n, ts, xs, rfl, rfl, l, q, o⟩ := n
  exact val_lst.mpr ⟨n, xs, rfl, big n l, q, o.sub fun m a _ => a.1⟩
theorem new_of {A : Nat → Prop} {h : DH} {ts : List T} {xs : List D} (r : Vals A h ts xs) : NewV A h (h ++ [.lst xs]) (.lst ts) (.ref h.length) := by
  refine ⟨h.length, ts, xs, rfl, rfl, Nat.le_refl _, get_last _ _, Vals.mono (fun m a l => ⟨a, by omega⟩) ((Keep.app h _).kin A) _ _ r⟩
def SOpX (f : D → D → DH → Res D) (g : T → T → Option T) : Prop := ∀ (A : Nat → Prop) (h : DH) (x y : D) (t u v : T), (∀ m, h.length ≤ m → A m) → BV A h t x → BV A h u y → g t u = some v → SatE (f x y h) fun d h' => Keep h h' ∧ NewV A h h' v d
theorem SOpX.op {f : D → D → DH → Res D} {g : T → T → Option T} (s : SOpX f g) : SOp f g := fun A h x y t u v big r1 r2 e => (s A h x y t u v big r1 r2 e).imp fun d h' ⟨k, n⟩ => ⟨k, n.val big⟩
def SCl (f : List D → DH → Res D) (g : List T → Option T) : Prop := ∀ (A : Nat → Prop) (h : DH) (xs : List D) (ts : List T) (v : T), (∀ m, h.length ≤ m → A m) → BVs A h ts xs → g ts = some v → SatE (f xs h) fun d h' => Keep h h' ∧ Val A h' v d
def SClX (f : List D → DH → Res D) (g : List T → Option T) : Prop := ∀ (A : Nat → Prop) (h : DH) (xs : List D) (ts : List T) (v : T), (∀ m, h.length ≤ m → A m) → BVs A h ts xs → g ts = some v → SatE (f xs h) fun d h' => Keep h h' ∧ NewV A h h' v d
def addT : T → T → Option T
  | .int i, .int j => some (.int (i + j))
  | .str a, .str b => if a.length + b.length ≤ 16777216 then some (.str (a ++ b)) else none
  | .tup xs, .tup ys => if xs.length + ys.length ≤ 16777216 then some (.tup (xs ++ ys)) else none
  | .lst xs, .lst ys => if xs.length + ys.length ≤ 16777216 then some (.lst (xs ++ ys)) else none
  | _, _ => none
def catT : T → T → Option T
  | .lst xs, .lst ys => if xs.length + ys.length ≤ 16777216 then some (.lst (xs ++ ys)) else none
  | _, _ => none
theorem x_cat : SOpX addD catT := fun A h x y t u v big r1 r2 e => by
  unfold catT at e
  split at e
  · rename_i ts us
    obtain ⟨n, xs, rfl, q1, r1⟩ := r1
    obtain ⟨m, ys, rfl, q2, r2⟩ := r2
    split at e
    · rename_i l
      cases e
      rw [w_add_lst q1 q2]
      exact ⟨by rw [r1.length, r2.length]; exact l, Keep.app _ _, new_of (r1.append r2)⟩
    · cases e
  · cases e
theorem o_add : SOp addD addT := fun A h x y t u v big r1 r2 e => by
  unfold addT at e
  split at e
  · cases e; rw [bv_int r1, bv_int r2]; exact ⟨Keep.refl _, val_int.mpr rfl⟩
  · rw [bv_str r1, bv_str r2, addD_ss]
    split at e
    · rename_i l; cases e; rw [if_pos l]; exact ⟨Keep.refl _, val_str.mpr rfl⟩
    · cases e
  · obtain ⟨xs, rfl, q1⟩ := bv_tup r1
    obtain ⟨ys, rfl, q2⟩ := bv_tup r2
    split at e
    · rename_i l
      cases e
      simp only [addD]
      rw [q1.length, q2.length, if_pos l]
      exact ⟨Keep.refl _, val_tup.mpr ⟨_, rfl, q1.append q2⟩⟩
    · cases e
  · exact x_cat.op A h x y _ _ v big r1 r2 e
  · cases e
section
variable {f : D → D → DH → Res D}
theorem o_ii {g : Int → Int → Option T} {G : T → T → Option T} (hG : ∀ t u v, G t u = some v → ∃ i j, t = .int i ∧ u = .int j ∧ g i j = some v) (hf : ∀ i j v h, g i j = some v → SatE (f (.int i) (.int j) h) fun d h' => h' = h ∧ ∀ A, Val A h v d) : SOp f G := fun A h x y t u v big r1 r2 e => by
  obtain ⟨i, j, rfl, rfl, q⟩ := hG t u v e
  rw [bv_int r1, bv_int r2]
  refine (hf i j v h q).imp fun d h' ⟨e1, e2⟩ => ?_
  subst e1
  exact ⟨Keep.refl _, e2 A⟩
end
def iiT (g : Int → Int → Option T) : T → T → Option T
  | .int i, .int j => g i j
  | _, _ => none
theorem iiT_ok {g : Int → Int → Option T} : ∀ t u v, iiT g t u = some v → ∃ i j, t = .int i ∧ u = .int j ∧ g i j = some v := fun t u v e => by
  unfold iiT at e
  split at e
  · exact ⟨_, _, rfl, rfl, e⟩
  · cases e
def subT := iiT fun i j => some (.int (i - j))
def fdivT := iiT fun i j => if 0 < j ∧ j < 1073741824 then some (.int (i / j)) else none
def modT := iiT fun i j => if 0 < j then some (.int (i % j)) else none
def powT := iiT fun i j => if 0 ≤ j ∧ j ≤ 1000000 ∧ i.natAbs < 2 ^ 64 then some (.int (i ^ j.toNat)) else none
def ltT := iiT fun i j => some (.bl (decide (i < j)))
def leT := iiT fun i j => some (.bl (decide (i ≤ j)))
def gtT := iiT fun i j => some (.bl (decide (j < i)))
def geT := iiT fun i j => some (.bl (decide (j ≤ i)))
theorem o_sub : SOp subD subT := o_ii iiT_ok fun i j v h e => by cases e; exact ⟨rfl, fun _ => val_int.mpr rfl⟩
theorem o_lt : SOp ltD ltT := o_ii iiT_ok fun i j v h e => by cases e; exact ⟨rfl, fun _ => val_bl.mpr rfl⟩
theorem o_le : SOp leD leT := o_ii iiT_ok fun i j v h e => by cases e; exact ⟨rfl, fun _ => val_bl.mpr rfl⟩
theorem o_gt : SOp gtD gtT := o_ii iiT_ok fun i j v h e => by cases e; exact ⟨rfl, fun _ => val_bl.mpr rfl⟩
theorem ite_some {α : Type} {c : Prop} [Decidable c] {a b : α} (e : (if c then some a else none) = some b) : c ∧ a = b := by
  by_cases q : c
  · rw [if_pos q] at e; exact ⟨q, Option.some.inj e⟩
  · rw [if_neg q] at e; cases e
theorem o_fdiv : SOp fdivD fdivT := o_ii iiT_ok fun i j v h e => by obtain ⟨c, rfl⟩ := ite_some e; rw [fdivD_ii, if_pos c]; exact ⟨rfl, fun _ => val_int.mpr rfl⟩
theorem o_mod : SOp modD modT := o_ii iiT_ok fun i j v h e => by obtain ⟨c, rfl⟩ := ite_some e; rw [modD_ii, if_pos c]; exact ⟨rfl, fun _ => val_int.mpr rfl⟩
theorem o_pow : SOp powD powT := o_ii iiT_ok fun i j v h e => by obtain ⟨c, rfl⟩ := ite_some e; rw [powD_ii, if_pos c]; exact ⟨rfl, fun _ => val_int.mpr rfl⟩
def mulT : T → T → Option T
  | .int i, .int j => if mulC i j then some (.int (i * j)) else none
  | .str a, .int j => if 0 ≤ j ∧ j ≤ 1000 ∧ a.length ≤ 10000 then some (.str (strRep a j.toNat)) else none
  | .lst xs, .int k => if 0 ≤ k ∧ k ≤ 100000 ∧ xs.length * k.toNat ≤ 16777216 then some (.lst (List.replicate k.toNat xs).flatten) else none
  | _, _ => none
def repT : T → T → Option T
  | .lst xs, .int k => if 0 ≤ k ∧ k ≤ 100000 ∧ xs.length * k.toNat ≤ 16777216 then some (.lst (List.replicate k.toNat xs).flatten) else none
  | _, _ => none
theorem x_rep : SOpX mulD repT := fun A h x y t u v big r1 r2 e => by
  unfold repT at e
  split at e
  · rename_i ts k
    obtain ⟨n, xs, rfl, q1, r1⟩ := r1
    rw [bv_int r2]
    obtain ⟨c, rfl⟩ := ite_some e
    simp only [mulD, q1]
    rw [r1.length, if_pos c]
    exact ⟨Keep.app _ _, new_of (r1.rep _)⟩
  · cases e
theorem o_mul : SOp mulD mulT := fun A h x y t u v big r1 r2 e => by
  unfold mulT at e
  split at e
  · rw [bv_int r1, bv_int r2]; obtain ⟨c, rfl⟩ := ite_some e; rw [mulD_ii, if_pos c]; exact ⟨Keep.refl _, val_int.mpr rfl⟩
  · rw [bv_str r1, bv_int r2]; obtain ⟨c, rfl⟩ := ite_some e; rw [mulD_si, if_pos c]; exact ⟨Keep.refl _, val_str.mpr rfl⟩
  · exact x_rep.op A h x y _ _ v big r1 r2 e
  · cases e
def eqST : T → T → Option Bool
  | .int i, .int j => some (decide (i = j))
  | .str a, .str b => some (decide (a = b))
  | .bl a, .bl b => some (decide (a = b))
  | .non, .non => some true
  | .non, .int _ => some false
  | .int _, .non => some false
  | .non, .str _ => some false
  | .str _, .non => some false
  | .non, .bl _ => some false
  | .bl _, .non => some false
  | .int _, .str _ => some false
  | .str _, .int _ => some false
  | .bl _, .str _ => some false
  | .str _, .bl _ => some false
  | _, _ => none
/-- a value by its sort -/
theorem bv_sort {A : Nat → Prop} {h : DH} {t : T} {x : D} (r1 : BV A h t x) : (∃ b, t = .bl b ∧ x = .bl b) ∨ (∃ b, t = .int b ∧ x = .int b) ∨ (∃ b, t = .str b ∧ x = .str b) ∨ (t = .non ∧ x = .non) ∨ ((∃ ts, t = .tup ts) ∧ ∃ xs, x = .tup xs) ∨ (((∃ ts, t = .lst ts) ∨ (∃ ts, t = .fro ts) ∨ (∃ ts, t = .dic ts) ∨ (∃ c fs, t = .obj c fs) ∨ ∃ ks vs, t = .dit ks vs) ∧ ∃ n, x = .ref n) := by
  cases t with
  | non => exact .inr (.inr (.inr (.inl ⟨rfl, bv_non r1⟩)))
  | bl b => exact .inl ⟨b, rfl, bv_bl r1⟩
  | int b => exact .inr (.inl ⟨b, rfl, bv_int r1⟩)
  | str b => exact .inr (.inr (.inl ⟨b, rfl, bv_str r1⟩))
  | tup ts => obtain ⟨xs, e, _⟩ := bv_tup r1; exact .inr (.inr (.inr (.inr (.inl ⟨⟨ts, rfl⟩, xs, e⟩))))
  | lst ts => obtain ⟨n, xs, e, _⟩ := r1; exact .inr (.inr (.inr (.inr (.inr ⟨.inl ⟨ts, rfl⟩, n, e⟩))))
  | fro ts => obtain ⟨n, xs, e, _⟩ := bv_fro r1; exact .inr (.inr (.inr (.inr (.inr ⟨.inr (.inl ⟨ts, rfl⟩), n, e⟩))))
  | dic ts => obtain ⟨n, xs, e, _⟩ := r1; exact .inr (.inr (.inr (.inr (.inr ⟨.inr (.inr (.inl ⟨ts, rfl⟩)), n, e⟩))))
  | obj c ts => obtain ⟨n, xs, e, _⟩ := r1; exact .inr (.inr (.inr (.inr (.inr ⟨.inr (.inr (.inr (.inl ⟨c, ts, rfl⟩))), n, e⟩))))
  | dit ks ts => obtain ⟨n, xs, e, _⟩ := r1; exact .inr (.inr (.inr (.inr (.inr ⟨.inr (.inr (.inr (.inr ⟨ks, ts, rfl⟩))), n, e⟩))))
theorem eqS_same {A : Nat → Prop} {h : DH} {t u : T} {x y : D} (r1 : BV A h t x) (r2 : BV A h u y) : eqS x y = eqST t u := by
  rcases bv_sort r1 with ⟨b, rfl, rfl⟩ | ⟨b, rfl, rfl⟩ | ⟨b, rfl, rfl⟩ | ⟨rfl, rfl⟩ | ⟨⟨ts, rfl⟩, xs, rfl⟩ | ⟨⟨ts, rfl⟩ | ⟨ts, rfl⟩ | ⟨ts, rfl⟩ | ⟨c0, ts, rfl⟩ | ⟨k0, ts, rfl⟩, n, rfl⟩ <;> rcases bv_sort r2 with ⟨c, rfl, rfl⟩ | ⟨c, rfl, rfl⟩ | ⟨c, rfl, rfl⟩ | ⟨rfl, rfl⟩ | ⟨⟨us, rfl⟩, ys, rfl⟩ | ⟨⟨us, rfl⟩ | ⟨us, rfl⟩ | ⟨us, rfl⟩ | ⟨c1, us, rfl⟩ | ⟨k1, us, rfl⟩, m, rfl⟩ <;> rfl
theorem eqS_bv {A : Nat → Prop} {h : DH} {t u : T} {x y : D} {b : Bool} (r1 : BV A h t x) (r2 : BV A h u y) (e : eqST t u = some b) : eqS x y = some b := by rw [eqS_same r1 r2, e]
theorem eqS_bn {A : Nat → Prop} {h : DH} {t u : T} {x y : D} (r1 : BV A h t x) (r2 : BV A h u y) (e : eqST t u = none) : eqS x y = none := by rw [eqS_same r1 r2, e]
mutual
def pyF : Nat → T → Option PyData
  | 0, _ => none
  | _ + 1, .non => some .none
  | _ + 1, .bl b => some (.bool b)
  | _ + 1, .int i => some (.int i)
  | _ + 1, .str z => some (.str z)
  | k + 1, .tup xs => (pyFs k xs).map .tuple
  | k + 1, .lst xs => (pyFs k xs).map .list
  | k + 1, .fro xs => (pyFs k xs).map .list
  | _ + 1, .dic _ => none
  | _ + 1, .obj _ _ => none
  | _ + 1, .dit _ _ => none
def pyFs : Nat → List T → Option (List PyData)
  | _, [] => some []
  | k, x :: r => (pyF k x).bind fun d => (pyFs k r).map (d :: ·)
end
mutual
theorem py_val {A : Nat → Prop} {h : DH} : ∀ (k : Nat) (t : T) (d : D) (p : PyData), Val A h t d → pyF k t = some p → pyD h k d = some p
  | 0, t, d, p, r, e => by simp only [pyF] at e; cases e
  | k + 1, .non, d, p, r, e => by rw [val_non.mp r]; simp only [pyF] at e; exact e
  | k + 1, .bl b, d, p, r, e => by rw [val_bl.mp r]; simp only [pyF] at e; exact e
  | k + 1, .int i, d, p, r, e => by rw [val_int.mp r]; simp only [pyF] at e; exact e
  | k + 1, .str z, d, p, r, e => by rw [val_str.mp r]; simp only [pyF] at e; exact e
  | k + 1, .tup ts, d, p, r, e => by
    obtain ⟨xs, rfl, r1⟩ := val_tup.mp r
    simp only [pyF] at e
    cases q : pyFs k ts with
    | none => rw [q] at e; cases e
    | some ps => rw [q] at e; simp only [pyD]; rw [py_vals k ts xs ps r1 q]; exact e
  | k + 1, .lst ts, d, p, r, e => by
    obtain ⟨n, xs, rfl, _, hn, r1⟩ := val_lst.mp r
    simp only [pyF] at e
    cases q : pyFs k ts with
    | none => rw [q] at e; cases e
    | some ps =>
      rw [q] at e; simp only [pyD, items_lst hn, Option.bind]
      rw [py_vals k ts xs ps r1 q]; exact e
  | k + 1, .fro ts, d, p, r, e => by
    obtain ⟨n, xs, rfl, _, hn, r1⟩ := val_fro.mp r
    simp only [pyF] at e
    have hi : itemsD (.ref n) h = some xs := by simp only [itemsD, hn]
    cases q : pyFs k ts with
    | none => rw [q] at e; cases e
    | some ps =>
      rw [q] at e; simp only [pyD, hi, Option.bind]
      rw [py_vals k ts xs ps r1 q]; exact e
  | k + 1, .dic ts, d, p, r, e => by simp only [pyF] at e; cases e
  | k + 1, .obj c ts, d, p, r, e => by simp only [pyF] at e; cases e
  | k + 1, .dit c ts, d, p, r, e => by simp only [pyF] at e; cases e
theorem py_vals {A : Nat → Prop} {h : DH} : ∀ (k : Nat) (ts : List T) (xs : List D) (ps : List PyData), Vals A h ts xs → pyFs k ts = some ps → pyAll (pyD h k) xs = some ps
  | k, [], xs, ps, r, e => by simp only [Vals] at r; rw [r]; simp only [pyFs] at e; exact e
  | k, t :: ts, xs, ps, r, e => by
    simp only [Vals] at r
    obtain ⟨d, ds, rfl, r1, r2⟩ := r
    simp only [pyFs] at e
    cases q1 : pyF k t with
    | none => rw [q1] at e; cases e
    | some p =>
      rw [q1] at e
      cases q2 : pyFs k ts with
      | none => rw [q2] at e; cases e
      | some qs =>
        rw [q2] at e
        simp only [pyAll]
        rw [py_val k t d p r1 q1, py_vals k ts ds qs r2 q2]
        exact e
end
theorem py_bv {A : Nat → Prop} {h : DH} {k : Nat} {t : T} {d : D} {p : PyData} (r : BV A h t d) (e : pyF k t = some p) : pyD h k d = some p := by
  cases t with
  | lst ts =>
    obtain ⟨n, xs, rfl, hn, r⟩ := r
    cases k with
    | zero => simp only [pyF] at e; cases e
    | succ k =>
      simp only [pyF] at e
      cases q : pyFs k ts with
      | none => rw [q] at e; cases e
      | some ps =>
        rw [q] at e; simp only [pyD, items_lst hn, Option.bind]
        rw [py_vals k ts xs ps r q]; exact e
  | dic ks => cases k <;> (simp only [pyF] at e; cases e)
  | obj c ks => cases k <;> (simp only [pyF] at e; cases e)
  | dit c ks => cases k <;> (simp only [pyF] at e; cases e)
  | _ => exact py_val k _ d p r e
def deepT (t u : T) : Option Bool := match pyF 160 t, pyF 160 u with
  | some d, some e => if shp d && shp e then some (PyData.eqv d e) else none
  | _, _ => none
def eqT (t u : T) : Option Bool := match eqST t u with | some b => some b | none => deepT t u
theorem eqA_bv {A : Nat → Prop} {h : DH} {t u : T} {x y : D} {b : Bool} (r1 : BV A h t x) (r2 : BV A h u y) (e : eqT t u = some b) : eqA x y h = some b := by
  unfold eqT at e
  unfold eqA
  cases q : eqST t u with
  | some c =>
    rw [q] at e
    rw [eqS_bv r1 r2 q]
    exact e
  | none =>
    rw [q] at e
    rw [eqS_bn r1 r2 q]
    show deepE x y h = some b
    have e : deepT t u = some b := e
    unfold deepT at e
    cases q1 : pyF 160 t with
    | none => rw [q1] at e; cases e
    | some d =>
      cases q2 : pyF 160 u with
      | none => rw [q1, q2] at e; cases e
      | some c =>
        rw [q1, q2] at e
        unfold deepE
        rw [py_bv r1 q1, py_bv r2 q2]
        exact e
def oBl (f : T → T → Option Bool) (t u : T) : Option T := (f t u).map .bl
def oNb (f : T → T → Option Bool) (t u : T) : Option T := (f t u).map fun b => .bl (!b)
theorem map_some {α β : Type} {o : Option α} {f : α → β} {b : β} (e : o.map f = some b) : ∃ a, o = some a ∧ f a = b := by
  cases o with
  | none => cases e
  | some a => exact ⟨a, rfl, Option.some.inj e⟩
theorem o_eq : SOp eqD (oBl eqST) := fun A h x y t u v big r1 r2 e => by
  obtain ⟨b, eb, rfl⟩ := map_some e
  unfold eqD; rw [eqS_bv r1 r2 eb]
  exact ⟨Keep.refl _, val_bl.mpr rfl⟩
theorem o_eqD : SOp eqDD (oBl eqT) := fun A h x y t u v big r1 r2 e => by
  obtain ⟨b, eb, rfl⟩ := map_some e
  unfold eqDD; rw [eqA_bv r1 r2 eb]
  exact ⟨Keep.refl _, val_bl.mpr rfl⟩
theorem o_neD : SOp neDD (oNb eqT) := fun A h x y t u v big r1 r2 e => by
  obtain ⟨b, eb, rfl⟩ := map_some e
  unfold neDD; rw [eqA_bv r1 r2 eb]
  exact ⟨Keep.refl _, val_bl.mpr rfl⟩
def isNT (t u : T) : Option Bool := match u with | .non => (match t with | .non => some true | _ => some false) | _ => none
end Fu
namespace Fu
open PySem L2 Mi
def flatT : T → Bool
  | .non => true
  | .bl _ => true
  | .int _ => true
  | .str _ => true
  | _ => false
def eqFT : T → T → Bool
  | .non, .non => true
  | .bl a, .bl b => a == b
  | .bl a, .int b => (if a then 1 else 0) == b
  | .int a, .bl b => a == (if b then 1 else 0)
  | .int a, .int b => a == b
  | .str a, .str b => a == b
  | _, _ => false
def toD : T → D
  | .bl b => .bl b
  | .int i => .int i
  | .str s => .str s
  | _ => .non
section
variable {A : Nat → Prop} {h : DH}
theorem flat_val {t : T} {d : D} (r : Val A h t d) (f : flatT t = true) : d = toD t ∧ flatD d = true := by
  cases t with
  | non => rw [val_non.mp r]; exact ⟨rfl, rfl⟩
  | bl b => rw [val_bl.mp r]; exact ⟨rfl, rfl⟩
  | int b => rw [val_int.mp r]; exact ⟨rfl, rfl⟩
  | str b => rw [val_str.mp r]; exact ⟨rfl, rfl⟩
  | _ => cases f
theorem flat_bv {t : T} {d : D} (r : BV A h t d) (f : flatT t = true) : d = toD t ∧ flatD d = true := by
  cases t with
  | lst _ => cases f
  | dic _ => cases f
  | obj _ _ => cases f
  | dit _ _ => cases f
  | _ => exact flat_val (A := A) (h := h) r f
theorem flat_vals : ∀ {ts : List T} {ds : List D}, Vals A h ts ds → ts.all flatT = true → ds = ts.map toD ∧ ds.all flatD = true
  | [], ds, r, f => by simp only [Vals] at r; rw [r]; exact ⟨rfl, rfl⟩
  | t :: ts, ds, r, f => by
    simp only [Vals] at r
    obtain ⟨d, es, rfl, r1, r2⟩ := r
    simp only [List.all_cons, Bool.and_eq_true] at f
    obtain ⟨e1, f1⟩ := flat_val r1 f.1
    obtain ⟨e2, f2⟩ := flat_vals r2 f.2
    exact ⟨by rw [e1, e2]; rfl, by simp only [List.all_cons, f1, f2, Bool.and_self]⟩
theorem eqF_toD {t u : T} (f : flatT t = true) (g : flatT u = true) : eqF (toD t) (toD u) = eqFT t u := by
  cases t <;> first | (cases f; done) | (cases u <;> first | (cases g; done) | rfl)
theorem any_toD {u : T} (g : flatT u = true) : ∀ {ts : List T}, ts.all flatT = true → ((ts.map toD).any fun z => eqF z (toD u)) = ts.any fun z => eqFT z u
  | [], f => rfl
  | t :: ts, f => by
    simp only [List.all_cons, Bool.and_eq_true] at f
    simp only [List.map_cons, List.any_cons, eqF_toD f.1 g, any_toD g f.2]
end
def flatInT (x y : T) : Option Bool := match y with
  | .str _ => none
  | _ => (match itemsT y with
    | some xs => if flatT x && xs.all flatT then some (xs.any fun z => eqFT z x) else none
    | none => none)
def deepInT (x y : T) : Option Bool := match pyF 70 x, pyF 70 y with
  | some d, some (.list ds) => if SeqAt.shaped d && SeqAt.shaped (.list ds) then some (ds.any fun z => PyData.eqv z d) else none
  | _, _ => none
section
variable {A : Nat → Prop} {h : DH}
theorem flatIn_bv {t u : T} {x y : D} (r1 : BV A h t x) (r2 : BV A h u y) {b : Bool} (e : flatInT t u = some b) : flatIn x y h = some b := by
  unfold flatInT at e
  have key : ∀ us, itemsT u = some us → (match itemsT u with | some xs => if flatT t && xs.all flatT then some (xs.any fun z => eqFT z t) else none | none => none) = some b → flatIn x y h = some b := fun us q e => by
    obtain ⟨ys, i1, i2, i3⟩ := items_bv r2 q
    rw [q] at e
    obtain ⟨c, rfl⟩ := ite_some e
    simp only [Bool.and_eq_true] at c
    obtain ⟨e1, f1⟩ := flat_bv r1 c.1
    obtain ⟨e2, f2⟩ := flat_vals i2 c.2
    unfold flatIn
    cases y with
    | str z => exact absurd rfl (i3 z)
    | _ => simp only [i1, f1, f2, Bool.and_self, if_true]; rw [e2, e1, any_toD c.1 c.2]
  cases u with
  | str z => cases e
  | tup us => exact key us rfl e
  | lst us => exact key us rfl e
  | fro us => exact key us rfl e
  | _ => cases e
theorem in_none {x y : D} {ds : List PyData} {d : PyData} (q1 : pyD h 70 x = some d) (q2 : pyD h 70 y = some (.list ds)) (c : (SeqAt.shaped d && SeqAt.shaped (.list ds)) = true) : deepIn x y h = some (ds.any fun z => PyData.eqv z d) := by
  unfold deepIn; rw [q1, q2]; simp only [c, if_true]
end
/-- where both readings of `in` speak, they say the same; we ask only that the flat one does not speak otherwise -/
def memDT (neg : Bool) (x y : T) : Option T := match flatInT x y with
  | some b => some (.bl (if neg then !b else b))
  | none => (match y with
    | .lst ys => if flatT x && ys.all flatT then none else (deepInT x y).map fun b => .bl (if neg then !b else b)
    | .fro ys => if flatT x && ys.all flatT then none else (deepInT x y).map fun b => .bl (if neg then !b else b)
    | _ => none)
theorem flat_toD {A : Nat → Prop} {h : DH} {t : T} {d : D} (r : Val A h t d) : flatD d = flatT t := by
  rcases bv_sort r.bv with ⟨b, rfl, rfl⟩ | ⟨b, rfl, rfl⟩ | ⟨b, rfl, rfl⟩ | ⟨rfl, rfl⟩ | ⟨⟨ts, rfl⟩, xs, rfl⟩ | ⟨⟨ts, rfl⟩ | ⟨ts, rfl⟩ | ⟨ts, rfl⟩ | ⟨c0, ts, rfl⟩ | ⟨k0, ts, rfl⟩, n, rfl⟩ <;> rfl
theorem flat_toB {A : Nat → Prop} {h : DH} {t : T} {d : D} (r : BV A h t d) : flatD d = flatT t := by
  rcases bv_sort r with ⟨b, rfl, rfl⟩ | ⟨b, rfl, rfl⟩ | ⟨b, rfl, rfl⟩ | ⟨rfl, rfl⟩ | ⟨⟨ts, rfl⟩, xs, rfl⟩ | ⟨⟨ts, rfl⟩ | ⟨ts, rfl⟩ | ⟨ts, rfl⟩ | ⟨c0, ts, rfl⟩ | ⟨k0, ts, rfl⟩, n, rfl⟩ <;> rfl
theorem flat_toDs {A : Nat → Prop} {h : DH} : ∀ {ts : List T} {ds : List D}, Vals A h ts ds → ds.all flatD = ts.all flatT
  | [], ds, r => by simp only [Vals] at r; rw [r]; rfl
  | t :: ts, ds, r => by
    simp only [Vals] at r
    obtain ⟨d, es, rfl, r1, r2⟩ := r
    simp only [List.all_cons, flat_toD r1, flat_toDs r2]
theorem o_inD (neg : Bool) : SOp (inDD neg) (memDT neg) := fun A h x y t u v big r1 r2 e => by
  unfold memDT at e
  cases q : flatInT t u with
  | some b =>
    rw [q] at e
    cases e
    unfold inDD inA
    rw [flatIn_bv r1 r2 q]
    exact ⟨Keep.refl _, val_bl.mpr rfl⟩
  | none =>
    rw [q] at e
    have key : ∀ us, (u = .lst us ∨ u = .fro us) → (if flatT t && us.all flatT then none else (deepInT t u).map fun b => T.bl (if neg then !b else b)) = some v → SatE (inDD neg x y h) fun d h' => Keep h h' ∧ Val A h' v d := fun us hu e => by
      cases c : flatT t && us.all flatT with
      | true => rw [c] at e; cases e
      | false =>
        rw [c] at e
        obtain ⟨b, eb, rfl⟩ := map_some e
        have hi : itemsT u = some us := by rcases hu with rfl | rfl <;> rfl
        obtain ⟨ys, i1, i2, i3⟩ := items_bv r2 hi
        have f0 : flatIn x y h = none := by
          unfold flatIn
          cases y with
          | str z => exact absurd rfl (i3 z)
          | _ => simp only [i1, flat_toB r1, flat_toDs i2, c, Bool.false_eq_true, if_false]
        unfold deepInT at eb
        cases q1 : pyF 70 t with
        | none => rw [q1] at eb; cases eb
        | some d =>
          cases q2 : pyF 70 u with
          | none => rw [q1, q2] at eb; cases eb
          | some l =>
            rw [q1, q2] at eb
            cases l with
            | list ds =>
              obtain ⟨c2, rfl⟩ := ite_some eb
              unfold inDD inA
              rw [f0, in_none (py_bv r1 q1) (py_bv r2 q2) c2]
              exact ⟨Keep.refl _, val_bl.mpr rfl⟩
            | _ => cases eb
    cases u with
    | lst us => exact key us (.inl rfl) e
    | fro us => exact key us (.inr rfl) e
    | _ => cases e
def memFT (neg : Bool) (x y : T) : Option T := (flatInT x y).map fun b => .bl (if neg then !b else b)
theorem ixK_get {α : Type} {xs : List α} {i : Int} {x : α} (e : atI xs i = some x) : ∃ k : Nat, xs[k]? = some x ∧ ∀ {β : Type} (ys : List β), ys.length = xs.length → atI ys i = ys[k]? := by
  unfold atI at e ⊢
  cases q : ixN xs.length i with
  | none => rw [q] at e; cases e
  | some k =>
    rw [q] at e
    exact ⟨k, e, fun ys hl => by rw [hl, q]; rfl⟩
def ixT (x y : T) : Option T :=
  match y with
  | .int i => (match x with
    | .str z => if z.length ≤ 16777216 then (atI z.cps.toList i).map fun c => .str ⟨#[c]⟩ else none
    | _ => (itemsT x).bind fun xs => atI xs i)
  | _ => none
theorem o_ix : SOp ixD ixT := fun A h x y t u v big r1 r2 e => by
  unfold ixT at e
  cases u with
  | int i =>
    rw [bv_int r2]
    have key : ∀ ts, itemsT t = some ts → atI ts i = some v → SatE (ixD x (.int i) h) fun d h' => Keep h h' ∧ Val A h' v d := fun ts q e => by
      obtain ⟨xs, i1, i2, i3⟩ := items_bv r1 q
      obtain ⟨k, k1, k2⟩ := ixK_get e
      obtain ⟨d, d1, d2⟩ := i2.get k1
      have := k2 xs i2.length
      rw [w_ixs i1 (this.trans d1)]
      exact ⟨Keep.refl _, d2⟩
    cases t with
    | str z =>
      rw [bv_str r1]
      obtain ⟨c, e⟩ : z.length ≤ 16777216 ∧ ((atI z.cps.toList i).map fun c => T.str ⟨#[c]⟩) = some v := by
        by_cases q : z.length ≤ 16777216
        · exact ⟨q, by simp only [if_pos q] at e; exact e⟩
        · simp only [if_neg q] at e; cases e
      obtain ⟨a, ea, rfl⟩ := map_some e
      simp only [ixD, if_pos c, ea]
      exact ⟨Keep.refl _, val_str.mpr rfl⟩
    | tup ts => exact key ts rfl e
    | lst ts => exact key ts rfl e
    | fro ts => exact key ts rfl e
    | _ => cases e
  | _ => cases e
theorem cut_vals {A : Nat → Prop} {h : DH} {ts : List T} {xs : List D} (r : Vals A h ts xs) (lo hi : Option Int) : Vals A h (cutD ts lo hi) (cutD xs lo hi) := by
  unfold cutD
  rw [r.length]
  exact (r.drop _).take _
def slT (x : T) (lo hi : Option Int) : Option T :=
  match x with
  | .tup xs => if HT.sIx xs.length 0 lo = 0 ∧ HT.sIx xs.length xs.length hi = xs.length then none else some (.tup (cutD xs lo hi))
  | .lst xs => some (.lst (cutD xs lo hi))
  | .fro xs => some (.lst (cutD xs lo hi))
  | .str z => if z.length ≤ 16777216 then some (.str (cutS z lo hi)) else none
  | _ => none
def slLT (x : T) (lo hi : Option Int) : Option T :=
  match x with
  | .lst xs => some (.lst (cutD xs lo hi))
  | .fro xs => some (.lst (cutD xs lo hi))
  | _ => none
theorem x_sl {A : Nat → Prop} {h : DH} {t v : T} {x : D} {lo hi : Option Int} (r : BV A h t x) (e : slLT t lo hi = some v) : SatE (slD x lo hi h) fun d h' => Keep h h' ∧ NewV A h h' v d := by
  unfold slLT at e
  have key : ∀ ts, itemsT t = some ts → (∃ n, x = .ref n) → v = .lst (cutD ts lo hi) → SatE (slD x lo hi h) fun d h' => Keep h h' ∧ NewV A h h' v d := fun ts q ⟨n, hn⟩ e => by
    obtain ⟨xs, i1, i2, i3⟩ := items_bv r q
    subst hn
    subst e
    simp only [slD, i1]
    exact ⟨Keep.app _ _, new_of (cut_vals i2 lo hi)⟩
  cases t with
  | lst ts => cases e; obtain ⟨n, xs, rfl, _⟩ := id r; exact key ts rfl ⟨n, rfl⟩ rfl
  | fro ts => cases e; obtain ⟨n, xs, rfl, _⟩ := bv_fro r; exact key ts rfl ⟨n, rfl⟩ rfl
  | _ => cases e
theorem o_sl {A : Nat → Prop} {h : DH} {t v : T} {x : D} {lo hi : Option Int} (big : ∀ m, h.length ≤ m → A m) (r : BV A h t x) (e : slT t lo hi = some v) : SatE (slD x lo hi h) fun d h' => Keep h h' ∧ Val A h' v d := by
  have key : slLT t lo hi = some v → SatE (slD x lo hi h) fun d h' => Keep h h' ∧ Val A h' v d := fun e => (x_sl r e).imp fun d h' ⟨k, n⟩ => ⟨k, n.val big⟩
  cases t with
  | tup ts =>
    obtain ⟨xs, rfl, r1⟩ := bv_tup r
    unfold slT at e
    simp only at e
    split at e
    · cases e
    · rename_i c
      cases e
      simp only [slD]
      rw [r1.length, if_neg c]
      exact ⟨Keep.refl _, val_tup.mpr ⟨_, rfl, cut_vals r1 lo hi⟩⟩
  | str z =>
    rw [bv_str r]
    obtain ⟨c, rfl⟩ := ite_some (show (if z.length ≤ 16777216 then some (T.str (cutS z lo hi)) else none) = some v from e)
    simp only [slD, if_pos c]
    exact ⟨Keep.refl _, val_str.mpr rfl⟩
  | lst ts => exact key e
  | fro ts => exact key e
  | _ => cases e
theorem bvs0 {A : Nat → Prop} {h : DH} {xs : List D} (r : BVs A h [] xs) : xs = [] := r
theorem bvs1 {A : Nat → Prop} {h : DH} {t : T} {xs : List D} (r : BVs A h [t] xs) : ∃ d, xs = [d] ∧ BV A h t d := by
  obtain ⟨d, ds, rfl, r, s⟩ := r
  rw [bvs0 s]
  exact ⟨d, rfl, r⟩
theorem bvs2 {A : Nat → Prop} {h : DH} {t u : T} {xs : List D} (r : BVs A h [t, u] xs) : ∃ d e, xs = [d, e] ∧ BV A h t d ∧ BV A h u e := by
  obtain ⟨d, ds, rfl, r1, s⟩ := r
  obtain ⟨e, rfl, s1⟩ := bvs1 s
  exact ⟨d, e, rfl, r1, s1⟩
def lenT (ts : List T) : Option T := match ts with
  | [.str z] => if z.length ≤ 16777216 then some (.int z.length) else none
  | [x] => (itemsT x).map fun xs => .int xs.length
  | _ => none
theorem c_len : SCl lenD lenT := fun A h xs ts v big r e => by
  have key : ∀ t us, ts = [t] → itemsT t = some us → some (T.int us.length) = some v → SatE (lenD xs h) fun d h' => Keep h h' ∧ Val A h' v d := fun t us ht q e2 => by
    subst ht
    obtain ⟨d, rfl, r1⟩ := bvs1 r
    obtain ⟨ys, i1, i2, i3⟩ := items_bv r1 q
    rw [w_len i1]
    cases e2
    exact ⟨Keep.refl _, val_int.mpr (by rw [i2.length])⟩
  unfold lenT at e
  split at e
  · rename_i z
    obtain ⟨d, rfl, r1⟩ := bvs1 r
    rw [bv_str r1]
    obtain ⟨c, rfl⟩ := ite_some e
    simp only [lenD, if_pos c]
    exact ⟨Keep.refl _, val_int.mpr rfl⟩
  · rename_i t _
    cases q : itemsT t with
    | none => rw [q] at e; cases e
    | some us => rw [q] at e; exact key t us rfl q e
  · cases e
def intT (ts : List T) : Option T := match ts with
  | [.int i] => some (.int i)
  | [.bl k] => some (.int (if k then 1 else 0))
  | _ => none
theorem c_int : SCl intD intT := fun A h xs ts v big r e => by
  unfold intT at e
  split at e
  · obtain ⟨d, rfl, r1⟩ := bvs1 r; rw [bv_int r1]; cases e; exact ⟨Keep.refl _, val_int.mpr rfl⟩
  · obtain ⟨d, rfl, r1⟩ := bvs1 r; rw [bv_bl r1]; cases e; exact ⟨Keep.refl _, val_int.mpr rfl⟩
  · cases e
def absT (ts : List T) : Option T := match ts with
  | [.int i] => some (.int (if i < 0 then -i else i))
  | _ => none
theorem c_abs : SCl absD absT := fun A h xs ts v big r e => by
  unfold absT at e
  split at e
  · obtain ⟨d, rfl, r1⟩ := bvs1 r; rw [bv_int r1]; cases e; exact ⟨Keep.refl _, val_int.mpr rfl⟩
  · cases e
def max2T (ts : List T) : Option T := match ts with
  | [.int i, .int j] => some (.int (if j > i then j else i))
  | _ => none
theorem c_max2 : SCl max2D max2T := fun A h xs ts v big r e => by
  unfold max2T at e
  split at e
  · obtain ⟨d, e', rfl, r1, r2⟩ := bvs2 r; rw [bv_int r1, bv_int r2]; cases e; exact ⟨Keep.refl _, val_int.mpr rfl⟩
  · cases e
def min2T (ts : List T) : Option T := match ts with
  | [.int i, .int j] => some (.int (if j < i then j else i))
  | _ => none
theorem c_min2 : SCl min2D min2T := fun A h xs ts v big r e => by
  unfold min2T at e
  split at e
  · obtain ⟨d, e', rfl, r1, r2⟩ := bvs2 r; rw [bv_int r1, bv_int r2]; cases e; exact ⟨Keep.refl _, val_int.mpr rfl⟩
  · cases e
def lstT (ts : List T) : Option T := match ts with
  | [x] => (itemsT x).map .lst
  | _ => none
theorem x_lst : SClX lstD lstT := fun A h xs ts v big r e => by
  unfold lstT at e
  split at e
  · rename_i t
    obtain ⟨d, rfl, r1⟩ := bvs1 r
    obtain ⟨us, q, rfl⟩ := map_some e
    obtain ⟨ys, i1, i2, i3⟩ := items_bv r1 q
    simp only [lstD, i1]
    exact ⟨Keep.app _ _, new_of i2⟩
  · cases e
def tupT (ts : List T) : Option T := match ts with
  | [x] => (itemsT x).map .tup
  | _ => none
def tyT : T → Option Ty
  | .non => some .non
  | .bl _ => some .bool
  | .int _ => some .int
  | .str _ => some .str
  | .tup _ => some .tuple
  | .lst _ => some .list
  | .fro _ => some .list
  | .dic _ => some .dict
  | .obj _ _ => none
  | .dit _ _ => none
theorem ty_bv {A : Nat → Prop} {h : DH} {t : T} {d : D} (r : BV A h t d) {S : Ty} (e : tyT t = some S) : tyD d h = some S := by
  cases t with
  | non => rw [bv_non r]; exact e
  | bl b => rw [bv_bl r]; exact e
  | int b => rw [bv_int r]; exact e
  | str b => rw [bv_str r]; exact e
  | tup ts => obtain ⟨xs, rfl, _⟩ := bv_tup r; exact e
  | lst ts => obtain ⟨n, xs, rfl, q, _⟩ := r; simp only [tyD, q]; exact e
  | fro ts => obtain ⟨n, xs, rfl, _, q, _⟩ := bv_fro r; simp only [tyD, q]; exact e
  | dic ts => obtain ⟨n, xs, rfl, q, _⟩ := r; simp only [tyD, q]; exact e
  | obj c fs => cases e
  | dit c fs => cases e
end Fu
namespace Fu
open PySem L2 Mi
def fC (t : T) : FE := fun _ => some t
def fVar (i : Nat) : FE := fun e => e.getD i none
def fOp (g : T → T → Option T) (a b : FE) : FE := fun e => (a e).bind fun t => (b e).bind fun u => g t u
def fUn (g : T → Option T) (a : FE) : FE := fun e => (a e).bind g
def fNil : FA := fun _ => some []
def fCons (a : FE) (r : FA) : FA := fun e => (a e).bind fun t => (r e).bind fun ts => some (t :: ts)
def fStar (a : FE) (r : FA) : FA := fun e => (a e).bind fun t => (itemsT t).bind fun us => (r e).bind fun ts => some (us ++ ts)
def fTup (a : FA) : FE := fun e => (a e).bind fun ts => if ts.length ≤ 16777216 then some (.tup ts) else none
def fLst (a : FA) : FE := fun e => (a e).bind fun ts => if ts.length ≤ 16777216 then some (.lst ts) else none
def fCB (g : List T → Option T) (a : FA) : FE := fun e => (a e).bind g
def fCBF (g : List T → Option T) (a : FA) : FE := fun e => (a e).bind fun ts => (g ts).bind fun t => if flatT t = true then some t else none
def fTest (a : FE) : FT := fun e => (a e).bind fun t => match t with | .bl b => some b | _ => none
def fNot (t : FT) : FT := fun e => (t e).map (!·)
def fAnd (t u : FT) : FT := fun e => (t e).bind fun b => if b then u e else some false
def fOr (t u : FT) : FT := fun e => (t e).bind fun b => if b then some true else u e
def fYes : FT := fun _ => some true
def fNotV (a : FE) : FE := fun e => (a e).bind fun t => match t with | .bl b => some (.bl (!b)) | _ => none
def fAndV (a b : FE) : FE := fun e => (a e).bind fun t => match t with | .bl c => (if c then b e else some (.bl false)) | _ => none
def fOrV (a b : FE) : FE := fun e => (a e).bind fun t => match t with | .bl c => (if c then some (.bl true) else b e) | _ => none
def fIf (t : FT) (a b : FE) : FE := fun e => (t e).bind fun c => if c then a e else b e
def foNone : FO := fun _ => some none
def foSome (a : FE) : FO := fun e => (a e).bind fun t => match t with | .int i => some (some i) | _ => none
def fSl (g : T → Option Int → Option Int → Option T) (a : FE) (lo hi : FO) : FE := fun e => (a e).bind fun t => (lo e).bind fun l => (hi e).bind fun u => g t l u
def fChain (f g : T → T → Option T) (a b c : FE) : FE := fun e => (a e).bind fun x => (b e).bind fun y => (f x y).bind fun z => match z with | .bl k => (if k then (c e).bind fun w => g y w else some (.bl false)) | _ => none
def fIsi (S : Ty) (a : FE) : FE := fun e => (a e).bind fun t => (tyT t).map fun U => .bl (subTy U S)
def negT : T → Option T
  | .int i => some (.int (-i))
  | _ => none
def fLook (tbl : List (Str × T)) (z : Str) : Option T := match tbl with
  | [] => none
  | p :: r => if p.1 = z then some p.2 else fLook r z
def fKD (tbl : List (Str × T)) (a : FE) : FE := fun e => (a e).bind fun t => match t with | .str z => fLook tbl z | _ => none
def fKIn (neg : Bool) (tbl : List (Str × T)) (a : FE) : FE := fun e => (a e).bind fun t => match t with | .str z => some (.bl (if neg then !(fLook tbl z).isSome else (fLook tbl z).isSome)) | _ => none
def wipeT (e : FSt) : List Nat → FSt
  | [] => e
  | v :: vs => (wipeT e vs).set v none
def lcT (j : Nat) (ft : FT) (fe : FE) (e : FSt) : List T → Option (List T)
  | [] => some []
  | x :: xs => (ft (e.set j (some x))).bind fun c => if c then (fe (e.set j (some x))).bind fun t => (lcT j ft fe e xs).map (t :: ·) else lcT j ft fe e xs
abbrev FI := FSt → Option (List T)
def fLc (fi : FI) (j : Nat) (ft : FT) (fe : FE) (vs : List Nat) : FE := fun e => (fi e).bind fun ts => if ts.length ≤ 16777216 then (lcT j ft fe (wipeT e vs) ts).map .lst else none
def fSeq (a : FE) : FI := fun e => (a e).bind itemsT
def rngT (lo : Int) (n : Nat) : List T := (List.range n).map fun i : Nat => T.int (lo + (i : Nat))
@[irreducible] def fR1 (a : FE) : FI := fun e => (a e).bind fun t => match t with | .int j => if -(2 ^ 62) ≤ j ∧ j < 2 ^ 62 then some (rngT 0 j.toNat) else none | _ => none
@[irreducible] def fR2 (a b : FE) : FI := fun e => (a e).bind fun t => (b e).bind fun u => match t, u with | .int i, .int j => if -(2 ^ 62) ≤ i ∧ i < 2 ^ 62 ∧ -(2 ^ 62) ≤ j ∧ j < 2 ^ 62 then some (rngT i (j - i).toNat) else none | _, _ => none
abbrev Any : Nat → Prop := fun _ => True
def ItV (A : Nat → Prop) (h : DH) (ts : List T) (it : Itd) : Prop := ∃ xs, Vals A h ts xs ∧ it.len h = xs.length ∧ ∀ h', KeepIn A h h' → ∀ i, it.at_ i h' = some xs[i]?
section
variable (w : Ws)
/-- a value to be shared -/
def SE (m : EM) (f : FE) : Prop := ∀ A X own ds h e, Rel A X w own ds h e → ∀ t, f e = some t → SatE (m ds h) fun d h' => Keep h h' ∧ Val (Al A w own) h' t d
/-- a list to be looked at, its items to be shared -/
def SB (m : EM) (f : FE) : Prop := ∀ A X own ds h e, Rel A X w own ds h e → ∀ t, f e = some t → SatE (m ds h) fun d h' => Keep h h' ∧ BV (Al A w own) h' t d
/-- a value to be looked at -/
def SN (m : EM) (f : FE) : Prop := ∀ A X own ds h e, Rel A X w own ds h e → ∀ t, f e = some t → SatE (m ds h) fun d h' => Keep h h' ∧ Val Any h' t d
/-- a new thing of a shape -/
def SX (sh : Sh) (m : EM) (f : FE) : Prop := ∀ A X own ds h e, Rel A X w own ds h e → ∀ t, f e = some t → SatE (m ds h) fun d h' => Keep h h' ∧ ∃ S, Od (fun m => Al A w own m ∧ m ∉ S) h' sh t d S ∧ S.Nodup ∧ ∀ x ∈ S, h.length ≤ x
def SA (m : AM) (f : FA) : Prop := ∀ A X own ds h e, Rel A X w own ds h e → ∀ t, f e = some t → SatE (m ds h) fun d h' => Keep h h' ∧ Vals (Al A w own) h' t d
def SBA (m : AM) (f : FA) : Prop := ∀ A X own ds h e, Rel A X w own ds h e → ∀ t, f e = some t → SatE (m ds h) fun d h' => Keep h h' ∧ BVs (Al A w own) h' t d
def SNA (m : AM) (f : FA) : Prop := ∀ A X own ds h e, Rel A X w own ds h e → ∀ t, f e = some t → SatE (m ds h) fun d h' => Keep h h' ∧ Vals Any h' t d
def ST (m : TM) (f : FT) : Prop := ∀ A X own ds h e, Rel A X w own ds h e → ∀ t, f e = some t → SatE (m ds h) fun d h' => Keep h h' ∧ d = t
def SO (m : DSt → DH → Res (Option Int)) (f : FO) : Prop := ∀ A X own ds h e, Rel A X w own ds h e → ∀ t, f e = some t → SatE (m ds h) fun d h' => Keep h h' ∧ d = t
def SI (m : IM) (f : FI) : Prop := ∀ A X own ds h e, Rel A X w own ds h e → ∀ t, f e = some t → SatE (m ds h) fun d h' => Keep h h' ∧ ItV (Al A w own) h' t d
end
def RetV (sh : Sh) (A : Nat → Prop) (b : Nat) (h : DH) (t : T) (d : D) : Prop := ∃ S, Od (fun m => A m ∧ m ∉ S) h sh t d S ∧ S.Nodup ∧ ∀ x ∈ S, b ≤ x
theorem ret_s {A : Nat → Prop} {b : Nat} {h : DH} {t : T} {d : D} : RetV .s A b h t d ↔ Val A h t d := by
  unfold RetV
  simp only [Od]
  constructor
  · rintro ⟨S, ⟨rfl, v⟩, _⟩; exact v.sub fun m a _ => a.1
  · intro v; exact ⟨[], ⟨rfl, v.sub fun m a _ => ⟨a, fun z => nomatch z⟩⟩, List.nodup_nil, fun x z => nomatch z⟩
def SF (sh : Sh) (F : List D → DH → Res D) (G : List T → Option T) : Prop := ∀ A xs ts h, (∀ m, h.length ≤ m → A m) → Vals A h ts xs → ∀ t, G ts = some t → SatE (F xs h) fun d h' => Keep h h' ∧ RetV sh A h.length h' t d
theorem bind_some {α β : Type} {o : Option α} {f : α → Option β} {b : β} (e : o.bind f = some b) : ∃ a, o = some a ∧ f a = some b := by
  cases o with
  | none => cases e
  | some a => exact ⟨a, rfl, e⟩
theorem BV.any {A : Nat → Prop} {h : DH} {t : T} {d : D} (r : BV A h t d) : Val Any h t d := by
  cases t with
  | lst ts => obtain ⟨n, xs, rfl, q, v⟩ := r; exact val_lst.mpr ⟨n, xs, rfl, trivial, q, v.sub fun _ _ _ => trivial⟩
  | dic ts => obtain ⟨n, xs, rfl, q, v⟩ := r; exact val_dic.mpr ⟨n, xs, rfl, trivial, q, ValsK.mono (fun _ _ _ => trivial) (KeepIn.refl _ _) _ _ v⟩
  | obj c ts => obtain ⟨n, xs, rfl, q, v⟩ := r; exact val_obj.mpr ⟨n, xs, rfl, trivial, q, ValsO.mono (fun _ _ _ => trivial) (KeepIn.refl _ _) _ _ v⟩
  | dit ks vs => obtain ⟨n, xs, rfl, q, l, v⟩ := r; exact val_dit.mpr ⟨n, _, rfl, trivial, q, xs, rfl, l, v.sub fun _ _ _ => trivial⟩
  | _ => exact Val.sub (A := A) r fun _ _ _ => trivial
theorem flat_ind {A B : Nat → Prop} {h : DH} {t : T} {d : D} (f : flatT t = true) (v : Val A h t d) : Val B h t d := by
  cases t with
  | non => exact val_non.mpr (val_non.mp v)
  | bl b => exact val_bl.mpr (val_bl.mp v)
  | int b => exact val_int.mpr (val_int.mp v)
  | str b => exact val_str.mpr (val_str.mp v)
  | _ => cases f
theorem newV_od {A : Nat → Prop} {h h' : DH} {v : T} {d : D} (n : NewV A h h' v d) : ∃ S, Od (fun m => A m ∧ m ∉ S) h' (.l .s) v d S ∧ S.Nodup ∧ ∀ x ∈ S, h.length ≤ x := by
  obtain ⟨n, ts, xs, rfl, rfl, l, q, o⟩ := n
  refine ⟨[n], ?_, by simp, fun x hx => by rw [List.mem_singleton.mp hx]; exact l⟩
  simp only [Od]
  exact ⟨ts, n, xs, [], rfl, rfl, rfl, q, OdL.of_vals (o.sub fun m a _ => ⟨a.1, by simpa using a.2⟩)⟩
def isS : Sh → Bool
  | .s => true
  | _ => false
/-- a shape all parts of which are shared -/
def flatSh : Sh → Bool
  | .s => true
  | .l e => isS e
  | .d e => isS e
  | .m (.l e) => isS e
  | .m _ => false
  | .t es => es.all isS
  | .o _ _ es => es.all isS
  | .k => true
theorem isS_eq {e : Sh} (h : isS e = true) : e = .s := by cases e <;> first | rfl | cases h
theorem odT_s {A : Nat → Prop} {h : DH} : ∀ {es : List Sh} {ts : List T} {xs : List D} {S : List Nat}, es.all isS = true → OdT A h es ts xs S → Vals A h ts xs
  | [], ts, xs, S, _, r => by simp only [OdT] at r; rw [r.1, r.2.1]; exact Vals.nil
  | e :: es, ts, xs, S, f, r => by
    simp only [List.all_cons, Bool.and_eq_true] at f
    simp only [OdT] at r
    obtain ⟨t, ts', d, ds, S1, S2, rfl, rfl, rfl, r1, r2⟩ := r
    rw [isS_eq f.1] at r1
    simp only [Od] at r1
    exact Vals.cons r1.2 (odT_s f.2 r2)
theorem od_bv {A : Nat → Prop} {h : DH} {sh : Sh} {t : T} {d : D} {S : List Nat} (f : flatSh sh = true) (o : Od A h sh t d S) : BV A h t d := by
  cases sh with
  | s => simp only [Od] at o; exact o.2.bv
  | l e =>
    rw [isS_eq f] at o
    simp only [Od] at o
    obtain ⟨ts, n, xs, S', rfl, rfl, _, q, ol⟩ := o
    exact ⟨n, xs, rfl, q, (OdL.to_vals ol).1⟩
  | d e =>
    rw [isS_eq f] at o
    simp only [Od] at o
    obtain ⟨ts, n, xs, S', rfl, rfl, _, q, q2, ol⟩ := o
    exact ⟨n, xs, rfl, q, valsK_of q2 (OdL.to_vals ol).1⟩
  | m e =>
    cases e with
    | l e =>
      rw [isS_eq f] at o
      simp only [Od] at o
      rcases o with ⟨_, rfl, rfl⟩ | o
      · show Val A h .non .non; exact val_non.mpr rfl
      · obtain ⟨ts, n, xs, S', rfl, rfl, _, q, ol⟩ := o
        exact ⟨n, xs, rfl, q, (OdL.to_vals ol).1⟩
    | _ => cases f
  | t es =>
    simp only [Od] at o
    obtain ⟨ts, xs, rfl, rfl, o⟩ := o
    exact val_tup.mpr ⟨xs, rfl, odT_s f o⟩
  | o c ns es =>
    simp only [Od] at o
    obtain ⟨gs, n, ws, S', rfl, rfl, _, q, q2, q3, o⟩ := o
    exact ⟨n, ws, rfl, q, valsO_of (q2.trans q3.symm) (odT_s f o)⟩
  | k =>
    simp only [Od] at o
    obtain ⟨us, vs, n, xs, rfl, rfl, rfl, q, l, r⟩ := o
    exact ⟨n, xs, rfl, q, l, r⟩
def FlatR (g : T → T → Option T) : Prop := ∀ t u v, g t u = some v → flatT v = true
def FlatC (g : List T → Option T) : Prop := ∀ t v, g t = some v → flatT v = true
theorem fr_ii {g : Int → Int → Option T} (k : ∀ i j v, g i j = some v → flatT v = true) : FlatR (iiT g) := fun t u v e => by
  obtain ⟨i, j, _, _, e⟩ := iiT_ok t u v e
  exact k i j v e
theorem fr_sub : FlatR subT := fr_ii fun i j v e => by cases e; rfl
theorem fr_lt : FlatR ltT := fr_ii fun i j v e => by cases e; rfl
theorem fr_le : FlatR leT := fr_ii fun i j v e => by cases e; rfl
theorem fr_gt : FlatR gtT := fr_ii fun i j v e => by cases e; rfl
theorem fr_fdiv : FlatR fdivT := fr_ii fun i j v e => by obtain ⟨_, rfl⟩ := ite_some e; rfl
theorem fr_mod : FlatR modT := fr_ii fun i j v e => by obtain ⟨_, rfl⟩ := ite_some e; rfl
theorem fr_pow : FlatR powT := fr_ii fun i j v e => by obtain ⟨_, rfl⟩ := ite_some e; rfl
theorem fr_bl {f : T → T → Option Bool} : FlatR (oBl f) := fun t u v e => by obtain ⟨b, _, rfl⟩ := map_some e; rfl
theorem fr_nb {f : T → T → Option Bool} : FlatR (oNb f) := fun t u v e => by obtain ⟨b, _, rfl⟩ := map_some e; rfl
theorem fr_memD {n : Bool} : FlatR (memDT n) := fun t u v e => by
  unfold memDT at e
  split at e
  · cases e; rfl
  · split at e
    · split at e
      · cases e
      · obtain ⟨b, _, rfl⟩ := map_some e; rfl
    · split at e
      · cases e
      · obtain ⟨b, _, rfl⟩ := map_some e; rfl
    · cases e
theorem fc_len : FlatC lenT := fun t v e => by
  unfold lenT at e
  split at e
  · obtain ⟨_, rfl⟩ := ite_some e; rfl
  · obtain ⟨b, _, rfl⟩ := map_some e; rfl
  · cases e
theorem fc_int : FlatC intT := fun t v e => by unfold intT at e; split at e <;> cases e <;> rfl
theorem fc_abs : FlatC absT := fun t v e => by unfold absT at e; split at e <;> cases e <;> rfl
theorem fc_max2 : FlatC max2T := fun t v e => by unfold max2T at e; split at e <;> cases e <;> rfl
theorem fc_min2 : FlatC min2T := fun t v e => by unfold min2T at e; split at e <;> cases e <;> rfl
section
variable {w : Ws} {m ma mb mc : EM} {f fa fb fc : FE} {mr : AM} {fr : FA} {g g' : D → D → DH → Res D} {G G' : T → T → Option T} {t u : TM} {ft fu : FT} {sh : Sh}
theorem SE.sb (s : SE w m f) : SB w m f := fun A X own ds h e r t q => (s A X own ds h e r t q).imp fun d h' ⟨k, v⟩ => ⟨k, v.bv⟩
theorem SB.sn (s : SB w m f) : SN w m f := fun A X own ds h e r t q => (s A X own ds h e r t q).imp fun d h' ⟨k, v⟩ => ⟨k, v.any⟩
theorem SE.sn (s : SE w m f) : SN w m f := s.sb.sn
theorem SX.se (s : SX w sh m f) : SE w m f := fun A X own ds h e r t q => (s A X own ds h e r t q).imp fun d h' ⟨k, S, o, nd, hS⟩ => ⟨k, Od.val (fun m a _ => a.1) _ _ _ _ (fun m hm => r.bigAl m (hS m hm)) o⟩
theorem SE.sx (s : SE w m f) : SX w .s m f := fun A X own ds h e r t q => (s A X own ds h e r t q).imp fun d h' ⟨k, v⟩ => ⟨k, [], by simp only [Od, true_and]; exact v.sub fun m a _ => ⟨a, fun z => nomatch z⟩, List.nodup_nil, fun x z => nomatch z⟩
theorem se_c {d : D} {t : T} (hv : ∀ A h, Val A h t d) : SE w (mC d) (fC t) := fun A X own ds h e r t q => by cases q; exact ⟨Keep.refl _, hv _ _⟩
theorem se_var {i : Nat} (hi : ∀ p ∈ w, p.1 ≠ i) : SE w (mVar i) (fVar i) := fun A X own ds h e r t q => by
  obtain ⟨d, q1, q2⟩ := r.sh i t hi q
  unfold mVar
  rw [q1]
  exact ⟨Keep.refl _, q2⟩
theorem sb_var {i : Nat} (hi : ∀ p ∈ w, p.1 = i → flatSh p.2 = true) : SB w (mVar i) (fVar i) := fun A X own ds h e r t q => by
  by_cases c : ∃ p ∈ w, p.1 = i
  · obtain ⟨p, hp, rfl⟩ := c
    obtain ⟨_, _, u, d, a2, a3, a4⟩ := r.ow p hp
    unfold mVar
    rw [a3]
    have q : e.getD p.1 none = some t := q
    rw [a2] at q
    cases q
    exact ⟨Keep.refl _, od_bv (hi p hp rfl) a4⟩
  · exact (se_var fun p hp z => c ⟨p, hp, z⟩).sb A X own ds h e r t q
theorem sn_var {i : Nat} : SN w (mVar i) (fVar i) := fun A X own ds h e r t q => by
  by_cases c : ∃ p ∈ w, p.1 = i
  · obtain ⟨p, hp, rfl⟩ := c
    obtain ⟨_, _, u, d, a2, a3, a4⟩ := r.ow p hp
    unfold mVar
    rw [a3]
    have q : e.getD p.1 none = some t := q
    rw [a2] at q
    cases q
    exact ⟨Keep.refl _, Od.val (fun _ _ _ => trivial) _ _ _ _ (fun _ _ => trivial) a4⟩
  · exact (se_var fun p hp z => c ⟨p, hp, z⟩).sn A X own ds h e r t q
theorem any_big {h : DH} : ∀ m, h.length ≤ m → Any m := fun _ _ => trivial
theorem se_op (hs : SOp g G) (ha : SB w ma fa) (hb : SB w mb fb) : SE w (mOp g ma mb) (fOp G fa fb) := fun A X own ds h e r t q => by
  obtain ⟨x, q1, q⟩ := bind_some q
  obtain ⟨y, q2, q⟩ := bind_some q
  rw [w_op]
  refine (ha A X own ds h e r x q1).imp fun dx h1 ⟨k1, v1⟩ => ?_
  refine (hb A X own ds h1 e (r.keep k1) y q2).imp fun dy h2 ⟨k2, v2⟩ => ?_
  exact (hs _ h2 dx dy x y t ((r.keep k1).keep k2).bigAl (v1.keep k2) v2 q).imp fun d h3 ⟨k3, v3⟩ => ⟨(k1.trans k2).trans k3, v3⟩
theorem sn_op (hs : SOp g G) (ha : SN w ma fa) (hb : SN w mb fb) : SN w (mOp g ma mb) (fOp G fa fb) := fun A X own ds h e r t q => by
  obtain ⟨x, q1, q⟩ := bind_some q
  obtain ⟨y, q2, q⟩ := bind_some q
  rw [w_op]
  refine (ha A X own ds h e r x q1).imp fun dx h1 ⟨k1, v1⟩ => ?_
  refine (hb A X own ds h1 e (r.keep k1) y q2).imp fun dy h2 ⟨k2, v2⟩ => ?_
  exact (hs _ h2 dx dy x y t any_big (v1.keep k2).bv v2.bv q).imp fun d h3 ⟨k3, v3⟩ => ⟨(k1.trans k2).trans k3, v3⟩
theorem se_opF (hs : SOp g G) (hf : FlatR G) (ha : SN w ma fa) (hb : SN w mb fb) : SE w (mOp g ma mb) (fOp G fa fb) := fun A X own ds h e r t q => by
  have ft : flatT t = true := by
    obtain ⟨x, q1, q⟩ := bind_some q
    obtain ⟨y, q2, q⟩ := bind_some q
    exact hf x y t q
  exact (sn_op hs ha hb A X own ds h e r t q).imp fun d h3 ⟨k3, v3⟩ => ⟨k3, flat_ind ft v3⟩
theorem se_neg (ha : SN w ma fa) : SE w (mUn negD ma) (fUn negT fa) := fun A X own ds h e r t q => by
  obtain ⟨x, q1, q⟩ := bind_some q
  rw [w_un]
  refine (ha A X own ds h e r x q1).imp fun dx h1 ⟨k1, v1⟩ => ?_
  cases x with
  | int i => rw [val_int.mp v1]; cases q; exact ⟨k1, val_int.mpr rfl⟩
  | _ => cases q
theorem sa_nil : SA w aNil fNil := fun A X own ds h e r t q => by cases q; exact ⟨Keep.refl _, Vals.nil⟩
theorem sa_cons (ha : SE w ma fa) (hr : SA w mr fr) : SA w (aCons ma mr) (fCons fa fr) := fun A X own ds h e r t q => by
  obtain ⟨x, q1, q⟩ := bind_some q
  obtain ⟨xs, q2, q⟩ := bind_some q
  cases q
  rw [w_cons]
  refine (ha A X own ds h e r x q1).imp fun dx h1 ⟨k1, v1⟩ => ?_
  exact (hr A X own ds h1 e (r.keep k1) xs q2).imp fun dy h2 ⟨k2, v2⟩ => ⟨k1.trans k2, Vals.cons (v1.keep k2) v2⟩
theorem sba_nil : SBA w aNil fNil := fun A X own ds h e r t q => by cases q; exact ⟨Keep.refl _, rfl⟩
theorem sba_cons (ha : SB w ma fa) (hr : SBA w mr fr) : SBA w (aCons ma mr) (fCons fa fr) := fun A X own ds h e r t q => by
  obtain ⟨x, q1, q⟩ := bind_some q
  obtain ⟨xs, q2, q⟩ := bind_some q
  cases q
  rw [w_cons]
  refine (ha A X own ds h e r x q1).imp fun dx h1 ⟨k1, v1⟩ => ?_
  exact (hr A X own ds h1 e (r.keep k1) xs q2).imp fun dy h2 ⟨k2, v2⟩ => ⟨k1.trans k2, dx, dy, rfl, v1.keep k2, v2⟩
theorem sna_nil : SNA w aNil fNil := fun A X own ds h e r t q => by cases q; exact ⟨Keep.refl _, Vals.nil⟩
theorem sna_cons (ha : SN w ma fa) (hr : SNA w mr fr) : SNA w (aCons ma mr) (fCons fa fr) := fun A X own ds h e r t q => by
  obtain ⟨x, q1, q⟩ := bind_some q
  obtain ⟨xs, q2, q⟩ := bind_some q
  cases q
  rw [w_cons]
  refine (ha A X own ds h e r x q1).imp fun dx h1 ⟨k1, v1⟩ => ?_
  exact (hr A X own ds h1 e (r.keep k1) xs q2).imp fun dy h2 ⟨k2, v2⟩ => ⟨k1.trans k2, Vals.cons (v1.keep k2) v2⟩
theorem se_tup (hr : SA w mr fr) : SE w (mTup mr) (fTup fr) := fun A X own ds h e r t q => by
  obtain ⟨xs, q1, q⟩ := bind_some q
  obtain ⟨l, rfl⟩ := ite_some q
  rw [w_tup]
  exact (hr A X own ds h e r xs q1).imp fun dx h1 ⟨k1, v1⟩ => ⟨by rw [v1.length]; exact l, k1, val_tup.mpr ⟨_, rfl, v1⟩⟩
/-- a list of shared things, some of them spread -/
theorem sx_lstS (hr : SA w mr fr) : SX w (.l .s) (mLst mr) (fLst fr) := fun A X own ds h e r t q => by
  obtain ⟨xs, q1, q⟩ := bind_some q
  obtain ⟨l, rfl⟩ := ite_some q
  rw [w_lst]
  refine (hr A X own ds h e r xs q1).imp fun dx h1 ⟨k1, v1⟩ => ⟨by rw [v1.length]; exact l, k1.trans (Keep.app _ _), ?_⟩
  obtain ⟨S, o, nd, hS⟩ := newV_od (new_of v1)
  exact ⟨S, o, nd, fun x hx => Nat.le_trans k1.len (hS x hx)⟩
theorem se_cb {F : List D → DH → Res D} {H : List T → Option T} (hs : SCl F H) (hr : SBA w mr fr) : SE w (mCB F mr) (fCB H fr) := fun A X own ds h e r t q => by
  obtain ⟨xs, q1, q⟩ := bind_some q
  rw [w_cb]
  refine (hr A X own ds h e r xs q1).imp fun dx h1 ⟨k1, v1⟩ => ?_
  exact (hs _ h1 dx xs t (r.keep k1).bigAl v1 q).imp fun d h2 ⟨k2, v2⟩ => ⟨k1.trans k2, v2⟩
theorem vals_bvs {A : Nat → Prop} {h : DH} : ∀ {ts : List T} {xs : List D}, Vals A h ts xs → BVs A h ts xs
  | [], xs, v => by simp only [Vals] at v; exact v
  | t :: ts, xs, v => by
    simp only [Vals] at v
    obtain ⟨d, ds, e, v1, v2⟩ := v
    exact ⟨d, ds, e, v1.bv, vals_bvs v2⟩
theorem se_cbF {F : List D → DH → Res D} {H : List T → Option T} (hs : SCl F H) (hf : FlatC H) (hr : SNA w mr fr) : SE w (mCB F mr) (fCB H fr) := fun A X own ds h e r t q => by
  obtain ⟨xs, q1, q⟩ := bind_some q
  rw [w_cb]
  refine (hr A X own ds h e r xs q1).imp fun dx h1 ⟨k1, v1⟩ => ?_
  exact (hs _ h1 dx xs t any_big (vals_bvs v1) q).imp fun d h2 ⟨k2, v2⟩ => ⟨k1.trans k2, flat_ind (hf _ _ q) v2⟩
theorem sx_cb {F : List D → DH → Res D} {H : List T → Option T} (hs : SClX F H) (hr : SBA w mr fr) : SX w (.l .s) (mCB F mr) (fCB H fr) := fun A X own ds h e r t q => by
  obtain ⟨xs, q1, q⟩ := bind_some q
  rw [w_cb]
  refine (hr A X own ds h e r xs q1).imp fun dx h1 ⟨k1, v1⟩ => ?_
  refine (hs _ h1 dx xs t (r.keep k1).bigAl v1 q).imp fun d h2 ⟨k2, v2⟩ => ⟨k1.trans k2, ?_⟩
  obtain ⟨S, o, nd, hS⟩ := newV_od v2
  exact ⟨S, o, nd, fun x hx => Nat.le_trans k1.len (hS x hx)⟩
theorem sx_call {F : List D → DH → Res D} {H : List T → Option T} (hF : SF sh F H) (hr : SA w mr fr) : SX w sh (mCB F mr) (fCB H fr) := fun A X own ds h e r t q => by
  obtain ⟨xs, q1, q⟩ := bind_some q
  rw [w_cb]
  refine (hr A X own ds h e r xs q1).imp fun dx h1 ⟨k1, v1⟩ => ?_
  exact (hF _ dx xs h1 (r.keep k1).bigAl v1 t q).imp fun d h2 ⟨k2, S, o, nd, hS⟩ => ⟨k1.trans k2, S, o, nd, fun x hx => Nat.le_trans k1.len (hS x hx)⟩
theorem se_call {F : List D → DH → Res D} {H : List T → Option T} (hF : SF sh F H) (hr : SA w mr fr) : SE w (mCB F mr) (fCB H fr) := (sx_call hF hr).se
theorem st_test (ha : SN w ma fa) : ST w (mTest ma) (fTest fa) := fun A X own ds h e r t q => by
  obtain ⟨x, q1, q⟩ := bind_some q
  rw [w_test]
  refine (ha A X own ds h e r x q1).imp fun dx h1 ⟨k1, v1⟩ => ?_
  cases x with
  | bl c' => cases q; exact ⟨_, val_bl.mp v1, k1, rfl⟩
  | _ => cases q
theorem st_not (ht : ST w t ft) : ST w (mNot t) (fNot ft) := fun A X own ds h e r c q => by
  obtain ⟨x, q1, rfl⟩ := map_some q
  rw [w_not]
  exact (ht A X own ds h e r x q1).imp fun dx h1 ⟨k1, v1⟩ => ⟨k1, by rw [v1]⟩
theorem st_and (ht : ST w t ft) (hu : ST w u fu) : ST w (mAnd t u) (fAnd ft fu) := fun A X own ds h e r c q => by
  obtain ⟨x, q1, q⟩ := bind_some q
  rw [w_and]
  refine (ht A X own ds h e r x q1).imp fun dx h1 ⟨k1, v1⟩ => ?_
  subst v1
  cases dx with
  | true => exact (hu A X own ds h1 e (r.keep k1) c q).imp fun dy h2 ⟨k2, v2⟩ => ⟨k1.trans k2, v2⟩
  | false => cases q; exact ⟨k1, rfl⟩
theorem st_or (ht : ST w t ft) (hu : ST w u fu) : ST w (mOr t u) (fOr ft fu) := fun A X own ds h e r c q => by
  obtain ⟨x, q1, q⟩ := bind_some q
  rw [w_or]
  refine (ht A X own ds h e r x q1).imp fun dx h1 ⟨k1, v1⟩ => ?_
  subst v1
  cases dx with
  | false => exact (hu A X own ds h1 e (r.keep k1) c q).imp fun dy h2 ⟨k2, v2⟩ => ⟨k1.trans k2, v2⟩
  | true => cases q; exact ⟨k1, rfl⟩
theorem se_not (ha : SN w ma fa) : SE w (mNotV ma) (fNotV fa) := fun A X own ds h e r t q => by
  obtain ⟨x, q1, q⟩ := bind_some q
  rw [w_notV]
  refine (ha A X own ds h e r x q1).imp fun dx h1 ⟨k1, v1⟩ => ?_
  cases x with
  | bl c => cases q; exact ⟨c, val_bl.mp v1, k1, val_bl.mpr rfl⟩
  | _ => cases q
theorem se_and (ha : SN w ma fa) (hb : SE w mb fb) : SE w (mAndV ma mb) (fAndV fa fb) := fun A X own ds h e r t q => by
  obtain ⟨x, q1, q⟩ := bind_some q
  rw [w_andV]
  refine (ha A X own ds h e r x q1).imp fun dx h1 ⟨k1, v1⟩ => ?_
  cases x with
  | bl c =>
    refine ⟨c, val_bl.mp v1, ?_⟩
    cases c with
    | true => exact (hb A X own ds h1 e (r.keep k1) t q).imp fun dy h2 ⟨k2, v2⟩ => ⟨k1.trans k2, v2⟩
    | false => cases q; exact ⟨k1, val_bl.mpr rfl⟩
  | _ => cases q
theorem se_or (ha : SN w ma fa) (hb : SE w mb fb) : SE w (mOrV ma mb) (fOrV fa fb) := fun A X own ds h e r t q => by
  obtain ⟨x, q1, q⟩ := bind_some q
  rw [w_orV]
  refine (ha A X own ds h e r x q1).imp fun dx h1 ⟨k1, v1⟩ => ?_
  cases x with
  | bl c =>
    refine ⟨c, val_bl.mp v1, ?_⟩
    cases c with
    | false => exact (hb A X own ds h1 e (r.keep k1) t q).imp fun dy h2 ⟨k2, v2⟩ => ⟨k1.trans k2, v2⟩
    | true => cases q; exact ⟨k1, val_bl.mpr rfl⟩
  | _ => cases q
theorem so_none : SO w oNone foNone := fun A X own ds h e r c q => by cases q; exact ⟨Keep.refl _, rfl⟩
theorem so_some (ha : SN w ma fa) : SO w (oSome ma) (foSome fa) := fun A X own ds h e r t q => by
  obtain ⟨x, q1, q⟩ := bind_some q
  rw [w_oS]
  refine (ha A X own ds h e r x q1).imp fun dx h1 ⟨k1, v1⟩ => ?_
  cases x with
  | int i => cases q; exact ⟨i, val_int.mp v1, k1, rfl⟩
  | _ => cases q
variable {ol oh : DSt → DH → Res (Option Int)} {fl fh : FO}
theorem se_sl (ha : SB w ma fa) (hl : SO w ol fl) (hh : SO w oh fh) : SE w (mSl slD ma ol oh) (fSl slT fa fl fh) := fun A X own ds h e r t q => by
  obtain ⟨x, q1, q⟩ := bind_some q
  obtain ⟨l, q2, q⟩ := bind_some q
  obtain ⟨u, q3, q⟩ := bind_some q
  rw [w_sl]
  refine (ha A X own ds h e r x q1).imp fun dx h1 ⟨k1, v1⟩ => ?_
  refine (hl A X own ds h1 e (r.keep k1) l q2).imp fun dl h2 ⟨k2, v2⟩ => ?_
  refine (hh A X own ds h2 e ((r.keep k1).keep k2) u q3).imp fun du h3 ⟨k3, v3⟩ => ?_
  subst v2; subst v3
  exact (o_sl (((r.keep k1).keep k2).keep k3).bigAl ((v1.keep k2).keep k3) q).imp fun d h4 ⟨k4, v4⟩ => ⟨((k1.trans k2).trans k3).trans k4, v4⟩
theorem se_isi {S : Ty} (ha : SN w ma fa) : SE w (mIsi S ma) (fIsi S fa) := fun A X own ds h e r t q => by
  obtain ⟨x, q1, q⟩ := bind_some q
  obtain ⟨U, q2, rfl⟩ := map_some q
  rw [w_isi]
  exact (ha A X own ds h e r x q1).imp fun dx h1 ⟨k1, v1⟩ => ⟨_, ty_bv v1.bv q2, k1, val_bl.mpr rfl⟩
theorem si_seq (ha : SE w ma fa) : SI w (iSeq ma) (fSeq fa) := fun A X own ds h e r ts q => by
  obtain ⟨x, q1, q⟩ := bind_some q
  unfold iSeq
  rw [satE_bind]
  refine (ha A X own ds h e r x q1).imp fun dx h1 ⟨k1, v1⟩ => ?_
  cases x with
  | tup us =>
    cases q
    obtain ⟨xs, rfl, v⟩ := val_tup.mp v1
    exact ⟨k1, xs, v, rfl, fun _ _ _ => rfl⟩
  | lst us =>
    cases q
    obtain ⟨n, xs, rfl, a, hn, v⟩ := val_lst.mp v1
    simp only [hn]
    exact ⟨k1, xs, v, by simp only [Itd.len, hn], fun h' k i => by simp only [Itd.at_, k n _ a hn]⟩
  | fro us =>
    cases q
    obtain ⟨n, xs, rfl, a, hn, v⟩ := val_fro.mp v1
    simp only [hn]
    exact ⟨k1, xs, v, by simp only [Itd.len, hn], fun h' k i => by simp only [Itd.at_, k n _ a hn]⟩
  | _ => cases q
theorem rng_get {lo : Int} {n i : Nat} : ((List.range n).map fun i : Nat => D.int (lo + (i : Nat)))[i]? = if i < n then some (.int (lo + (i : Nat))) else none := by
  rw [List.getElem?_map]
  by_cases q : i < n
  · rw [List.getElem?_range q, if_pos q]; rfl
  · rw [if_neg q, List.getElem?_eq_none (by simpa using q)]; rfl
theorem rng_it {A : Nat → Prop} {h : DH} {lo : Int} {n : Nat} : ItV A h (rngT lo n) (.rng lo n) := by
  refine ⟨(List.range n).map fun i : Nat => D.int (lo + (i : Nat)), ?_, by simp [Itd.len], fun h' k i => ?_⟩
  · unfold rngT
    have key : ∀ l : List Nat, Vals A h (l.map fun i : Nat => T.int (lo + (i : Nat))) (l.map fun i : Nat => D.int (lo + (i : Nat))) := fun l => by
      induction l with
      | nil => exact Vals.nil
      | cons a r ih => exact Vals.cons (val_int.mpr rfl) ih
    exact key _
  · rw [rng_get]
    simp only [Itd.at_]
    by_cases q : i < n
    · rw [if_pos q, if_pos q]
    · rw [if_neg q, if_neg q]
theorem si_r1 (ha : SN w ma fa) : SI w (iR1 ma) (fR1 fa) := fun A X own ds h e r ts q => by
  unfold fR1 at q
  obtain ⟨x, q1, q⟩ := bind_some q
  rw [w_r1]
  refine (ha A X own ds h e r x q1).imp fun dx h1 ⟨k1, v1⟩ => ?_
  cases x with
  | int j =>
    obtain ⟨c, rfl⟩ := ite_some q
    exact ⟨j, val_int.mp v1, c, k1, rng_it⟩
  | _ => cases q
theorem Rel.wipes {A X : Nat → Prop} {own : Ow} {ds : DSt} {h : DH} {e : FSt} (r : Rel A X w own ds h e) : ∀ {vs : List Nat}, (∀ v ∈ vs, ∀ p ∈ w, p.1 ≠ v) → Rel A X w own (wipeD ds vs) h (wipeT e vs)
  | [], _ => r
  | v :: vs, hv => (Rel.wipes r (vs := vs) fun x hx => hv x (List.mem_cons_of_mem _ hx)).wipe (hv v List.mem_cons_self)
theorem sx_lc {mi : IM} {fi : FI} {j : Nat} {vs : List Nat} (hi : SI w mi fi) (ht : ST w t ft) (he : SX w sh ma fa) (hj : ∀ p ∈ w, p.1 ≠ j) (hv : ∀ v ∈ vs, ∀ p ∈ w, p.1 ≠ v) : SX w (.l sh) (mLc mi j t ma vs) (fLc fi j ft fa vs) := fun A X own ds h e r v q => by
  obtain ⟨ts, q1, q⟩ := bind_some q
  have hz : ts.length ≤ 16777216 := by
    by_cases c : ts.length ≤ 16777216
    · exact c
    · simp only [if_neg c] at q; cases q
  simp only [if_pos hz] at q
  obtain ⟨us, q2, rfl⟩ := map_some q
  rw [w_lc]
  refine (hi A X own ds h e r ts q1).imp fun it h1 ⟨k1, xs, vx, hlen, hat⟩ => ?_
  have r1 := (r.keep k1).wipes hv
  have kn : Keep h1 (h1 ++ [.lst []]) := Keep.app _ _
  rw [hlen]
  have core : ∀ (k i : Nat) (acc : List D) (us0 us1 : List T) (F : List Nat) (h2 : DH), k + i = xs.length + 1 → i ≤ xs.length → acc.length ≤ i → Fr h1.length (h1 ++ [.lst []]) h2 → (h1 ++ [DO.lst []]).length ≤ h2.length → h2[h1.length]? = some (.lst acc) →
      (∀ m ∈ F, h1.length < m) → F.Nodup → OdL (Od (fun m => Al A w own m ∧ m ∉ h1.length :: F) h2 sh) us0 acc F → lcT j ft fa (wipeT e vs) (ts.drop i) = some us1 →
      SatE (lcN it j t ma h1.length (wipeD ds vs) k i h2) fun d h' => Keep h h' ∧ ∃ S, Od (fun m => Al A w own m ∧ m ∉ S) h' (.l sh) (.lst (us0 ++ us1)) d S ∧ S.Nodup ∧ ∀ x ∈ S, h.length ≤ x := by
    intro k
    induction k with
    | zero => intro i acc us0 us1 F h2 e1 l; omega
    | succ k ih =>
      intro i acc us0 us1 F h2 e1 l la fr hl hn hF nF va hus
      have k12 : Keep h1 h2 := fr.keep kn (Nat.le_refl _)
      have hFl : ∀ m ∈ F, m < h2.length := OdL.lt (A := A) (fun t d U p => Od.lt _ t d U p) va
      simp only [lcN]
      rw [hat h2 (k12.kin _) i]
      cases qx : xs[i]? with
      | none =>
        have l2 : xs.length ≤ i := List.getElem?_eq_none_iff.mp qx
        have e2 : ts.drop i = [] := List.drop_eq_nil_of_le (by rw [← vx.length]; omega)
        rw [e2] at hus
        cases hus
        rw [List.append_nil]
        refine ⟨k1.trans k12, h1.length :: F, ?_, ?_, fun m hm => ?_⟩
        · simp only [Od]
          exact ⟨_, h1.length, acc, F, rfl, rfl, rfl, hn, va⟩
        · rw [List.nodup_cons]
          exact ⟨fun z => by have := hF _ z; omega, nF⟩
        · rcases List.mem_cons.mp hm with y | y
          · rw [y]; exact k1.len
          · have := hF m y; have := k1.len; omega
      | some x =>
        have hil : i < xs.length := (List.getElem?_eq_some_iff.mp qx).1
        have htl : i < ts.length := by rw [← vx.length]; exact hil
        obtain ⟨dx, d1, d2⟩ := vx.get (List.getElem?_eq_getElem htl)
        rw [qx] at d1
        cases d1
        rw [List.drop_eq_getElem_cons htl] at hus
        simp only [lcT] at hus
        obtain ⟨c, c1, hus⟩ := bind_some hus
        have hnl := lt_of_get hn
        have rk : Rel (fun m => A m ∧ m ∉ h1.length :: F) X w own (wipeD ds vs) h2 (wipeT e vs) := r1.avoid _ (fun m hm => by
          rcases List.mem_cons.mp hm with y | y
          · omega
          · have := hF m y; omega) k12 fun m hm => by
          rcases List.mem_cons.mp hm with y | y
          · rw [y]; exact hnl
          · exact hFl m y
        have rv := rk.put (i := j) hj (Val.mono (B := Al (fun m => A m ∧ m ∉ h1.length :: F) w own) (fun m a l => ⟨⟨a.1, fun z => by
          rcases List.mem_cons.mp z with y | y
          · omega
          · have := hF m y; omega⟩, a.2⟩) (k12.kin _) _ _ d2)
        obtain ⟨c', h3, z1, k3, z2⟩ := (ht _ X own _ h2 _ rv c c1).eq
        subst z2
        simp only [z1]
        have l3 := k3.len
        have va3 : OdL (Od (fun m => Al A w own m ∧ m ∉ h1.length :: F) h3 sh) us0 acc F := OdL.imp (fun t d U hU p => Od.mono (fun _ a _ => a) (k3.kin _) _ _ _ _ (k3.kS _) p) va
        cases c' with
        | false => exact ih (i + 1) acc us0 us1 F h3 (by omega) hil (by omega) (fr.trans (k3.fr _)) (by omega) (k3 _ _ hn) hF nF va3 hus
        | true =>
          simp only [if_true] at hus
          obtain ⟨t1, t2, hus⟩ := bind_some hus
          obtain ⟨us2, t3, rfl⟩ := map_some hus
          obtain ⟨d, h4, y1, k4, S, o4, n4, b4⟩ := (he _ X own _ h3 _ (rv.keep k3) t1 t2).eq
          have hn4 := k4 _ _ (k3 _ _ hn)
          have l4 := k4.len
          simp only [y1, hn4]
          rw [if_pos (by omega)]
          have fs : Fr h1.length h4 (h4.set h1.length (.lst (acc ++ [d]))) := (Fr.refl _ h4).set _
          have va4 : OdL (Od (fun m => Al A w own m ∧ m ∉ h1.length :: (F ++ S)) (h4.set h1.length (.lst (acc ++ [d]))) sh) (us0 ++ [t1]) (acc ++ [d]) (F ++ S) := by
            refine OdL.append (OdL.imp (fun t d U hU p => Od.mono (h := h3) (fun m a l => ⟨a.1, fun z => ?_⟩) (fun m o a z => fs m o (fun y => a.2 (by rw [y]; exact List.mem_cons_self)) (k4 m o z)) _ _ _ _ (fun m hm o z => fs m o (fun y => by have := hF m (hU m hm); omega) (k4 m o z)) p) va3) (OdL.one (Od.mono (fun m a _ => ⟨⟨a.1.1.1, a.1.2⟩, fun z => ?_⟩) (fun m o a z => fs m o (fun y => a.1.1.2 (by rw [y]; exact List.mem_cons_self)) z) _ _ _ _ (fun m hm o z => fs m o (fun y => by have := b4 m hm; omega) z) o4))
            · rcases List.mem_cons.mp z with y | y
              · exact a.2 (by rw [y]; exact List.mem_cons_self)
              · rcases List.mem_append.mp y with x | x
                · exact a.2 (List.mem_cons_of_mem _ x)
                · have := b4 m x; omega
            · rcases List.mem_cons.mp z with y | y
              · exact a.1.1.2 (by rw [y]; exact List.mem_cons_self)
              · rcases List.mem_append.mp y with x | x
                · exact a.1.1.2 (List.mem_cons_of_mem _ x)
                · exact a.2 x
          have := ih (i + 1) (acc ++ [d]) (us0 ++ [t1]) us2 (F ++ S) _ (by omega) hil (by rw [List.length_append, List.length_singleton]; omega) (((fr.trans (k3.fr _)).trans (k4.fr _)).trans fs) (by rw [List.length_set]; omega) (set_same hn4) (fun m hm => by
            rcases List.mem_append.mp hm with y | y
            · exact hF m y
            · have := b4 m y; omega) (by
            rw [List.nodup_append]
            exact ⟨nF, n4, fun a ha b hb z => by have := hFl a ha; have := b4 b hb; omega⟩) va4 t3
          rw [List.append_assoc] at this
          exact this
  exact core (xs.length + 1) 0 [] [] us [] (h1 ++ [.lst []]) rfl (Nat.zero_le _) (Nat.le_refl _) (Fr.refl _ _) (Nat.le_refl _) (get_last _ _) (fun m z => nomatch z) List.nodup_nil ⟨rfl, rfl⟩ q2
end
end Fu
namespace Fu
open PySem L2 Mi
inductive FR where
  | nx (e : FSt) | rt (t : T) (e : FSt) | bk (e : FSt) | ct (e : FSt)
abbrev FS := FSt → Option FR
abbrev FG := T → FSt → Option FSt
def fNext : FS := fun e => some (.nx e)
def fSeqS (a b : FS) : FS := fun e => (a e).bind fun o => match o with | .nx e' => b e' | o => some o
def fSet (a : FE) (i : Nat) : FS := fun e => (a e).bind fun t => some (.nx (e.set i (some t)))
def fOwn (a : FE) (i : Nat) : FS := fun e => (a e).bind fun t => if i < e.length then some (.nx (e.set i (some t))) else none
def fAsg (a : FE) (g : FG) : FS := fun e => (a e).bind fun t => (g t e).map .nx
def fDrop (a : FE) : FS := fun e => (a e).map fun _ => .nx e
def fRet (a : FE) : FS := fun e => (a e).map fun t => .rt t e
def fRetN : FS := fun e => some (.rt .non e)
def fBrk : FS := fun e => some (.bk e)
def fCnt : FS := fun e => some (.ct e)
def fIfS (c : FT) (a b : FS) : FS := fun e => (c e).bind fun t => if t then a e else b e
def fAugI (i : Nat) (g : Int → Int → Int) (a : FE) : FS := fun e => match e.getD i none with
  | some (.int x) => (a e).bind fun t => match t with | .int y => some (.nx (e.set i (some (.int (g x y))))) | _ => none
  | _ => none
def gtNm (i : Nat) : FG := fun t e => some (e.set i (some t))
def gtNil : List T → FSt → Option FSt := fun ts e => match ts with | [] => some e | _ => none
def gtCons (g : FG) (r : List T → FSt → Option FSt) : List T → FSt → Option FSt := fun ts e => match ts with | [] => none | t :: ts => (g t e).bind fun e' => r ts e'
def gtTp (r : List T → FSt → Option FSt) : FG := fun t e => match t with | .tup ts => r ts e | _ => none
def forT (g : FG) (b : FS) : List T → FSt → Option FR
  | [], e => some (.nx e)
  | x :: xs, e => (g x e).bind fun e1 => (b e1).bind fun o => match o with
    | .nx e2 => forT g b xs e2
    | .ct e2 => forT g b xs e2
    | .bk e2 => some (.nx e2)
    | .rt t e2 => some (.rt t e2)
def fFor (fi : FI) (g : FG) (b : FS) : FS := fun e => (fi e).bind fun ts => forT g b ts e
def whileT (c : FT) (b : FS) : Nat → FSt → Option FR
  | 0, _ => none
  | k + 1, e => (c e).bind fun t => if t then (b e).bind fun o => match o with
    | .nx e2 => whileT c b k e2
    | .ct e2 => whileT c b k e2
    | .bk e2 => some (.nx e2)
    | .rt t e2 => some (.rt t e2) else some (.nx e)
def fWhile (M : Nat) (c : FT) (b : FS) : FS := fun e => whileT c b M e
abbrev FP := FSt → Option (T × (T → T))
def pVar (i : Nat) : FP := fun e => (e.getD i none).map fun t => (t, id)
def pIx (p : FP) (k : FE) : FP := fun e => (p e).bind fun q => (k e).bind fun u => match q.1, u with
  | .lst ts, .int z => (ixN ts.length z).bind fun j => (ts[j]?).map fun v => (v, fun v' => q.2 (.lst (ts.set j v')))
  | _, _ => none
def pCm (j : Nat) (p : FP) : FP := fun e => (p e).bind fun q => match q.1 with
  | .tup ts => (ts[j]?).map fun v => (v, fun v' => q.2 (.tup (ts.set j v')))
  | _ => none
def fApp (i : Nat) (p : FP) (a : FE) : FS := fun e => (p e).bind fun q => (a e).bind fun t => match q.1 with
  | .lst xs => if xs.length < 16777216 then some (.nx (e.set i (some (q.2 (.lst (xs ++ [t])))))) else none
  | _ => none
def fPop (i : Nat) (p : FP) (j : Nat) : FS := fun e => (p e).bind fun q => match q.1 with
  | .lst xs => (xs[xs.length - 1]?).bind fun t => some (.nx ((e.set i (some (q.2 (.lst xs.dropLast)))).set j (some t)))
  | _ => none
def fPopD (i : Nat) (p : FP) : FS := fun e => (p e).bind fun q => match q.1 with
  | .lst xs => (xs[xs.length - 1]?).bind fun t => some (.nx (e.set i (some (q.2 (.lst xs.dropLast)))))
  | _ => none
def fRev (i : Nat) (p : FP) : FS := fun e => (p e).bind fun q => match q.1 with
  | .lst xs => some (.nx (e.set i (some (q.2 (.lst xs.reverse)))))
  | _ => none
def fClr (i : Nat) (p : FP) : FS := fun e => (p e).bind fun q => match q.1 with
  | .lst xs => some (.nx (e.set i (some (q.2 (.lst [])))))
  | _ => none
def fPut (i : Nat) (p : FP) (k a : FE) : FS := fun e => (a e).bind fun t => (p e).bind fun q => (k e).bind fun u => match q.1, u with
  | .lst xs, .int z => (ixN xs.length z).bind fun j => some (.nx (e.set i (some (q.2 (.lst (xs.set j t))))))
  | _, _ => none
abbrev FC := FSt → Option (T × FSt)
def fDropC (c : FC) : FS := fun e => (c e).map fun q => .nx q.2
def fSetC (c : FC) (i : Nat) : FS := fun e => (c e).map fun q => .nx (q.2.set i (some q.1))
def fRetC (c : FC) : FS := fun e => (c e).map fun q => .rt q.1 q.2
def fLet (a : FE) : FC := fun e => (a e).map fun t => (t, e)
def funT (fr : Bool) (ar n : Nat) (f : FS) (ts : List T) : Option T := if ts.length = ar then (f (ts.map some ++ List.replicate (n - ts.length) none)).bind fun o => match o with | .rt t _ => some t | .nx _ => (if fr then none else some .non) | _ => none else none
def KeepX (X : Nat → Prop) (h h' : DH) : Prop := ∀ (m : Nat) o, ¬ X m → h[m]? = some o → h'[m]? = some o
/-- what a slot that was not handed in owns is new -/
def Nw (wr w : Ws) (own : Ow) (b : Nat) : Prop := ∀ p ∈ w, (∀ q ∈ wr, q.1 ≠ p.1) → ∀ m ∈ own p.1, b ≤ m
structure Stp (A X : Nat → Prop) (h0 : DH) (wr w : Ws) (own : Ow) (ds : DSt) (h : DH) (wn : Ws) (own' : Ow) (ds' : DSt) (h' : DH) (e' : FSt) : Prop where
  rel : Rel A X wn own' ds' h' e'
  k0 : KeepX X h0 h'
  kin : KeepIn (Al A w own) h h'
  fresh : ∀ p ∈ wn, ∀ m ∈ own' p.1, h.length ≤ m ∨ ∃ q ∈ w, m ∈ own q.1
  le : h.length ≤ h'.length
  nw : Nw wr wn own' h0.length
  fix : ∀ p ∈ wr, ds'.getD p.1 none = ds.getD p.1 none
/-- what a return hands back: a value of a shape; the very parameter; whatever it is -/
inductive Rk where
  | sh (s : Sh) | par (p : Nat) | any
def RetK (rk : Rk) (A : Nat → Prop) (b : Nat) (h : DH) (t : T) (d : D) (ds : DSt) : Prop := match rk with
  | .sh s => RetV s A b h t d
  | .par p => ds.getD p none = some d
  | .any => True
def PS (rs : Rk) (wr wn wl : Ws) (A X : Nat → Prop) (h0 : DH) (w : Ws) (own : Ow) (ds : DSt) (h : DH) (r : RS) (o : FR) : Prop :=
  match o with
  | .nx e' => ∃ ds' h' own', r = .nx ds' h' ∧ Stp A X h0 wr w own ds h wn own' ds' h' e'
  | .ct e' => ∃ ds' h' own', r = .ct ds' h' ∧ Stp A X h0 wr w own ds h wl own' ds' h' e'
  | .bk e' => ∃ ds' h' own', r = .bk ds' h' ∧ Stp A X h0 wr w own ds h wl own' ds' h' e'
  | .rt t e' => ∃ d ds' h' own', r = .rt d h' ∧ Stp A X h0 wr w own ds h wr own' ds' h' e' ∧ RetK rs (Al A wr own') h0.length h' t d ds'
def SS (rs : Rk) (wr w : Ws) (m : SM) (f : FS) (wn wl : Ws) : Prop := ∀ A X own ds h0 h e, Rel A X w own ds h e → KeepX X h0 h → h0.length ≤ h.length → Nw wr w own h0.length → ∀ o, f e = some o → PS rs wr wn wl A X h0 w own ds h (m ds h) o
def SG (w : Ws) (fx : Ws) (g : GM) (gt : FG) : Prop := ∀ A X own ds h e d t, Rel A X w own ds h e → Val (Al A w own) h t d → ∀ e', gt t e = some e' → ∃ ds', g d ds h = some (ds', h) ∧ Rel A X w own ds' h e' ∧ ∀ p ∈ fx, ds'.getD p.1 none = ds.getD p.1 none
section
variable {rs : Rk} {sh sh' : Sh} {wr w w1 wn wl wn' wl' : Ws} {A X : Nat → Prop} {h0 h h1 h' h'' : DH} {own own1 own' own'' : Ow} {ds ds1 ds' ds'' : DSt} {e e1 e' e'' : FSt}
theorem KeepX.keep (a : KeepX X h0 h) (k : Keep h h1) : KeepX X h0 h1 := fun m o n q => k m o (a m o n q)
theorem Stp.refl (r : Rel A X w own ds h e) (k0 : KeepX X h0 h) (nw : Nw wr w own h0.length) : Stp A X h0 wr w own ds h w own ds h e := ⟨r, k0, KeepIn.refl _ _, fun p hp m hm => .inr ⟨p, hp, hm⟩, Nat.le_refl _, nw, fun _ _ => rfl⟩
theorem Stp.trans (a : Stp A X h0 wr w own ds h w1 own1 ds1 h1 e1) (b : Stp A X h0 wr w1 own1 ds1 h1 wn own' ds' h' e') : Stp A X h0 wr w own ds h wn own' ds' h' e' := by
  refine ⟨b.rel, b.k0, fun m o am q => b.kin m o ⟨am.1, fun p hp z => ?_⟩ (a.kin m o am q), fun p hp m hm => ?_, Nat.le_trans a.le b.le, b.nw, fun p hp => (b.fix p hp).trans (a.fix p hp)⟩
  · have := lt_of_get q
    rcases a.fresh p hp m z with l | ⟨q, hq, l⟩
    · omega
    · exact am.2 q hq l
  · rcases b.fresh p hp m hm with l | ⟨q, hq, l⟩
    · exact .inl (Nat.le_trans a.le l)
    · exact a.fresh q hq m l
theorem Stp.pre (k : Keep h h1) (b : Stp A X h0 wr w own ds h1 wn own' ds' h' e') : Stp A X h0 wr w own ds h wn own' ds' h' e' :=
  ⟨b.rel, b.k0, fun m o am q => b.kin m o am (k m o q), fun p hp m hm => (b.fresh p hp m hm).imp (fun l => Nat.le_trans k.len l) id, Nat.le_trans k.len b.le, b.nw, b.fix⟩
theorem Stp.weak (b : Stp A X h0 wr w own ds h wn own' ds' h' e') (s : ∀ p ∈ wn', p ∈ wn) : Stp A X h0 wr w own ds h wn' own' ds' h' e' := ⟨b.rel.weaken s, b.k0, b.kin, fun p hp => b.fresh p (s p hp), b.le, fun p hp => b.nw p (s p hp), b.fix⟩
theorem Stp.drop (b : Stp A X h0 wr w1 own ds h wn own' ds' h' e') (s : ∀ p ∈ w1, p ∈ w) : Stp A X h0 wr w own ds h wn own' ds' h' e' := ⟨b.rel, b.k0, fun m o am q => b.kin m o ⟨am.1, fun p hp => am.2 p (s p hp)⟩ q, fun p hp m hm => (b.fresh p hp m hm).imp id fun ⟨q, hq, x⟩ => ⟨q, s q hq, x⟩, b.le, b.nw, b.fix⟩
theorem PS.after (a : Stp A X h0 wr w own ds h w1 own1 ds1 h1 e1) {r : RS} {o : FR} (b : PS rs wr wn wl A X h0 w1 own1 ds1 h1 r o) : PS rs wr wn wl A X h0 w own ds h r o := by
  cases o with
  | nx e' => obtain ⟨ds', h', own', e1, s⟩ := b; exact ⟨ds', h', own', e1, a.trans s⟩
  | ct e' => obtain ⟨ds', h', own', e1, s⟩ := b; exact ⟨ds', h', own', e1, a.trans s⟩
  | bk e' => obtain ⟨ds', h', own', e1, s⟩ := b; exact ⟨ds', h', own', e1, a.trans s⟩
  | rt t e' => obtain ⟨d, ds', h', own', e1, s, v⟩ := b; exact ⟨d, ds', h', own', e1, a.trans s, v⟩
theorem PS.pre (k : Keep h h1) {r : RS} {o : FR} (b : PS rs wr wn wl A X h0 w own ds h1 r o) : PS rs wr wn wl A X h0 w own ds h r o := by
  cases o with
  | nx e' => obtain ⟨ds', h', own', e1, s⟩ := b; exact ⟨ds', h', own', e1, s.pre k⟩
  | ct e' => obtain ⟨ds', h', own', e1, s⟩ := b; exact ⟨ds', h', own', e1, s.pre k⟩
  | bk e' => obtain ⟨ds', h', own', e1, s⟩ := b; exact ⟨ds', h', own', e1, s.pre k⟩
  | rt t e' => obtain ⟨d, ds', h', own', e1, s, v⟩ := b; exact ⟨d, ds', h', own', e1, s.pre k, v⟩
theorem PS.weak {r : RS} {o : FR} (b : PS rs wr wn wl A X h0 w own ds h r o) (s : ∀ i ∈ wn', i ∈ wn) (s' : ∀ i ∈ wl', i ∈ wl) : PS rs wr wn' wl' A X h0 w own ds h r o := by
  cases o with
  | nx e' => obtain ⟨ds', h', own', e1, q⟩ := b; exact ⟨ds', h', own', e1, q.weak s⟩
  | ct e' => obtain ⟨ds', h', own', e1, q⟩ := b; exact ⟨ds', h', own', e1, q.weak s'⟩
  | bk e' => obtain ⟨ds', h', own', e1, q⟩ := b; exact ⟨ds', h', own', e1, q.weak s'⟩
  | rt t e' => exact b
theorem PS.drop {r : RS} {o : FR} (b : PS rs wr wn wl A X h0 w1 own ds h r o) (s : ∀ i ∈ w1, i ∈ w) : PS rs wr wn wl A X h0 w own ds h r o := by
  cases o with
  | nx e' => obtain ⟨ds', h', own', e1, q⟩ := b; exact ⟨ds', h', own', e1, q.drop s⟩
  | ct e' => obtain ⟨ds', h', own', e1, q⟩ := b; exact ⟨ds', h', own', e1, q.drop s⟩
  | bk e' => obtain ⟨ds', h', own', e1, q⟩ := b; exact ⟨ds', h', own', e1, q.drop s⟩
  | rt t e' => obtain ⟨d, ds', h', own', e1, q, v⟩ := b; exact ⟨d, ds', h', own', e1, q.drop s, v⟩
variable {m ma mb mk mo : EM} {f fa fb fk : FE} {a b : SM} {sa sb : FS} {t : TM} {ft : FT} {i j : Nat} {p : FP} {mr : AM} {fr : FA}
theorem ss_next : SS rs wr w sNext fNext w wl := fun A X own ds h0 h e r k l n o q => by cases q; exact ⟨ds, h, own, rfl, .refl r k n⟩
theorem ss_seq (h1 : SS rs wr w a sa w1 wl) (h2 : SS rs wr w1 b sb wn wl) : SS rs wr w (sSeq a b) (fSeqS sa sb) wn wl := fun A X own ds h0 h e r k l n o q => by
  obtain ⟨o1, q1, q⟩ := bind_some q
  have p := h1 A X own ds h0 h e r k l n o1 q1
  unfold sSeq
  cases o1 with
  | nx e1 =>
    obtain ⟨ds1, h1', own1, e2, s⟩ := p
    rw [e2]
    exact (h2 A X own1 ds1 h0 h1' e1 s.rel s.k0 (Nat.le_trans l s.le) s.nw o q).after s
  | ct e1 => cases q; obtain ⟨ds1, h1', own1, e2, s⟩ := p; rw [e2]; exact ⟨_, _, _, rfl, s⟩
  | bk e1 => cases q; obtain ⟨ds1, h1', own1, e2, s⟩ := p; rw [e2]; exact ⟨_, _, _, rfl, s⟩
  | rt u e1 => cases q; obtain ⟨d, ds1, h1', own1, e2, s⟩ := p; rw [e2]; exact ⟨_, _, _, _, rfl, s⟩
theorem ss_set (he : SE w m f) (hi : ∀ p ∈ w, p.1 ≠ i) (hf : ∀ p ∈ wr, p.1 ≠ i) : SS rs wr w (sAsg m (gNm i)) (fSet f i) w wl := fun A X own ds h0 h e r k l n o q => by
  obtain ⟨u, q1, q⟩ := bind_some q
  cases q
  obtain ⟨d, h1, e1, k1, v⟩ := (he A X own ds h e r u q1).eq
  have s := (Stp.refl (wr := wr) ((r.keep k1).put hi v) (k.keep k1) n).pre k1
  refine ⟨ds.set i (some d), h1, own, ?_, s.rel, s.k0, s.kin, s.fresh, s.le, s.nw, fun p hp => getD_set_ne (Ne.symm (hf p hp))⟩
  unfold sAsg; rw [e1]; rfl
theorem ss_own (he : SX w sh m f) (hi : ∀ p ∈ w, p.1 ≠ i) (hf : ∀ p ∈ wr, p.1 ≠ i) : SS rs wr w (sAsg m (gNm i)) (fOwn f i) ((i, sh) :: w) wl := fun A X own ds h0 h e r k l n o q => by
  obtain ⟨u, q1, q⟩ := bind_some q
  obtain ⟨il, rfl⟩ := ite_some q
  obtain ⟨d, h1, e1, k1, S, o1, nd, bS⟩ := (he A X own ds h e r u q1).eq
  refine ⟨ds.set i (some d), h1, fun j => if j = i then S else own j, ?_, r.owns k1 hi il bS nd o1, k.keep k1, k1.kin _, fun p hp m hm => ?_, k1.len, fun p hp hq m hm => ?_, fun p hp => getD_set_ne (Ne.symm (hf p hp))⟩
  · unfold sAsg; rw [e1]; rfl
  · replace hm : m ∈ (if p.1 = i then S else own p.1) := hm
    by_cases c : p.1 = i
    · rw [if_pos c] at hm; exact .inl (bS m hm)
    · rw [if_neg c] at hm
      rcases List.mem_cons.mp hp with z | z
      · exact absurd (by rw [z]) c
      · exact .inr ⟨p, z, hm⟩
  · replace hm : m ∈ (if p.1 = i then S else own p.1) := hm
    by_cases c : p.1 = i
    · rw [if_pos c] at hm; exact Nat.le_trans l (bS m hm)
    · rw [if_neg c] at hm
      rcases List.mem_cons.mp hp with z | z
      · exact absurd (by rw [z]) c
      · exact n p z hq m hm
theorem sg_name (hi : ∀ p ∈ w, p.1 ≠ i) (hf : ∀ p ∈ wr, p.1 ≠ i) : SG w wr (gNm i) (gtNm i) := fun A X own ds h e d t r v e' q => by
  cases q
  exact ⟨_, rfl, r.put hi v, fun p hp => getD_set_ne (Ne.symm (hf p hp))⟩
theorem ss_drop (he : SN w m f) : SS rs wr w (sDrop m) (fDrop f) w wl := fun A X own ds h0 h e r k l n o q => by
  obtain ⟨u, q1, rfl⟩ := map_some q
  obtain ⟨d, h1, e1, k1, v⟩ := (he A X own ds h e r u q1).eq
  refine ⟨ds, h1, own, ?_, (Stp.refl (r.keep k1) (k.keep k1) n).pre k1⟩
  unfold sDrop; rw [e1]; rfl
theorem ss_ret (he : SX wr sh m f) (hw : ∀ p ∈ wr, p ∈ w) : SS (.sh sh) wr w (sRet m) (fRet f) wn wl := fun A X own ds h0 h e r k l n o q => by
  obtain ⟨u, q1, rfl⟩ := map_some q
  obtain ⟨d, h1, e1, k1, S, o1, nd, bS⟩ := (he A X own ds h e (r.weaken hw) u q1).eq
  refine ⟨d, ds, h1, own, ?_, ((Stp.refl (r.keep k1) (k.keep k1) n).pre k1).weak hw, S, o1, nd, fun x hx => Nat.le_trans l (bS x hx)⟩
  unfold sRet; rw [e1]; rfl
theorem ss_retNA (hw : ∀ p ∈ wr, p ∈ w) : SS .any wr w sRetN fRetN wn wl := fun A X own ds h0 h e r k l n o q => by
  cases q
  exact ⟨.non, ds, h, own, rfl, (Stp.refl r k n).weak hw, trivial⟩
theorem ss_if (ht : ST w t ft) (ha : SS rs wr w a sa wn wl) (hb : SS rs wr w b sb wn wl) : SS rs wr w (sIf t a b) (fIfS ft sa sb) wn wl := fun A X own ds h0 h e r k l n o q => by
  obtain ⟨c, q1, q⟩ := bind_some q
  obtain ⟨d, h1, e1, k1, v⟩ := (ht A X own ds h e r c q1).eq
  subst v
  unfold sIf; rw [e1]
  cases d with
  | true => exact (ha A X own ds h0 h1 e (r.keep k1) (k.keep k1) (Nat.le_trans l k1.len) n o q).pre k1
  | false => exact (hb A X own ds h0 h1 e (r.keep k1) (k.keep k1) (Nat.le_trans l k1.len) n o q).pre k1
theorem ss_for {mi : IM} {fi : FI} {g : GM} {gt : FG} (hi : SI w mi fi) (hg : SG w wr g gt) (hb : SS rs wr w b sb w w) : SS rs wr w (sFor mi g b) (fFor fi gt sb) w wl := fun A X own ds h0 h e r k l n o q => by
  obtain ⟨ts, q1, q⟩ := bind_some q
  obtain ⟨it, h1, e1, k1, xs, vx, hlen, hat⟩ := (hi A X own ds h e r ts q1).eq
  unfold sFor
  rw [e1]
  refine PS.pre k1 ?_
  show PS rs wr w wl A X h0 w own ds h1 (forN it g b (it.len h1 + 1) 0 ds h1) o
  rw [hlen]
  have l1 := Nat.le_trans l k1.len
  have core : ∀ (k i : Nat) (ds2 : DSt) (h2 : DH) (e2 : FSt) (own2 : Ow), k + i = xs.length + 1 → i ≤ xs.length → Stp A X h0 wr w own ds h1 w own2 ds2 h2 e2 → forT gt sb (ts.drop i) e2 = some o → PS rs wr w wl A X h0 w own ds h1 (forN it g b k i ds2 h2) o := by
    intro k
    induction k with
    | zero => intro i ds2 h2 e2 own2 z l; omega
    | succ k ih =>
      intro i ds2 h2 e2 own2 z l s q
      simp only [forN]
      rw [hat h2 s.kin i]
      cases qx : xs[i]? with
      | none =>
        have l2 : xs.length ≤ i := List.getElem?_eq_none_iff.mp qx
        have e3 : ts.drop i = [] := List.drop_eq_nil_of_le (by rw [← vx.length]; omega)
        rw [e3] at q
        cases q
        exact ⟨ds2, h2, own2, rfl, s⟩
      | some x =>
        have hil : i < xs.length := (List.getElem?_eq_some_iff.mp qx).1
        have htl : i < ts.length := by rw [← vx.length]; exact hil
        obtain ⟨dx, d1, d2⟩ := vx.get (List.getElem?_eq_getElem htl)
        rw [qx] at d1
        cases d1
        rw [List.drop_eq_getElem_cons htl] at q
        simp only [forT] at q
        obtain ⟨e3, g1, q⟩ := bind_some q
        obtain ⟨o1, b1, q⟩ := bind_some q
        have d3 : Val (Al A w own2) h2 ts[i] x := by
          refine Val.mono (fun m am l => ⟨am.1, fun p hp z => ?_⟩) s.kin _ _ d2
          rcases s.fresh p hp m z with l' | ⟨q, hq, l'⟩
          · omega
          · exact am.2 q hq l'
        obtain ⟨ds3, g2, r3, f3⟩ := hg A X own2 ds2 h2 e2 x _ s.rel d3 e3 g1
        simp only [g2]
        have p := hb A X own2 ds3 h0 h2 e3 r3 s.k0 (Nat.le_trans l1 s.le) s.nw o1 b1
        have s3 : Stp A X h0 wr w own ds h1 w own2 ds3 h2 e3 := ⟨r3, s.k0, s.kin, s.fresh, s.le, s.nw, fun p hp => (f3 p hp).trans (s.fix p hp)⟩
        cases o1 with
        | nx e4 =>
          obtain ⟨ds4, h4, own4, z4, s4⟩ := p
          rw [z4]
          exact ih (i + 1) ds4 h4 e4 own4 (by omega) hil (s3.trans s4) q
        | ct e4 =>
          obtain ⟨ds4, h4, own4, z4, s4⟩ := p
          rw [z4]
          exact ih (i + 1) ds4 h4 e4 own4 (by omega) hil (s3.trans s4) q
        | bk e4 =>
          obtain ⟨ds4, h4, own4, z4, s4⟩ := p
          rw [z4]
          cases q
          exact ⟨ds4, h4, own4, rfl, s3.trans s4⟩
        | rt t4 e4 =>
          obtain ⟨d4, ds4, h4, own4, z4, s4, v4⟩ := p
          rw [z4]
          cases q
          exact ⟨d4, ds4, h4, own4, rfl, s3.trans s4, v4⟩
  exact core (xs.length + 1) 0 ds h1 e own rfl (Nat.zero_le _) (.refl (r.keep k1) (k.keep k1) n) q
def SP (w : Ws) (i : Nat) (sh' : Sh) (m : EM) (p : FP) : Prop := ∀ A X own ds h e, Rel A X w own ds h e → ∀ t' up, p e = some (t', up) → SatE (m ds h) fun d' h' => Keep h h' ∧ ∃ sh0 d0 S' R, (i, sh0) ∈ w ∧ ds.getD i none = some d0 ∧ Foc (Al A w own) h' sh0 d0 (own i) sh' t' d' S' R up
theorem sp_var (hi : (i, sh) ∈ w) : SP w i sh (mVar i) (pVar i) := fun A X own ds h e r t' up q => by
  obtain ⟨u, q1, q2⟩ := map_some q
  cases q2
  obtain ⟨nd, a1, v, d, a2, a3, a4⟩ := r.ow _ hi
  have a2 : e.getD i none = some v := a2
  rw [a2] at q1
  cases q1
  unfold mVar
  rw [a3]
  exact ⟨Keep.refl _, sh, d, own i, [], hi, rfl, Foc.refl a4⟩
def fPth (p : FP) : FE := fun e => (p e).map (·.1)
theorem stored {sh0 : Sh} {hs hf hh : DH} {A1 : Nat → Prop} {d0 : D} {nn : Nat} {S1 R Sv S2 : List Nat} {up : T → T} {t' t'' : T} {o' : DO} (r : Rel A X w own ds hs e) (k0 : KeepX X h0 hs) (l0 : h0.length ≤ hs.length) (nw : Nw wr w own h0.length) (kf : Keep hs hf) (k : Keep hf hh) (hw : (i, sh0) ∈ w) (hd : ds.getD i none = some d0)
    (f : Foc A1 hf sh0 d0 (own i) sh' t' (.ref nn) (nn :: S1) R up) (hA1 : ∀ m, A1 m → m < hf.length → Al A w own m ∧ m ∉ Sv) (hSv : ∀ m ∈ Sv, hs.length ≤ m) (hS2 : ∀ m ∈ S2, m ∈ S1 ∨ m ∈ Sv) (nd2 : (own i).Nodup → (nn :: S2).Nodup)
    (ov : Od (fun m => Al A w own m ∧ m ∉ Sv) (hh.set nn o') sh' t'' (.ref nn) (nn :: S2)) : ∃ own', Stp A X h0 wr w own ds hs w own' ds (hh.set nn o') (e.set i (some (up t''))) ∧ ∀ p ∈ w, ∀ m ∈ own' p.1, (∃ q ∈ w, m ∈ own q.1) ∨ m ∈ Sv := by
  obtain ⟨nd, a1, _⟩ := r.ow _ hw
  have hno : nn ∈ own i := (f.pm nn).mpr (.inr List.mem_cons_self)
  have hnl : nn < hs.length := r.ltO hw nn hno
  have hR : ∀ m ∈ R, m ∈ own i := fun m hm => (f.pm m).mpr (.inl hm)
  have hS1 : ∀ m ∈ S1, m ∈ own i := fun m hm => (f.pm m).mpr (.inr (List.mem_cons_of_mem _ hm))
  obtain ⟨ndf, djf⟩ := f.nd nd
  have kk := kf.trans k
  have ne : ∀ m, Al A w own m → m ≠ nn := fun m a z => a.2 _ hw (z ▸ hno)
  have kin : KeepIn (Al A w own) hs (hh.set nn o') := fun m o a q => by rw [List.getElem?_set_ne (Ne.symm (ne m a))]; exact kk m o q
  obtain ⟨Sn, s1, s2, s3⟩ := f.back (fun m => Al A w own m ∧ m ∉ Sv) (hh.set nn o') t'' (nn :: S2) hA1 (fun m o a q => by
    have := hA1 m a (lt_of_get q)
    rw [List.getElem?_set_ne (Ne.symm (ne m this.1))]; exact k m o q) (fun m hm o q => by
    rw [List.getElem?_set_ne (fun z => djf m hm (by rw [← z]; exact List.mem_cons_self))]; exact k m o q) ov
  have hSn : ∀ m ∈ Sn, m ∈ own i ∨ hs.length ≤ m := fun m hm => by
    rcases (s2 m).mp hm with z | z
    · exact .inl (hR m z)
    · rcases List.mem_cons.mp z with y | y
      · exact .inl (y ▸ hno)
      · rcases hS2 m y with x | x
        · exact .inl (hS1 m x)
        · exact .inr (hSv m x)
  have ndn : Sn.Nodup := s3 nd (nd2 nd) fun m hm z => by
    rcases List.mem_cons.mp z with y | y
    · exact djf m hm (by rw [y]; exact List.mem_cons_self)
    · rcases hS2 m y with x | x
      · exact djf m hm (List.mem_cons_of_mem _ x)
      · have := r.ltO hw m (hR m hm); have := hSv m x; omega
  have c1 : ∀ p ∈ w, (p.1 = i ∧ p.2 = sh0) ∨ (p.1 ≠ i ∧ p ∈ w) := fun p hp => by
    by_cases c : p.1 = i
    · have := r.un p hp _ hw c
      exact .inl ⟨c, by rw [this]⟩
    · exact .inr ⟨c, hp⟩
  have c2 : ∀ p ∈ w, p.1 ≠ i → KeepS (own p.1) hs (hh.set nn o') := fun p hp q m hm o z => by
    have y : nn ≠ m := fun y => r.dj p hp _ hw q m hm (by rw [← y]; exact hno)
    rw [List.getElem?_set_ne y]
    exact kk m o z
  have c3 : ∀ m, (Al A w own m ∧ m ∉ Sv) → m ∉ Sn := fun m a z => by
    rcases (s2 m).mp z with y | y
    · exact a.1.2 _ hw (hR m y)
    · rcases List.mem_cons.mp y with x | x
      · exact ne m a.1 x
      · rcases hS2 m x with v | v
        · exact a.1.2 _ hw (hS1 m v)
        · exact a.2 v
  have c4 : Od (fun m => Al A w own m ∧ m ∉ Sn) (hh.set nn o') sh0 (up t'') d0 Sn := Od.mono (fun m a _ => ⟨a.1, c3 m a⟩) (KeepIn.refl _ _) _ _ _ _ (KeepS.refl _ _) s1
  have le : hs.length ≤ (hh.set nn o').length := by rw [List.length_set]; exact kk.len
  refine ⟨fun j => if j = i then Sn else own j, ⟨r.store c1 (fun p hp _ => hp) hw ⟨_, hw, rfl⟩ hd kin c2 le ndn hSn c4, fun m o nx q => ?_, kin, fun p hp m hm => ?_, le, fun p hp hq m hm => ?_, fun _ _ => rfl⟩, fun p hp m hm => ?_⟩
  · have y : nn ≠ m := fun y => nx (by rw [← y]; exact (a1 nn hno).1)
    rw [List.getElem?_set_ne y]
    exact kk m o (k0 m o nx q)
  · replace hm : m ∈ (if p.1 = i then Sn else own p.1) := hm
    by_cases c : p.1 = i
    · rw [if_pos c] at hm
      rcases hSn m hm with z | z
      · exact .inr ⟨_, hw, z⟩
      · exact .inl z
    · rw [if_neg c] at hm; exact .inr ⟨p, hp, hm⟩
  · replace hm : m ∈ (if p.1 = i then Sn else own p.1) := hm
    by_cases c : p.1 = i
    · rw [if_pos c] at hm
      rcases hSn m hm with z | z
      · exact nw _ hw (fun q hq' y => hq q hq' (y.trans c.symm)) m z
      · exact Nat.le_trans l0 z
    · rw [if_neg c] at hm; exact nw p hp hq m hm
  · replace hm : m ∈ (if p.1 = i then Sn else own p.1) := hm
    by_cases c : p.1 = i
    · rw [if_pos c] at hm
      rcases (s2 m).mp hm with z | z
      · exact .inl ⟨_, hw, hR m z⟩
      · rcases List.mem_cons.mp z with y | y
        · exact .inl ⟨_, hw, y ▸ hno⟩
        · rcases hS2 m y with x | x
          · exact .inl ⟨_, hw, hS1 m x⟩
          · exact .inr x
    · rw [if_neg c] at hm; exact .inl ⟨p, hp, hm⟩
theorem ixN_lt {n : Nat} {z : Int} {j : Nat} (e : ixN n z = some j) : j < n := (ixN_seq e).2.1
theorem foc_l {A1 : Nat → Prop} {sh0 : Sh} {d0 d' : D} {S S' R : List Nat} {ts : List T} {up : T → T} (f : Foc A1 h sh0 d0 S (.l sh') (.lst ts) d' S' R up) : ∃ n xs S1, d' = .ref n ∧ S' = n :: S1 ∧ h[n]? = some (.lst xs) ∧ OdL (Od A1 h sh') ts xs S1 := by
  have od := f.od
  simp only [Od] at od
  obtain ⟨ts0, n, xs, S1, e1, rfl, e2, hn, ol⟩ := od
  cases e1
  exact ⟨n, xs, S1, rfl, e2, hn, ol⟩
theorem ss_app (hp : SP w i (.l sh') mo p) (he : SX w sh' m f) : SS rs wr w (sDrop (mMt "list" appD mo (aCons m aNil))) (fApp i p f) w wl := fun A X own ds h0 h e r k l n o q => by
  obtain ⟨⟨t1, up⟩, q1, q⟩ := bind_some q
  obtain ⟨u, q2, q⟩ := bind_some q
  cases t1 with
  | lst ts =>
    obtain ⟨c, rfl⟩ := ite_some q
    obtain ⟨d1, h1, e1, k1, sh0, d0, S', R, hw, hd, f1⟩ := (hp A X own ds h e r _ _ q1).eq
    obtain ⟨nn, xs, S1, rfl, rfl, hn, ol⟩ := foc_l f1
    obtain ⟨d, h2, e2, k2, Sv, o2, nv, bv⟩ := (he A X own ds h1 e (r.keep k1) u q2).eq
    have hn2 := k2 _ _ hn
    have hS1 : ∀ m ∈ S1, m ∈ own i := fun m hm => (f1.pm m).mpr (.inr (List.mem_cons_of_mem _ hm))
    have hno : nn ∈ own i := (f1.pm nn).mpr (.inr List.mem_cons_self)
    have hnl := r.ltO hw nn hno
    have l1 := k1.len
    have fs : Fr nn h2 (h2.set nn (.lst (xs ++ [d]))) := (Fr.refl _ h2).set _
    have nd1 : (nn :: S1).Nodup := (f1.nd (r.ow _ hw).1).1
    have ne : ∀ m, Al A w own m → m ≠ nn := fun m a z => a.2 _ hw (z ▸ hno)
    have ov : Od (fun m => Al A w own m ∧ m ∉ Sv) (h2.set nn (.lst (xs ++ [d]))) (.l sh') (.lst (ts ++ [u])) (.ref nn) (nn :: (S1 ++ Sv)) := by
      simp only [Od]
      refine ⟨_, nn, _, _, rfl, rfl, rfl, set_same hn2, OdL.append (OdL.imp (fun t d U hU p => Od.mono (fun m a l => ⟨a, fun z => by have := bv m z; omega⟩) (fun m o a z => fs m o (ne m a) (k2 m o z)) _ _ _ _ (fun m hm o z => fs m o (fun y => ?_) (k2 m o z)) p) ol) (OdL.one (Od.mono (fun _ a _ => a) (fun m o a z => fs m o (ne m a.1) z) _ _ _ _ (fun m hm o z => fs m o (fun y => by have := bv m hm; omega) z) o2))⟩
      exact (List.nodup_cons.mp nd1).1 (y ▸ hU m hm)
    obtain ⟨own', s, _⟩ := stored r k l n k1 k2 hw hd f1 (fun m a l => ⟨a, fun z => by have := bv m z; omega⟩) (fun m hm => Nat.le_trans l1 (bv m hm)) (fun m hm => List.mem_append.mp hm) (fun _ => by
      rw [List.nodup_cons, List.nodup_append]
      refine ⟨fun z => ?_, (List.nodup_cons.mp nd1).2, nv, fun a ha b hb z => ?_⟩
      · rcases List.mem_append.mp z with y | y
        · exact (List.nodup_cons.mp nd1).1 y
        · have := bv _ y; omega
      · have := r.ltO hw a (hS1 a ha); have := bv b hb; omega) ov
    refine ⟨ds, _, own', ?_, s⟩
    unfold sDrop mMt aCons aNil
    simp only [e1, Res.bind, isTy_lst hn, if_true, e2, appD, hn2]
    rw [ol.length, if_pos c]
    rfl
  | _ => cases q
theorem OdL.dropLast {P : T → D → List Nat → Prop} : ∀ {ts : List T} {xs : List D} {S : List Nat}, OdL P ts xs S → ∃ S2, (∀ m ∈ S2, m ∈ S) ∧ (S.Nodup → S2.Nodup) ∧ OdL P ts.dropLast xs.dropLast S2
  | [], xs, S, r => ⟨[], fun m z => (nomatch z), fun _ => List.nodup_nil, by rw [r.1]; exact ⟨rfl, rfl⟩⟩
  | [t], xs, S, ⟨d, ds, S1, S2, e1, e2, r1, r2⟩ => ⟨[], fun m z => (nomatch z), fun _ => List.nodup_nil, by rw [e1, r2.1]; exact ⟨rfl, rfl⟩⟩
  | t :: u :: ts, xs, S, ⟨d, ds, S1, S2, e1, e2, r1, r2⟩ => by
    obtain ⟨S3, a1, a2, a3⟩ := OdL.dropLast r2
    obtain ⟨d2, ds2, _, _, e3, _⟩ := r2
    refine ⟨S1 ++ S3, fun m hm => ?_, fun nd => ?_, ?_⟩
    · rw [e2]
      rcases List.mem_append.mp hm with y | y
      · exact List.mem_append_left _ y
      · exact List.mem_append_right _ (a1 m y)
    · rw [e2, List.nodup_append] at nd
      rw [List.nodup_append]
      exact ⟨nd.1, a2 nd.2.1, fun a ha b hb => nd.2.2 a ha b (a1 b hb)⟩
    · rw [e3] at a3
      rw [e1, e3]
      exact ⟨d, (d2 :: ds2).dropLast, S1, S3, rfl, rfl, r1, a3⟩
theorem OdL.reverse {P : T → D → List Nat → Prop} : ∀ {ts : List T} {xs : List D} {S : List Nat}, OdL P ts xs S → ∃ S2, (∀ m ∈ S2, m ∈ S) ∧ (S.Nodup → S2.Nodup) ∧ OdL P ts.reverse xs.reverse S2
  | [], xs, S, r => ⟨[], fun m z => (nomatch z), fun _ => List.nodup_nil, by rw [r.1]; exact ⟨rfl, rfl⟩⟩
  | t :: ts, xs, S, ⟨d, ds, S1, S2, e1, e2, r1, r2⟩ => by
    obtain ⟨S3, a1, a2, a3⟩ := OdL.reverse r2
    refine ⟨S3 ++ S1, fun m hm => ?_, fun nd => ?_, ?_⟩
    · rw [e2]
      rcases List.mem_append.mp hm with y | y
      · exact List.mem_append_right _ (a1 m y)
      · exact List.mem_append_left _ y
    · rw [e2, List.nodup_append] at nd
      rw [List.nodup_append]
      exact ⟨a2 nd.2.1, nd.1, fun a ha b hb z => nd.2.2 b hb a (a1 a ha) z.symm⟩
    · rw [e1, List.reverse_cons, List.reverse_cons]
      exact OdL.append a3 (OdL.one r1)
theorem OdL.set {P Q : T → D → List Nat → Prop} {ts : List T} {xs : List D} {S : List Nat} {j : Nat} {u t' : T} {d' : D} {Sv : List Nat} (r : OdL P ts xs S) (q : ts[j]? = some u) (k : ∀ t d U, (∀ m ∈ U, m ∈ S) → P t d U → Q t d U) (v : Q t' d' Sv) : ∃ S2, (∀ m ∈ S2, m ∈ S ∨ m ∈ Sv) ∧ (S.Nodup → Sv.Nodup → (∀ m ∈ S, m ∉ Sv) → S2.Nodup) ∧ OdL Q (ts.set j t') (xs.set j d') S2 := by
  obtain ⟨d, S1, Sj, S2, e1, e2, e3, e4⟩ := r.focus q
  refine ⟨S1 ++ (Sv ++ S2), fun m hm => ?_, fun nd nv dj => ?_, e4 Q t' d' Sv (fun u e U hU p => k u e U (fun m hm => ?_) p) v⟩
  · rw [e2]
    simp only [List.mem_append] at hm ⊢
    rcases hm with a | a | a
    · exact .inl (.inl a)
    · exact .inr a
    · exact .inl (.inr (.inr a))
  · rw [e2] at nd dj
    simp only [List.nodup_append, List.mem_append] at nd dj ⊢
    obtain ⟨m1, ⟨m2, m3, m4⟩, m5⟩ := nd
    refine ⟨m1, ⟨nv, m3, fun a ha b hb z => ?_⟩, fun a ha b hb z => ?_⟩
    · exact dj b (.inr (.inr hb)) (z ▸ ha)
    · rcases hb with hb | hb
      · exact dj a (.inl ha) (z ▸ hb)
      · exact m5 a ha b (.inr hb) z
  · rw [e2]
    simp only [List.mem_append]
    rcases hU m hm with a | a
    · exact .inl a
    · exact .inr (.inr a)
theorem ss_put (hp : SP w i (.l sh') mo p) (hk : SN w mk fk) (he : SX w sh' m f) : SS rs wr w (sAsg m (gSb setD mo mk)) (fPut i p fk f) w wl := fun A X own ds h0 h e r k l n o q => by
  obtain ⟨u, q2, q⟩ := bind_some q
  obtain ⟨⟨t1, up⟩, q1, q⟩ := bind_some q
  obtain ⟨z, q3, q⟩ := bind_some q
  cases t1 with
  | lst ts =>
    cases z with
    | int z =>
      obtain ⟨j, q4, q⟩ := bind_some q
      cases q
      obtain ⟨d, h1, e1, k1, Sv, o1, nv, bv⟩ := (he A X own ds h e r u q2).eq
      have lv := Od.lt _ _ _ _ o1
      have r1 := r.avoid Sv bv k1 lv
      obtain ⟨d1, h2, e2, k2, sh0, d0, S', R, hw, hd, f1⟩ := (hp _ X own ds h1 e r1 _ _ q1).eq
      obtain ⟨nn, xs, S1, rfl, rfl, hn, ol⟩ := foc_l f1
      obtain ⟨dz, h3, e3, k3, vz⟩ := (hk _ X own ds h2 e (r1.keep k2) _ q3).eq
      have hn3 := k3 _ _ hn
      have hS1 : ∀ m ∈ S1, m ∈ own i := fun m hm => (f1.pm m).mpr (.inr (List.mem_cons_of_mem _ hm))
      have hno : nn ∈ own i := (f1.pm nn).mpr (.inr List.mem_cons_self)
      have hnl := r.ltO hw nn hno
      have fs : Fr nn h3 (h3.set nn (.lst (xs.set j d))) := (Fr.refl _ h3).set _
      have nd1 : (nn :: S1).Nodup := (f1.nd (r.ow _ hw).1).1
      have ne : ∀ m, Al A w own m → m ≠ nn := fun m a z => a.2 _ hw (z ▸ hno)
      have hj : j < ts.length := ixN_lt q4
      obtain ⟨S2, a1, a2, a3⟩ := OdL.set (Q := Od (fun m => Al A w own m ∧ m ∉ Sv) (h3.set nn (.lst (xs.set j d))) sh') ol (List.getElem?_eq_getElem hj) (fun t d U hU p => Od.mono (fun m a _ => ⟨⟨a.1.1, a.2⟩, a.1.2⟩) (fun m o a z => fs m o (ne m ⟨a.1.1, a.2⟩) (k3 m o z)) _ _ _ _ (fun m hm o z => fs m o (fun y => (List.nodup_cons.mp nd1).1 (y ▸ hU m hm)) (k3 m o z)) p) (Od.mono (fun _ a _ => a) (fun m o a z => fs m o (ne m a.1) (k3 m o (k2 m o z))) _ _ _ _ (fun m hm o z => fs m o (fun y => by have := bv m hm; omega) (k3 m o (k2 m o z))) o1)
      have ov : Od (fun m => Al A w own m ∧ m ∉ Sv) (h3.set nn (.lst (xs.set j d))) (.l sh') (.lst (ts.set j u)) (.ref nn) (nn :: S2) := by
        simp only [Od]
        exact ⟨_, nn, _, _, rfl, rfl, rfl, set_same hn3, a3⟩
      obtain ⟨own', s, _⟩ := stored r k l n (k1.trans k2) k3 hw hd f1 (fun m a _ => ⟨⟨a.1.1, a.2⟩, a.1.2⟩) bv a1 (fun _ => by
        rw [List.nodup_cons]
        refine ⟨fun z => ?_, a2 (List.nodup_cons.mp nd1).2 nv fun m hm z => by have := r.ltO hw m (hS1 m hm); have := bv m z; omega⟩
        rcases a1 _ z with y | y
        · exact (List.nodup_cons.mp nd1).1 y
        · have := bv _ y; omega) ov
      refine ⟨ds, _, own', ?_, s⟩
      unfold sAsg gSb
      rw [e1]
      simp only [Res.st, e2, e3, val_int.mp vz, setD, hn3, ol.length, q4, Option.map_some]
    | _ => cases q
  | _ => cases z <;> cases q
theorem args_rel (big : ∀ m, h.length ≤ m → A m) {ts : List T} {xs : List D} {n : Nat} (v : Vals A h ts xs) : Rel A (fun m => h.length ≤ m) [] (fun _ => []) (xs.map some ++ List.replicate (n - xs.length) none) h (ts.map some ++ List.replicate (n - ts.length) none) := by
  refine ⟨big, fun _ l => l, fun p hp => (nomatch hp), fun p hp => (nomatch hp), fun p hp => (nomatch hp), fun i u hi he => ?_, by simp [v.length]⟩
  have hA : ∀ m, A m → m < h.length → Al A [] (fun _ => []) m := fun m a _ => ⟨a, fun p hp => nomatch hp⟩
  rw [List.getD_eq_getElem?_getD] at he
  by_cases l : i < ts.length
  · rw [List.getElem?_append_left (by simpa using l), List.getElem?_map, List.getElem?_eq_getElem l] at he
    have he : some ts[i] = some u := he
    obtain ⟨d, d1, d2⟩ := v.get ((List.getElem?_eq_getElem l).trans he)
    refine ⟨d, ?_, d2.sub hA⟩
    rw [List.getD_eq_getElem?_getD, List.getElem?_append_left (by simpa [v.length] using l), List.getElem?_map, d1]
    rfl
  · rw [List.getElem?_append_right (by simpa using Nat.le_of_not_lt l)] at he
    cases z : (List.replicate (n - ts.length) (none : Option T))[i - (ts.map some).length]? with
    | none => rw [z] at he; cases he
    | some y =>
      rw [z] at he
      have := List.mem_of_getElem? z
      rw [List.mem_replicate] at this
      rw [this.2] at he
      cases he
theorem RetV.sub {b : Nat} {B : Nat → Prop} {t : T} {d : D} (v : RetV sh A b h t d) (hA : ∀ m, A m → m < h.length → B m) : RetV sh B b h t d := by
  obtain ⟨S, o, nd, bS⟩ := v
  exact ⟨S, Od.mono (fun m a l => ⟨hA m a.1 l, a.2⟩) (KeepIn.refl _ _) _ _ _ _ (KeepS.refl _ _) o, nd, bS⟩
theorem sf_def {fl : Bool} {ar n : Nat} (hb : SS (.sh sh) [] [] b sb wn wl) (hs : sh = .s ∨ fl = true) : SF sh (runF ar n b) (funT fl ar n sb) := fun A xs ts h big v t q => by
  unfold funT at q
  by_cases c : ts.length = ar
  · rw [if_pos c] at q
    obtain ⟨o, q1, q⟩ := bind_some q
    have p := hb A _ _ _ h h _ (args_rel (n := n) big v) (fun m o _ z => z) (Nat.le_refl _) (fun p hp => nomatch hp) o q1
    have kp : ∀ {h'' : DH}, KeepX (fun m => h.length ≤ m) h h'' → Keep h h'' := fun k m o z => k m o (by have := lt_of_get z; omega) z
    unfold runF runB
    rw [if_pos (by rw [v.length]; exact c)]
    cases o with
    | nx e' =>
      obtain ⟨ds', h', own', e1, s⟩ := p
      rw [e1]
      cases fl with
      | true => cases q
      | false =>
        rcases hs with rfl | hs
        · cases q; exact ⟨kp s.k0, ret_s.mpr (val_non.mpr rfl)⟩
        · cases hs
    | rt u e' =>
      obtain ⟨d, ds', h', own', e1, s, v1⟩ := p
      rw [e1]
      cases q
      exact ⟨kp s.k0, RetV.sub v1 fun m a _ => a.1⟩
    | _ => cases q
  · rw [if_neg c] at q; cases q
end
end Fu
namespace Fu
open PySem L2 Mi
mutual
def dT : D → T
  | .non => .non
  | .bl b => .bl b
  | .int i => .int i
  | .str s => .str s
  | .tup xs => .tup (dTs xs)
  | .ref _ => .non
def dTs : List D → List T
  | [] => []
  | x :: r => dT x :: dTs r
end
def Ok {α : Type} (o : Option α) (P : α → Prop) : Prop := match o with | some a => P a | none => False
def Sk (o : Option FR) (N C B : FSt → Prop) (R : T → Prop) : Prop := match o with | some (.nx e) => N e | some (.ct e) => C e | some (.bk e) => B e | some (.rt t _) => R t | none => False
section
variable {α β : Type} {P : α → Prop} {PT : T → Prop} {PB : Bool → Prop} {PL : List T → Prop} {PO : Option Int → Prop} {e : FSt} {N C B : FSt → Prop} {R : T → Prop}
theorem ok_some {a : α} : Ok (some a) P ↔ P a := Iff.rfl
theorem Ok.imp {o : Option α} {Q : α → Prop} (s : Ok o P) (k : ∀ a, P a → Q a) : Ok o Q := by cases o with | none => exact s | some a => exact k a s
theorem Ok.eq {o : Option α} (s : Ok o P) : ∃ a, o = some a ∧ P a := by cases o with | none => exact s.elim | some a => exact ⟨a, rfl, s⟩
theorem Ok.of {o : Option α} {a : α} (q : o = some a) (p : P a) : Ok o P := by rw [q]; exact p
theorem ok_bind {o : Option β} {f : β → Option α} : Ok (o.bind f) P ↔ Ok o fun b => Ok (f b) P := by cases o <;> exact Iff.rfl
theorem ok_map {o : Option β} {f : β → α} : Ok (o.map f) P ↔ Ok o fun b => P (f b) := by cases o <;> exact Iff.rfl
theorem ok_ite {c : Prop} [Decidable c] {o : Option α} : Ok (if c then o else none) P ↔ c ∧ Ok o P := by
  by_cases q : c
  · rw [if_pos q]; exact ⟨fun x => ⟨q, x⟩, fun x => x.2⟩
  · rw [if_neg q]; exact ⟨fun x => x.elim, fun x => q x.1⟩
theorem k_c {t : T} : Ok (fC t e) PT ↔ PT t := Iff.rfl
theorem k_var {i : Nat} : Ok (fVar i e) PT ↔ Ok (e.getD i none) PT := Iff.rfl
theorem k_op {g : T → T → Option T} {a b : FE} : Ok (fOp g a b e) PT ↔ Ok (a e) fun t => Ok (b e) fun u => Ok (g t u) PT := by unfold fOp; simp only [ok_bind]
theorem k_un {g : T → Option T} {a : FE} : Ok (fUn g a e) PT ↔ Ok (a e) fun t => Ok (g t) PT := ok_bind
theorem k_nil : Ok (fNil e) PL ↔ PL [] := Iff.rfl
theorem k_cons {a : FE} {r : FA} : Ok (fCons a r e) PL ↔ Ok (a e) fun t => Ok (r e) fun ts => PL (t :: ts) := by unfold fCons; simp only [ok_bind, ok_some]
theorem k_star {a : FE} {r : FA} : Ok (fStar a r e) PL ↔ Ok (a e) fun t => Ok (itemsT t) fun us => Ok (r e) fun ts => PL (us ++ ts) := by unfold fStar; simp only [ok_bind, ok_some]
theorem k_tup {a : FA} : Ok (fTup a e) PT ↔ Ok (a e) fun ts => ts.length ≤ 16777216 ∧ PT (.tup ts) := by unfold fTup; simp only [ok_bind, ok_ite, ok_some]
theorem k_lst {a : FA} : Ok (fLst a e) PT ↔ Ok (a e) fun ts => ts.length ≤ 16777216 ∧ PT (.lst ts) := by unfold fLst; simp only [ok_bind, ok_ite, ok_some]
theorem k_cb {g : List T → Option T} {a : FA} : Ok (fCB g a e) PT ↔ Ok (a e) fun ts => Ok (g ts) PT := ok_bind
theorem k_cbF {g : List T → Option T} {a : FA} : Ok (fCBF g a e) PT ↔ Ok (a e) fun ts => Ok (g ts) fun t => flatT t = true ∧ PT t := by unfold fCBF; simp only [ok_bind, ok_ite, ok_some]
def asB (t : T) (P : Bool → Prop) : Prop := match t with | .bl b => P b | _ => False
def asI (t : T) (P : Int → Prop) : Prop := match t with | .int b => P b | _ => False
theorem asB_bl {b : Bool} : asB (.bl b) PB ↔ PB b := Iff.rfl
theorem asI_int {b : Int} {PI : Int → Prop} : asI (.int b) PI ↔ PI b := Iff.rfl
theorem k_test {a : FE} : Ok (fTest a e) PB ↔ Ok (a e) fun t => asB t PB := by
  unfold fTest; rw [ok_bind]
  cases a e with
  | none => exact Iff.rfl
  | some t => cases t <;> exact Iff.rfl
theorem k_not {t : FT} : Ok (fNot t e) PB ↔ Ok (t e) fun b => PB (!b) := ok_map
theorem k_and {t u : FT} : Ok (fAnd t u e) PB ↔ Ok (t e) fun b => if b = true then Ok (u e) PB else PB false := by
  unfold fAnd; rw [ok_bind]
  cases t e with
  | none => exact Iff.rfl
  | some c => cases c <;> exact Iff.rfl
theorem k_or {t u : FT} : Ok (fOr t u e) PB ↔ Ok (t e) fun b => if b = true then PB true else Ok (u e) PB := by
  unfold fOr; rw [ok_bind]
  cases t e with
  | none => exact Iff.rfl
  | some c => cases c <;> exact Iff.rfl
theorem k_yes : Ok (fYes e) PB ↔ PB true := Iff.rfl
theorem k_notV {a : FE} : Ok (fNotV a e) PT ↔ Ok (a e) fun t => asB t fun b => PT (.bl (!b)) := by
  unfold fNotV; rw [ok_bind]
  cases a e with
  | none => exact Iff.rfl
  | some t => cases t <;> exact Iff.rfl
theorem k_andV {a b : FE} : Ok (fAndV a b e) PT ↔ Ok (a e) fun t => asB t fun c => if c = true then Ok (b e) PT else PT (.bl false) := by
  unfold fAndV; rw [ok_bind]
  cases a e with
  | none => exact Iff.rfl
  | some t => cases t with
    | bl c => cases c <;> exact Iff.rfl
    | _ => exact Iff.rfl
theorem k_orV {a b : FE} : Ok (fOrV a b e) PT ↔ Ok (a e) fun t => asB t fun c => if c = true then PT (.bl true) else Ok (b e) PT := by
  unfold fOrV; rw [ok_bind]
  cases a e with
  | none => exact Iff.rfl
  | some t => cases t with
    | bl c => cases c <;> exact Iff.rfl
    | _ => exact Iff.rfl
theorem k_if {t : FT} {a b : FE} : Ok (fIf t a b e) PT ↔ Ok (t e) fun c => if c = true then Ok (a e) PT else Ok (b e) PT := by
  unfold fIf; rw [ok_bind]
  cases t e with
  | none => exact Iff.rfl
  | some c => cases c <;> exact Iff.rfl
theorem k_oN : Ok (foNone e) PO ↔ PO none := Iff.rfl
theorem k_oS {a : FE} : Ok (foSome a e) PO ↔ Ok (a e) fun t => asI t fun i => PO (some i) := by
  unfold foSome; rw [ok_bind]
  cases a e with
  | none => exact Iff.rfl
  | some t => cases t <;> exact Iff.rfl
theorem k_sl {g : T → Option Int → Option Int → Option T} {a : FE} {lo hi : FO} : Ok (fSl g a lo hi e) PT ↔ Ok (a e) fun t => Ok (lo e) fun l => Ok (hi e) fun u => Ok (g t l u) PT := by unfold fSl; simp only [ok_bind]
theorem k_chain {f g : T → T → Option T} {a b c : FE} : Ok (fChain f g a b c e) PT ↔ Ok (a e) fun x => Ok (b e) fun y => Ok (f x y) fun z => asB z fun k => if k = true then Ok (c e) fun w => Ok (g y w) PT else PT (.bl false) := by
  unfold fChain
  rw [ok_bind]
  cases a e with
  | none => exact Iff.rfl
  | some x =>
    show Ok ((b e).bind _) PT ↔ Ok (b e) _
    rw [ok_bind]
    cases b e with
    | none => exact Iff.rfl
    | some y =>
      show Ok ((f x y).bind _) PT ↔ Ok (f x y) _
      rw [ok_bind]
      cases f x y with
      | none => exact Iff.rfl
      | some z => cases z with
        | bl k => cases k with
          | true => exact ok_bind
          | false => exact Iff.rfl
        | _ => exact Iff.rfl
theorem k_isi {S : Ty} {a : FE} : Ok (fIsi S a e) PT ↔ Ok (a e) fun t => Ok (tyT t) fun U => PT (.bl (subTy U S)) := by unfold fIsi; simp only [ok_bind, ok_map]
def asS (t : T) (P : Str → Prop) : Prop := match t with | .str b => P b | _ => False
theorem asS_str {b : Str} {PS : Str → Prop} : asS (.str b) PS ↔ PS b := Iff.rfl
theorem k_kd {tbl : List (Str × T)} {a : FE} : Ok (fKD tbl a e) PT ↔ Ok (a e) fun t => asS t fun z => Ok (fLook tbl z) PT := by
  unfold fKD; rw [ok_bind]
  cases a e with
  | none => exact Iff.rfl
  | some t => cases t <;> exact Iff.rfl
theorem k_kin {neg : Bool} {tbl : List (Str × T)} {a : FE} : Ok (fKIn neg tbl a e) PT ↔ Ok (a e) fun t => asS t fun z => PT (.bl (if neg then !(fLook tbl z).isSome else (fLook tbl z).isSome)) := by
  unfold fKIn; rw [ok_bind]
  cases a e with
  | none => exact Iff.rfl
  | some t => cases t <;> exact Iff.rfl
theorem k_lc {fi : FI} {j : Nat} {ft : FT} {fe : FE} {vs : List Nat} : Ok (fLc fi j ft fe vs e) PT ↔ Ok (fi e) fun ts => ts.length ≤ 16777216 ∧ Ok (lcT j ft fe (wipeT e vs) ts) fun us => PT (.lst us) := by
  unfold fLc; simp only [ok_bind, ok_ite, ok_map]
theorem k_seq {a : FE} : Ok (fSeq a e) PL ↔ Ok (a e) fun t => Ok (itemsT t) PL := ok_bind
theorem k_r1 {a : FE} : Ok (fR1 a e) PL ↔ Ok (a e) fun t => asI t fun j => (-(2 ^ 62) ≤ j ∧ j < 2 ^ 62) ∧ PL (rngT 0 j.toNat) := by
  unfold fR1; rw [ok_bind]
  cases a e with
  | none => exact Iff.rfl
  | some t => cases t with
    | int j => exact ok_ite
    | _ => exact Iff.rfl
theorem k_r2 {a b : FE} : Ok (fR2 a b e) PL ↔ Ok (a e) fun t => Ok (b e) fun u => asI t fun i => asI u fun j => (-(2 ^ 62) ≤ i ∧ i < 2 ^ 62 ∧ -(2 ^ 62) ≤ j ∧ j < 2 ^ 62) ∧ PL (rngT i (j - i).toNat) := by
  unfold fR2
  rw [ok_bind]
  cases a e with
  | none => exact Iff.rfl
  | some t =>
    show Ok ((b e).bind _) PL ↔ Ok (b e) _
    rw [ok_bind]
    cases b e with
    | none => exact Iff.rfl
    | some u => cases t with
      | int i => cases u with
        | int j => exact ok_ite
        | _ => exact Iff.rfl
      | _ => cases u <;> exact Iff.rfl
theorem Sk.imp {o : Option FR} {N' C' B' : FSt → Prop} {R' : T → Prop} (s : Sk o N C B R) (kn : ∀ e, N e → N' e) (kc : ∀ e, C e → C' e) (kb : ∀ e, B e → B' e) (kr : ∀ t, R t → R' t) : Sk o N' C' B' R' := by
  cases o with
  | none => exact s
  | some r => cases r with
    | nx e => exact kn e s
    | ct e => exact kc e s
    | bk e => exact kb e s
    | rt t _ => exact kr t s
theorem s_next : Sk (fNext e) N C B R ↔ N e := Iff.rfl
theorem s_seq {a b : FS} : Sk (fSeqS a b e) N C B R ↔ Sk (a e) (fun e' => Sk (b e') N C B R) C B R := by
  unfold fSeqS
  cases a e with
  | none => exact Iff.rfl
  | some r => cases r <;> exact Iff.rfl
theorem sk_bind {o : Option α} {f : α → Option FR} : Sk (o.bind f) N C B R ↔ Ok o fun a => Sk (f a) N C B R := by cases o <;> exact Iff.rfl
theorem s_set {a : FE} {i : Nat} : Sk (fSet a i e) N C B R ↔ Ok (a e) fun t => N (e.set i (some t)) := sk_bind
theorem s_own {a : FE} {i : Nat} : Sk (fOwn a i e) N C B R ↔ Ok (a e) fun t => i < e.length ∧ N (e.set i (some t)) := by
  unfold fOwn; rw [sk_bind]
  cases a e with
  | none => exact Iff.rfl
  | some t =>
    show Sk (if i < e.length then some (.nx (e.set i (some t))) else none) N C B R ↔ i < e.length ∧ N (e.set i (some t))
    by_cases q : i < e.length
    · simp only [if_pos q, q, true_and]; exact Iff.rfl
    · simp only [if_neg q, q, false_and]; exact Iff.rfl
theorem s_asg {a : FE} {g : FG} : Sk (fAsg a g e) N C B R ↔ Ok (a e) fun t => Ok (g t e) N := by
  unfold fAsg; rw [sk_bind]
  cases a e with
  | none => exact Iff.rfl
  | some t =>
    show Sk ((g t e).map FR.nx) N C B R ↔ Ok (g t e) N
    cases g t e <;> exact Iff.rfl
theorem s_drop {a : FE} : Sk (fDrop a e) N C B R ↔ Ok (a e) fun _ => N e := by unfold fDrop; cases a e <;> exact Iff.rfl
theorem s_ret {a : FE} : Sk (fRet a e) N C B R ↔ Ok (a e) R := by unfold fRet; cases a e <;> exact Iff.rfl
theorem s_retN : Sk (fRetN e) N C B R ↔ R .non := Iff.rfl
theorem s_brk : Sk (fBrk e) N C B R ↔ B e := Iff.rfl
theorem s_cnt : Sk (fCnt e) N C B R ↔ C e := Iff.rfl
theorem s_if {c : FT} {a b : FS} : Sk (fIfS c a b e) N C B R ↔ Ok (c e) fun t => if t = true then Sk (a e) N C B R else Sk (b e) N C B R := by
  unfold fIfS; rw [sk_bind]
  cases c e with
  | none => exact Iff.rfl
  | some t => cases t <;> exact Iff.rfl
theorem s_aug {i : Nat} {g : Int → Int → Int} {a : FE} : Sk (fAugI i g a e) N C B R ↔ Ok (e.getD i none) fun t => asI t fun x => Ok (a e) fun u => asI u fun y => N (e.set i (some (.int (g x y)))) := by
  unfold fAugI
  cases e.getD i none with
  | none => exact Iff.rfl
  | some t =>
    cases t with
    | int x =>
      show Sk ((a e).bind _) N C B R ↔ Ok (a e) _
      rw [sk_bind]
      cases a e with
      | none => exact Iff.rfl
      | some u => cases u <;> exact Iff.rfl
    | _ => exact Iff.rfl
theorem k_gNm {i : Nat} {t : T} : Ok (gtNm i t e) N ↔ N (e.set i (some t)) := Iff.rfl
theorem k_gNil : Ok (gtNil [] e) N ↔ N e := Iff.rfl
theorem k_gCons {g : FG} {r : List T → FSt → Option FSt} {t : T} {ts : List T} : Ok (gtCons g r (t :: ts) e) N ↔ Ok (g t e) fun e' => Ok (r ts e') N := ok_bind
theorem k_gTp {r : List T → FSt → Option FSt} {ts : List T} : Ok (gtTp r (.tup ts) e) N ↔ Ok (r ts e) N := Iff.rfl
def asL (t : T) (P : List T → Prop) : Prop := match t with | .lst b => P b | _ => False
theorem asL_lst {xs : List T} : asL (.lst xs) PL ↔ PL xs := Iff.rfl
theorem p_var {i : Nat} {PP : T × (T → T) → Prop} : Ok (pVar i e) PP ↔ Ok (e.getD i none) fun t => PP (t, id) := ok_map
theorem p_ix {p : FP} {k : FE} {PP : T × (T → T) → Prop} : Ok (pIx p k e) PP ↔ Ok (p e) fun q => Ok (k e) fun u => asL q.1 fun ts => asI u fun z => Ok (ixN ts.length z) fun j => Ok (ts[j]?) fun v => PP (v, fun v' => q.2 (.lst (ts.set j v'))) := by
  unfold pIx; rw [ok_bind]
  cases p e with
  | none => exact Iff.rfl
  | some q =>
    show Ok ((k e).bind _) PP ↔ Ok (k e) _
    rw [ok_bind]
    cases k e with
    | none => exact Iff.rfl
    | some u =>
      obtain ⟨t, up⟩ := q
      cases t with
      | lst ts => cases u with
        | int z =>
          show Ok ((ixN ts.length z).bind fun j => (ts[j]?).map fun v => (v, fun v' => up (.lst (ts.set j v')))) PP ↔ _
          rw [ok_bind]
          simp only [ok_map]
          exact Iff.rfl
        | _ => exact Iff.rfl
      | _ => cases u <;> exact Iff.rfl
def asTp (t : T) (P : List T → Prop) : Prop := match t with | .tup b => P b | _ => False
theorem asTp_tup {xs : List T} : asTp (.tup xs) PL ↔ PL xs := Iff.rfl
theorem p_cm {j : Nat} {p : FP} {PP : T × (T → T) → Prop} : Ok (pCm j p e) PP ↔ Ok (p e) fun q => asTp q.1 fun ts => Ok (ts[j]?) fun v => PP (v, fun v' => q.2 (.tup (ts.set j v'))) := by
  unfold pCm; rw [ok_bind]
  cases p e with
  | none => exact Iff.rfl
  | some q =>
    obtain ⟨t, up⟩ := q
    cases t with
    | tup ts => exact ok_map
    | _ => exact Iff.rfl
theorem k_pth {p : FP} {PT : T → Prop} : Ok (fPth p e) PT ↔ Ok (p e) fun q => PT q.1 := ok_map
theorem s_app {i : Nat} {p : FP} {a : FE} : Sk (fApp i p a e) N C B R ↔ Ok (p e) fun q => Ok (a e) fun t => asL q.1 fun xs => xs.length < 16777216 ∧ N (e.set i (some (q.2 (.lst (xs ++ [t]))))) := by
  unfold fApp; rw [sk_bind]
  cases p e with
  | none => exact Iff.rfl
  | some q =>
    show Sk ((a e).bind _) N C B R ↔ Ok (a e) _
    rw [sk_bind]
    cases a e with
    | none => exact Iff.rfl
    | some t =>
      obtain ⟨u, up⟩ := q
      cases u with
      | lst xs =>
        show Sk (if xs.length < 16777216 then some (.nx (e.set i (some (up (.lst (xs ++ [t])))))) else none) N C B R ↔ xs.length < 16777216 ∧ N (e.set i (some (up (.lst (xs ++ [t])))))
        by_cases c : xs.length < 16777216
        · simp only [if_pos c, c, true_and]; exact Iff.rfl
        · simp only [if_neg c, c, false_and]; exact Iff.rfl
      | _ => exact Iff.rfl
theorem s_pop {i j : Nat} {p : FP} : Sk (fPop i p j e) N C B R ↔ Ok (p e) fun q => asL q.1 fun xs => Ok (xs[xs.length - 1]?) fun t => N ((e.set i (some (q.2 (.lst xs.dropLast)))).set j (some t)) := by
  unfold fPop; rw [sk_bind]
  cases p e with
  | none => exact Iff.rfl
  | some q =>
    obtain ⟨u, up⟩ := q
    cases u with
    | lst xs => exact sk_bind
    | _ => exact Iff.rfl
theorem s_popD {i : Nat} {p : FP} : Sk (fPopD i p e) N C B R ↔ Ok (p e) fun q => asL q.1 fun xs => Ok (xs[xs.length - 1]?) fun t => N (e.set i (some (q.2 (.lst xs.dropLast)))) := by
  unfold fPopD; rw [sk_bind]
  cases p e with
  | none => exact Iff.rfl
  | some q =>
    obtain ⟨u, up⟩ := q
    cases u with
    | lst xs => exact sk_bind
    | _ => exact Iff.rfl
theorem s_rev {i : Nat} {p : FP} : Sk (fRev i p e) N C B R ↔ Ok (p e) fun q => asL q.1 fun xs => N (e.set i (some (q.2 (.lst xs.reverse)))) := by
  unfold fRev; rw [sk_bind]
  cases p e with
  | none => exact Iff.rfl
  | some q => obtain ⟨u, up⟩ := q; cases u <;> exact Iff.rfl
theorem s_clr {i : Nat} {p : FP} : Sk (fClr i p e) N C B R ↔ Ok (p e) fun q => asL q.1 fun xs => N (e.set i (some (q.2 (.lst [])))) := by
  unfold fClr; rw [sk_bind]
  cases p e with
  | none => exact Iff.rfl
  | some q => obtain ⟨u, up⟩ := q; cases u <;> exact Iff.rfl
theorem s_put {i : Nat} {p : FP} {k a : FE} : Sk (fPut i p k a e) N C B R ↔ Ok (a e) fun t => Ok (p e) fun q => Ok (k e) fun u => asL q.1 fun xs => asI u fun z => Ok (ixN xs.length z) fun j => N (e.set i (some (q.2 (.lst (xs.set j t))))) := by
  unfold fPut; rw [sk_bind]
  cases a e with
  | none => exact Iff.rfl
  | some t =>
    show Sk ((p e).bind _) N C B R ↔ Ok (p e) _
    rw [sk_bind]
    cases p e with
    | none => exact Iff.rfl
    | some q =>
      show Sk ((k e).bind _) N C B R ↔ Ok (k e) _
      rw [sk_bind]
      cases k e with
      | none => exact Iff.rfl
      | some u =>
        obtain ⟨v, up⟩ := q
        cases v with
        | lst xs => cases u with
          | int z => exact sk_bind
          | _ => exact Iff.rfl
        | _ => cases u <;> exact Iff.rfl
theorem s_for {fi : FI} {g : FG} {b : FS} : Sk (fFor fi g b e) N C B R ↔ Ok (fi e) fun ts => Sk (forT g b ts e) N C B R := sk_bind
/-- a loop by what holds ahead of each turn -/
theorem for_inv {g : FG} {b : FS} {xs : List T} (I : Nat → FSt → Prop) (start : I 0 e) (turn : ∀ i x e, xs[i]? = some x → I i e → Ok (g x e) fun e1 => Sk (b e1) (I (i + 1)) (I (i + 1)) N R) (done : ∀ e, I xs.length e → N e) : Sk (forT g b xs e) N C B R := by
  have core : ∀ (ys : List T) (i : Nat) (e : FSt), xs.drop i = ys → i ≤ xs.length → I i e → Sk (forT g b ys e) N C B R := by
    intro ys
    induction ys with
    | nil =>
      intro i e q l p
      have : xs.length ≤ i := List.drop_eq_nil_iff.mp q
      have e2 : i = xs.length := by omega
      subst e2
      exact done e p
    | cons y ys ih =>
      intro i e q l p
      have hl : i < xs.length := by
        apply Classical.byContradiction
        intro c
        rw [List.drop_eq_nil_of_le (by omega)] at q
        cases q
      rw [List.drop_eq_getElem_cons hl] at q
      have q1 : xs[i] = y := (List.cons.inj q).1
      have q2 : xs.drop (i + 1) = ys := (List.cons.inj q).2
      have hx : xs[i]? = some y := by rw [List.getElem?_eq_getElem hl, q1]
      simp only [forT]
      rw [sk_bind]
      refine (turn i y e hx p).imp fun e1 s => ?_
      rw [sk_bind]
      cases z : b e1 with
      | none => rw [z] at s; exact s.elim
      | some o =>
        rw [z] at s
        cases o with
        | nx e2 => exact ih (i + 1) e2 q2 hl s
        | ct e2 => exact ih (i + 1) e2 q2 hl s
        | bk e2 => exact s
        | rt t _ => exact s
  exact core xs 0 e rfl (Nat.zero_le _) start
theorem s_while {M : Nat} {c : FT} {b : FS} : Sk (fWhile M c b e) N C B R ↔ Sk (whileT c b M e) N C B R := Iff.rfl
theorem k_fun {fr : Bool} {ar n : Nat} {f : FS} {xs : List T} (hl : xs.length = ar) (s : Sk (f (xs.map some ++ List.replicate (n - xs.length) none)) (fun _ => fr = false ∧ PT .non) (fun _ => False) (fun _ => False) PT) : Ok (funT fr ar n f xs) PT := by
  unfold funT
  rw [if_pos hl, ok_bind]
  cases z : f (xs.map some ++ List.replicate (n - xs.length) none) with
  | none => rw [z] at s; exact s.elim
  | some o =>
    rw [z] at s
    cases o with
    | nx e => obtain ⟨rfl, s⟩ := s; exact s
    | rt t _ => exact s
    | ct e => exact s.elim
    | bk e => exact s.elim
theorem lc_ok {j : Nat} {ft : FT} {fe : FE} (p : T → Bool) (g : T → T) : ∀ (xs : List T), (∀ x ∈ xs, ft (e.set j (some x)) = some (p x)) → (∀ x ∈ xs, p x = true → fe (e.set j (some x)) = some (g x)) → lcT j ft fe e xs = some ((xs.filter p).map g)
  | [], _, _ => rfl
  | x :: xs, h1, h2 => by
    have ih := lc_ok p g xs (fun y hy => h1 y (List.mem_cons_of_mem _ hy)) fun y hy => h2 y (List.mem_cons_of_mem _ hy)
    simp only [lcT, h1 x List.mem_cons_self, Option.bind]
    cases c : p x with
    | true => simp only [if_true, h2 x List.mem_cons_self c, ih, Option.map_some, List.filter_cons, c, if_true, List.map_cons]
    | false => simp only [Bool.false_eq_true, if_false, ih, List.filter_cons, c]
end
theorem SF.run {sh : Sh} {F : List D → DH → Res D} {G : List T → Option T} (s : SF sh F G) {A : Nat → Prop} {h : DH} {xs : List D} {ts : List T} {t : T} (big : ∀ m, h.length ≤ m → A m) (v : Vals A h ts xs) (q : G ts = some t) {P : D → DH → Prop} (p : ∀ d h', Keep h h' → RetV sh A h.length h' t d → P d h') : SatE (F xs h) P := (s A xs ts h big v t q).imp fun d h' ⟨k, r⟩ => p d h' k r
/-- the law's own run -/
theorem SF.law {sh : Sh} {F : List D → DH → Res D} {G : List T → Option T} (s : SF sh F G) {ns : List Int} (q : G [.fro (ns.map T.int)] = some (.bl true)) : ∃ h', F [.ref 0] [.fro (ns.map D.int)] = .ok (.bl true) h' := by
  have v : Vals (fun _ => True) [DO.fro (ns.map D.int)] [.fro (ns.map T.int)] [.ref 0] := Vals.cons (val_fro.mpr ⟨0, _, rfl, trivial, rfl, Vals.ints⟩) Vals.nil
  obtain ⟨d, h', e, _, r⟩ := (s _ _ _ _ (fun _ _ => trivial) v _ q).eq
  obtain ⟨S, o, _⟩ := r
  have := Od.val (B := fun _ => True) (fun _ _ _ => trivial) _ _ _ _ (fun _ _ => trivial) o
  exact ⟨h', by rw [e, val_bl.mp this]⟩
end Fu
namespace Fu
open PySem L2 Mi
section
variable {i j : Int} {a b : Str} {p q : Bool} {xs ys : List T} {t u : T} {PT : T → Prop} {PL : List T → Prop}
theorem addT_ii : addT (.int i) (.int j) = some (.int (i + j)) := rfl
theorem addT_ll : addT (.lst xs) (.lst ys) = if xs.length + ys.length ≤ 16777216 then some (.lst (xs ++ ys)) else none := rfl
theorem addT_tt : addT (.tup xs) (.tup ys) = if xs.length + ys.length ≤ 16777216 then some (.tup (xs ++ ys)) else none := rfl
theorem addT_ss : addT (.str a) (.str b) = if a.length + b.length ≤ 16777216 then some (.str (a ++ b)) else none := rfl
theorem catT_ll : catT (.lst xs) (.lst ys) = if xs.length + ys.length ≤ 16777216 then some (.lst (xs ++ ys)) else none := rfl
theorem subT_ii : subT (.int i) (.int j) = some (.int (i - j)) := rfl
theorem mulT_ii : mulT (.int i) (.int j) = if mulC i j then some (.int (i * j)) else none := rfl
theorem mulT_si : mulT (.str a) (.int j) = if 0 ≤ j ∧ j ≤ 1000 ∧ a.length ≤ 10000 then some (.str (strRep a j.toNat)) else none := rfl
theorem mulT_li : mulT (.lst xs) (.int j) = if 0 ≤ j ∧ j ≤ 100000 ∧ xs.length * j.toNat ≤ 16777216 then some (.lst (List.replicate j.toNat xs).flatten) else none := rfl
theorem repT_li : repT (.lst xs) (.int j) = if 0 ≤ j ∧ j ≤ 100000 ∧ xs.length * j.toNat ≤ 16777216 then some (.lst (List.replicate j.toNat xs).flatten) else none := rfl
theorem fdivT_ii : fdivT (.int i) (.int j) = if 0 < j ∧ j < 1073741824 then some (.int (i / j)) else none := rfl
theorem modT_ii : modT (.int i) (.int j) = if 0 < j then some (.int (i % j)) else none := rfl
theorem powT_ii : powT (.int i) (.int j) = if 0 ≤ j ∧ j ≤ 1000000 ∧ i.natAbs < 2 ^ 64 then some (.int (i ^ j.toNat)) else none := rfl
theorem negT_i : negT (.int i) = some (.int (-i)) := rfl
theorem ltT_ii : ltT (.int i) (.int j) = some (.bl (decide (i < j))) := rfl
theorem leT_ii : leT (.int i) (.int j) = some (.bl (decide (i ≤ j))) := rfl
theorem gtT_ii : gtT (.int i) (.int j) = some (.bl (decide (j < i))) := rfl
theorem geT_ii : geT (.int i) (.int j) = some (.bl (decide (j ≤ i))) := rfl
theorem eqST_ii : eqST (.int i) (.int j) = some (decide (i = j)) := rfl
theorem eqST_ss : eqST (.str a) (.str b) = some (decide (a = b)) := rfl
theorem eqST_bb : eqST (.bl p) (.bl q) = some (decide (p = q)) := rfl
theorem eqT_ii : eqT (.int i) (.int j) = some (decide (i = j)) := rfl
theorem eqT_ss : eqT (.str a) (.str b) = some (decide (a = b)) := rfl
theorem eqT_bb : eqT (.bl p) (.bl q) = some (decide (p = q)) := rfl
theorem ok_oBl {f : T → T → Option Bool} : Ok (oBl f t u) PT ↔ Ok (f t u) fun b => PT (.bl b) := ok_map
theorem ok_oNb {f : T → T → Option Bool} : Ok (oNb f t u) PT ↔ Ok (f t u) fun b => PT (.bl (!b)) := ok_map
theorem isNT_n : isNT .non .non = some true := rfl
theorem isNT_i : isNT (.int i) .non = some false := rfl
theorem isNT_l : isNT (.lst xs) .non = some false := rfl
theorem isNT_t : isNT (.tup xs) .non = some false := rfl
theorem isNT_b : isNT (.bl p) .non = some false := rfl
theorem isNT_s : isNT (.str a) .non = some false := rfl
theorem lenT_l : lenT [.lst xs] = some (.int xs.length) := rfl
theorem lenT_t : lenT [.tup xs] = some (.int xs.length) := rfl
theorem lenT_f : lenT [.fro xs] = some (.int xs.length) := rfl
theorem lenT_s : lenT [.str a] = if a.length ≤ 16777216 then some (.int a.length) else none := rfl
theorem itemsT_l : itemsT (.lst xs) = some xs := rfl
theorem itemsT_t : itemsT (.tup xs) = some xs := rfl
theorem itemsT_f : itemsT (.fro xs) = some xs := rfl
theorem lstT_l : lstT [.lst xs] = some (.lst xs) := rfl
theorem lstT_t : lstT [.tup xs] = some (.lst xs) := rfl
theorem lstT_f : lstT [.fro xs] = some (.lst xs) := rfl
theorem tupT_l : tupT [.lst xs] = some (.tup xs) := rfl
theorem tupT_t : tupT [.tup xs] = some (.tup xs) := rfl
theorem ixT_l : ixT (.lst xs) (.int i) = atI xs i := rfl
theorem ixT_t : ixT (.tup xs) (.int i) = atI xs i := rfl
theorem ixT_f : ixT (.fro xs) (.int i) = atI xs i := rfl
theorem intT_i : intT [.int i] = some (.int i) := rfl
theorem absT_i : absT [.int i] = some (.int (if i < 0 then -i else i)) := rfl
theorem max2T_i : max2T [.int i, .int j] = some (.int (if j > i then j else i)) := rfl
theorem min2T_i : min2T [.int i, .int j] = some (.int (if j < i then j else i)) := rfl
theorem slT_l {lo hi : Option Int} : slT (.lst xs) lo hi = some (.lst (cutD xs lo hi)) := rfl
theorem slLT_l {lo hi : Option Int} : slLT (.lst xs) lo hi = some (.lst (cutD xs lo hi)) := rfl
theorem atI_ge {α : Type} {zs : List α} {i : Int} {d : α} (h0 : 0 ≤ i) (h : zs[i.toNat]? = some d) : atI zs i = some d := atI_pos h0 h
theorem ok_at {zs : List T} {i : Int} (h0 : 0 ≤ i) (h1 : i < zs.length) (p : ∀ t, zs[i.toNat]? = some t → PT t) : Ok (atI zs i) PT := by
  have e : zs[i.toNat]? = some (zs[i.toNat]'(by omega)) := List.getElem?_eq_getElem (by omega)
  rw [atI_pos h0 e]
  exact p _ e
theorem flatT_i : flatT (.int i) = true := rfl
theorem flatT_s : flatT (.str a) = true := rfl
theorem flatT_b : flatT (.bl p) = true := rfl
theorem flatT_n : flatT .non = true := rfl
theorem tyT_i : tyT (.int i) = some .int := rfl
theorem tyT_s : tyT (.str a) = some .str := rfl
theorem tyT_b : tyT (.bl p) = some .bool := rfl
theorem tyT_t : tyT (.tup xs) = some .tuple := rfl
theorem tyT_l : tyT (.lst xs) = some .list := rfl
theorem tyT_f : tyT (.fro xs) = some .list := rfl
theorem tyT_n : tyT .non = some .non := rfl
/-- a slice from an end on, up to an end -/
theorem cut_from {zs : List T} {n : Nat} : cutD zs (some (n : Int)) none = zs.drop n := by
  unfold cutD
  rw [HT.sIx_nat, HT.sIx_none, List.take_of_length_le]
  · by_cases l : n ≤ zs.length
    · rw [Nat.min_eq_left l]
    · rw [Nat.min_eq_right (by omega), List.drop_of_length_le (Nat.le_refl _), List.drop_of_length_le (by omega)]
  · rw [List.length_drop]; exact Nat.le_refl _
theorem rngT_len {lo : Int} {n : Nat} : (rngT lo n).length = n := by unfold rngT; simp
theorem rngT_get {lo : Int} {n i : Nat} {x : T} (e : (rngT lo n)[i]? = some x) : i < n ∧ x = .int (lo + (i : Nat)) := by
  unfold rngT at e
  rw [List.getElem?_map] at e
  by_cases l : i < n
  · rw [List.getElem?_range l] at e; cases e; exact ⟨l, rfl⟩
  · rw [List.getElem?_eq_none (by simpa using l)] at e; cases e
theorem n_cutF {a b : FS} {e : FSt} {N C B : FSt → Prop} {R : T → Prop} (Mid : FSt → Prop) (s : Sk (a e) Mid C B R) (k : ∀ e', Mid e' → Sk (b e') N C B R) : Sk (fSeqS a b e) N C B R := by
  rw [s_seq]
  exact s.imp k (fun _ x => x) (fun _ x => x) fun _ x => x
inductive Pl : Nat → T → Prop where
  | int {k : Nat} (i : Int) : Pl k (.int i)
  | str {k : Nat} (s : Str) : Pl k (.str s)
  | tup {k : Nat} {xs : List T} (h : ∀ x ∈ xs, Pl k x) (l : xs.length ≤ 1000000) : Pl (k + 1) (.tup xs)
  | lst {k : Nat} {xs : List T} (h : ∀ x ∈ xs, Pl k x) (l : xs.length ≤ 1000000) : Pl (k + 1) (.lst xs)
theorem Pl.mono : ∀ {k m : Nat} {t : T}, Pl k t → k ≤ m → Pl m t
  | _, _, _, .int i, _ => .int i
  | _, _, _, .str s, _ => .str s
  | k + 1, m, _, .tup h l, q => by
    obtain ⟨m', rfl⟩ : ∃ m', m = m' + 1 := ⟨m - 1, by omega⟩
    exact .tup (fun x hx => (h x hx).mono (by omega)) l
  | k + 1, m, _, .lst h l, q => by
    obtain ⟨m', rfl⟩ : ∃ m', m = m' + 1 := ⟨m - 1, by omega⟩
    exact .lst (fun x hx => (h x hx).mono (by omega)) l
end
end Fu
namespace Fu
open PySem L2 Mi
def pyU : T → PyData
  | .non => .none
  | .bl b => .bool b
  | .int i => .int i
  | .str z => .str z
  | .tup xs => .tuple (xs.map fun x => pyU x)
  | .lst xs => .list (xs.map fun x => pyU x)
  | .fro xs => .list (xs.map fun x => pyU x)
  | _ => .none
/-- plain values; with truths and None among them if b -/
inductive Py : Bool → Nat → T → Prop where
  | int {b : Bool} {k : Nat} (i : Int) : Py b (k + 1) (.int i)
  | str {b : Bool} {k : Nat} {z : Str} (h : PyData.strOk z = true) : Py b (k + 1) (.str z)
  | bl {k : Nat} (p : Bool) : Py true (k + 1) (.bl p)
  | non {k : Nat} : Py true (k + 1) .non
  | tup {b : Bool} {k : Nat} {xs : List T} (h : ∀ x ∈ xs, Py b k x) : Py b (k + 1) (.tup xs)
  | lst {b : Bool} {k : Nat} {xs : List T} (h : ∀ x ∈ xs, Py b k x) : Py b (k + 1) (.lst xs)
theorem Py.mono {b : Bool} : ∀ {j k : Nat} {t : T}, Py b j t → j ≤ k → Py b k t
  | _, k, _, .str h, l => match k, l with | k + 1, _ => .str h
  | _, k, _, .int i, l => match k, l with | k + 1, _ => .int i
  | _, k, _, .bl p, l => match k, l with | k + 1, _ => .bl p
  | _, k, _, .non, l => match k, l with | k + 1, _ => .non
  | j + 1, k, _, .tup h, l => match k, l with | k + 1, l => .tup (fun x hx => (h x hx).mono (by omega))
  | j + 1, k, _, .lst h, l => match k, l with | k + 1, l => .lst (fun x hx => (h x hx).mono (by omega))
theorem pyFs_map {k : Nat} : ∀ {xs : List T}, (∀ x ∈ xs, pyF k x = some (pyU x)) → pyFs k xs = some (xs.map fun x => pyU x)
  | [], _ => by simp only [pyFs, List.map_nil]
  | x :: r, h => by
    simp only [pyFs, h x List.mem_cons_self, Option.bind, pyFs_map (xs := r) fun y hy => h y (List.mem_cons_of_mem _ hy), Option.map_some, List.map_cons]
theorem py_U {b : Bool} : ∀ {j k : Nat} {t : T}, Py b j t → j ≤ k → pyF k t = some (pyU t)
  | _, k, _, .str _, l => match k, l with | k + 1, _ => by simp only [pyF, pyU]
  | _, k, _, .int _, l => match k, l with | k + 1, _ => by simp only [pyF, pyU]
  | _, k, _, .bl _, l => match k, l with | k + 1, _ => by simp only [pyF, pyU]
  | _, k, _, .non, l => match k, l with | k + 1, _ => by simp only [pyF, pyU]
  | j + 1, k, .tup xs, .tup hh, l => match k, l with
    | k + 1, l => by
      simp only [pyF]
      rw [pyFs_map fun x hx => py_U (hh x hx) (Nat.le_of_succ_le_succ l)]
      simp only [Option.map_some, pyU]
  | j + 1, k, .lst xs, .lst hh, l => match k, l with
    | k + 1, l => by
      simp only [pyF]
      rw [pyFs_map fun x hx => py_U (hh x hx) (Nat.le_of_succ_le_succ l)]
      simp only [Option.map_some, pyU]
theorem cl_all {l : List PyData} : (∀ x ∈ l, PyData.canLay0 x = true) → PyData.canLayAll0 l = true := by
  induction l with
  | nil => intro _; rfl
  | cons a r ih =>
    intro h
    simp only [PyData.canLayAll0, Bool.and_eq_true]
    exact ⟨h a List.mem_cons_self, ih fun x hx => h x (List.mem_cons_of_mem _ hx)⟩
theorem dp_all {l : List PyData} {n : Nat} : (∀ x ∈ l, PyData.depth x ≤ n) → PyData.depthAll l ≤ n := by
  induction l with
  | nil => intro _; exact Nat.zero_le _
  | cons a r ih =>
    intro h
    simp only [PyData.depthAll]
    exact Nat.max_le.mpr ⟨h a List.mem_cons_self, ih fun x hx => h x (List.mem_cons_of_mem _ hx)⟩
theorem py_ok {b : Bool} : ∀ {j : Nat} {t : T}, Py b j t → PyData.canLay0 (pyU t) = true ∧ PyData.depth (pyU t) ≤ j
  | _, _, .str h => ⟨by simp only [pyU]; exact h, by simp [pyU, PyData.depth]⟩
  | _, _, .int _ => ⟨by simp only [pyU]; rfl, by simp [pyU, PyData.depth]⟩
  | _, _, .bl _ => ⟨by simp only [pyU]; rfl, by simp [pyU, PyData.depth]⟩
  | _, _, .non => ⟨by simp only [pyU]; rfl, by simp [pyU, PyData.depth]⟩
  | j + 1, .tup xs, .tup hh => by
    simp only [pyU, PyData.canLay0, PyData.depth]
    refine ⟨cl_all fun x hx => ?_, Nat.succ_le_succ (dp_all fun x hx => ?_)⟩
    · obtain ⟨y, hy, rfl⟩ := List.mem_map.mp hx
      exact (py_ok (hh y hy)).1
    · obtain ⟨y, hy, rfl⟩ := List.mem_map.mp hx
      exact (py_ok (hh y hy)).2
  | j + 1, .lst xs, .lst hh => by
    simp only [pyU, PyData.canLay0, PyData.depth]
    refine ⟨cl_all fun x hx => ?_, Nat.succ_le_succ (dp_all fun x hx => ?_)⟩
    · obtain ⟨y, hy, rfl⟩ := List.mem_map.mp hx
      exact (py_ok (hh y hy)).1
    · obtain ⟨y, hy, rfl⟩ := List.mem_map.mp hx
      exact (py_ok (hh y hy)).2
theorem py_shp {b : Bool} {j : Nat} {t : T} (h : Py b j t) (l : j ≤ 150) : shp (pyU t) = true := by
  have := py_ok h
  unfold shp
  rw [this.1, Bool.true_and]
  exact decide_eq_true (by omega)
theorem eqvAll_refl {f : T → PyData} : ∀ (xs : List T), (∀ x ∈ xs, PyData.eqv (f x) (f x) = true) → PyData.eqvAll (xs.map f) (xs.map f) = true
  | [], _ => rfl
  | x :: r, h => by simp only [List.map_cons, PyData.eqvAll, h x List.mem_cons_self, eqvAll_refl r fun y hy => h y (List.mem_cons_of_mem _ hy), Bool.and_self]
theorem eqv_refl {b : Bool} : ∀ {j : Nat} {a : T}, Py b j a → PyData.eqv (pyU a) (pyU a) = true
  | _, _, .str _ => by simp [pyU, PyData.eqv]
  | _, _, .int _ => by simp [pyU, PyData.eqv]
  | _, _, .bl _ => by simp [pyU, PyData.eqv]
  | _, _, .non => by simp [pyU, PyData.eqv]
  | j + 1, .tup xs, .tup h => by simp only [pyU, PyData.eqv]; exact eqvAll_refl xs fun x hx => eqv_refl (h x hx)
  | j + 1, .lst xs, .lst h => by simp only [pyU, PyData.eqv]; exact eqvAll_refl xs fun x hx => eqv_refl (h x hx)
theorem eqT_deep {b c : Bool} {j k : Nat} {t u : T} (h1 : Py b j t) (h2 : Py c k u) (l1 : j ≤ 150) (l2 : k ≤ 150) : deepT t u = some (PyData.eqv (pyU t) (pyU u)) := by
  unfold deepT
  rw [py_U h1 (show j ≤ 160 by omega), py_U h2 (show k ≤ 160 by omega)]
  simp only [py_shp h1 l1, py_shp h2 l2, Bool.and_self, if_true]
/-- a plain value is == to itself -/
theorem eqT_self {b : Bool} {j : Nat} {t : T} (h : Py b j t) (l : j ≤ 150) : eqT t t = some true := by
  have d := eqT_deep h h l l
  rw [eqv_refl h] at d
  unfold eqT
  cases q : eqST t t with
  | none => exact d
  | some r =>
    cases h <;> simp only [eqST] at q <;> cases q <;> simp
end Fu
namespace Fu
open PySem L2 Mi
mutual
def ptT : PTg → T → FSt → Option FSt
  | .nm i, t, e => some (e.set i (some t))
  | .tp l, t, e => match t with | .tup xs => ptTs l xs e | _ => none
def ptTs : PTl → List T → FSt → Option FSt
  | .nil, xs, e => match xs with | [] => some e | _ => none
  | .cons p l, xs, e => match xs with | x :: xs => (ptT p x e).bind fun e' => ptTs l xs e' | [] => none
end
def lcTP (g : PTg) (ft : FT) (fe : FE) (e : FSt) : List T → Option (List T)
  | [] => some []
  | x :: xs => (ptT g x e).bind fun e1 => (ft e1).bind fun c => if c then (fe e1).bind fun t => (lcTP g ft fe e xs).map (t :: ·) else lcTP g ft fe e xs
def fLcP (fi : FI) (g : PTg) (ft : FT) (fe : FE) (vs : List Nat) : FE := fun e => (fi e).bind fun ts => if ts.length ≤ 16777216 then (lcTP g ft fe (wipeT e vs) ts).map .lst else none
section
variable {rs : Rk} {sh sh' : Sh} {wr w w1 wn wl wn' wl' : Ws} {A X : Nat → Prop} {h0 h h1 h' h'' : DH} {own own1 own' own'' : Ow} {ds ds1 ds' ds'' : DSt} {e e1 e' e'' : FSt}
variable {m ma mb mk mo : EM} {f fa fb fk : FE} {a b : SM} {sa sb : FS} {t : TM} {ft : FT} {i j : Nat} {p : FP} {mr : AM} {fr : FA}
def lstO : T → Option (List T)
  | .lst xs => some xs
  | .fro xs => some xs
  | _ => none
def enT (k : Nat) : List T → List T
  | [] => []
  | x :: r => .tup [.int (k : Nat), x] :: enT (k + 1) r
def fEn (a : FE) : FI := fun e => (a e).bind fun t => (lstO t).map (enT 0)
def zpT : List T → List T → List T
  | x :: xs, y :: ys => .tup [x, y] :: zpT xs ys
  | _, _ => []
def fZp (a b : FE) : FI := fun e => (a e).bind fun t => (b e).bind fun u => (lstO t).bind fun xs => (lstO u).map fun ys => zpT xs ys
def fRv (a : FE) : FI := fun e => (a e).bind fun t => (lstO t).map List.reverse
def bOpT (g : Bool → Bool → Bool) (t u : T) : Option T := match t, u with | .bl a, .bl b => some (.bl (g a b)) | _, _ => none
theorem o_bOp {g : Bool → Bool → Bool} : SOp (bOpD g) (bOpT g) := fun A h x y t u v big r1 r2 e => by
  cases t with
  | bl a =>
    cases u with
    | bl b => cases e; rw [bv_bl r1, bv_bl r2]; exact ⟨Keep.refl _, val_bl.mpr rfl⟩
    | _ => cases e
  | _ => cases e
theorem fr_bOp {g : Bool → Bool → Bool} : FlatR (bOpT g) := fun t u v e => by
  cases t with
  | bl a =>
    cases u with
    | bl b => cases e; rfl
    | _ => cases e
  | _ => cases e
def fFldC (c : Nat) (f : Str) (a : FE) : FE := fun e => (a e).bind fun t => match t with | .obj c' fs => if c' = c then fs.lookup f else none | _ => none
end
end Fu
namespace Fu
open PySem L2 Mi
section
variable {A X : Nat → Prop} {w w' : Ws} {own : Ow} {ds : DSt} {h h' : DH} {e : FSt}
/-- what one slot owns is changed; what it drops may be shared then -/
theorem Rel.storeG (r : Rel A X w own ds h e) {i : Nat} {sh' : Sh} {t' : T} {d : D} {S' : List Nat} (hi : (i, sh') ∈ w) (hd : ds.getD i none = some d)
    (kA : KeepIn (Al A w own) h h') (kS : ∀ p ∈ w, p.1 ≠ i → KeepS (own p.1) h h') (l : h.length ≤ h'.length) (nd : S'.Nodup) (hS : ∀ m ∈ S', m ∈ own i ∨ h.length ≤ m) (o : Od (fun m => (Al A w own m ∨ m ∈ own i) ∧ m ∉ S') h' sh' t' d S') :
    Rel A X w (fun j => if j = i then S' else own j) ds h' (e.set i (some t')) := by
  have hl : i < e.length := by
    obtain ⟨_, _, t, d, a2, _⟩ := r.ow _ hi
    exact lt_of_getD a2
  have hA : ∀ m, ((Al A w own m ∨ m ∈ own i) ∧ m ∉ S') → Al A w (fun j => if j = i then S' else own j) m := fun m a => ⟨by
    rcases a.1 with z | z
    · exact z.1
    · exact ((r.ow _ hi).2.1 m z).2, fun p hp => by
    show m ∉ (if p.1 = i then S' else own p.1)
    by_cases q : p.1 = i
    · rw [if_pos q]; exact a.2
    · rw [if_neg q]
      rcases a.1 with z | z
      · exact z.2 p hp
      · exact r.dj _ hi p hp (Ne.symm q) m z⟩
  have hB : ∀ m, Al A w own m → m < h.length → Al A w (fun j => if j = i then S' else own j) m := fun m a l' => hA m ⟨.inl a, fun z => by
    rcases hS m z with y | y
    · exact a.2 _ hi y
    · omega⟩
  refine ⟨fun m q => r.big m (Nat.le_trans l q), fun m q => r.bigX m (Nat.le_trans l q), fun p hp => ?_, fun p hp q hq n m hm => ?_, r.un, fun j u hj he => ?_, by rw [List.length_set, r.len]⟩
  · show (if p.1 = i then S' else own p.1).Nodup ∧ (∀ m ∈ (if p.1 = i then S' else own p.1), X m ∧ A m) ∧ ∃ t d, (e.set i (some t')).getD p.1 none = some t ∧ ds.getD p.1 none = some d ∧ Od _ h' p.2 t d (if p.1 = i then S' else own p.1)
    by_cases q : p.1 = i
    · have e1 : p = (i, sh') := r.un p hp _ hi q
      subst e1
      simp only [if_true]
      refine ⟨nd, fun m hm => ?_, t', d, getD_set_eq hl, hd, Od.mono (fun m a _ => hA m a) (KeepIn.refl _ _) _ _ _ _ (KeepS.refl _ _) o⟩
      rcases hS m hm with y | y
      · exact (r.ow _ hi).2.1 m y
      · exact ⟨r.bigX m y, r.big m y⟩
    · simp only [if_neg q]
      obtain ⟨a, a1, t, d', a2, a3, a4⟩ := r.ow p hp
      exact ⟨a, a1, t, d', by rw [getD_set_ne (Ne.symm q)]; exact a2, a3, Od.mono hB kA _ _ _ _ (kS p hp q) a4⟩
  · replace hm : m ∈ (if p.1 = i then S' else own p.1) := hm
    show m ∉ (if q.1 = i then S' else own q.1)
    by_cases y : p.1 = i
    · rw [if_pos y] at hm
      by_cases x : q.1 = i
      · exact absurd (y.trans x.symm) n
      · rw [if_neg x]
        intro z
        rcases hS m hm with v | v
        · exact r.dj q hq _ hi x m z v
        · have := r.ltO hq m z; omega
    · rw [if_neg y] at hm
      by_cases x : q.1 = i
      · rw [if_pos x]
        intro z
        rcases hS m z with v | v
        · exact r.dj p hp _ hi y m hm v
        · have := r.ltO hp m hm; omega
      · rw [if_neg x]
        exact r.dj p hp q hq n m hm
  · have n : i ≠ j := hj (i, sh') hi
    rw [getD_set_ne n] at he
    obtain ⟨x, a1, a2⟩ := r.sh j u hj he
    exact ⟨x, a1, Val.mono hB kA _ _ a2⟩
end
def SFP (p : Nat) (rk : Rk) (sh : Sh) (F : List D → DH → Res D) (G : List T → Option T) : Prop := ∀ A xs ts h S t d, (∀ m, h.length ≤ m → A m) → (∀ m ∈ S, ¬ A m) → (∀ m ∈ S, m < h.length) → ts[p]? = some t → xs[p]? = some d → Od A h sh t d S → S.Nodup → Vals A h (ts.set p .non) (xs.set p .non) → ∀ v, G ts = some v →
  ∃ r u, v = .tup [r, u] ∧ SatE (F xs h) fun d' h' => h.length ≤ h'.length ∧ (∀ (m : Nat) o, m ∉ S → h[m]? = some o → h'[m]? = some o) ∧ ∃ S', Od (fun m => (A m ∨ m ∈ S) ∧ m ∉ S') h' sh u d S' ∧ S'.Nodup ∧ (∀ m ∈ S', m ∈ S ∨ h.length ≤ m) ∧
    match rk with | .par _ => d' = d | .sh s => RetV s (fun m => (A m ∨ m ∈ S) ∧ m ∉ S') h.length h' r d' | .any => True
def funP (fl : Bool) (p ar n : Nat) (f : FS) (ts : List T) : Option T := if ts.length = ar then (f (ts.map some ++ List.replicate (n - ts.length) none)).bind fun o => match o with
  | .rt r e => (e.getD p none).map fun u => .tup [r, u]
  | .nx e => if fl then none else (e.getD p none).map fun u => .tup [.non, u]
  | _ => none else none
theorem start_get {xs : List T} {n i : Nat} {t : T} (e : xs[i]? = some t) : (xs.map some ++ List.replicate (n - xs.length) none).getD i none = some t := by
  have l := (List.getElem?_eq_some_iff.mp e).1
  rw [List.getD_eq_getElem?_getD, List.getElem?_append_left (by simpa using l), List.getElem?_map, e]; rfl
theorem start_getD {xs : List D} {n i : Nat} {t : D} (e : xs[i]? = some t) : (xs.map some ++ List.replicate (n - xs.length) none).getD i none = some t := by
  have l := (List.getElem?_eq_some_iff.mp e).1
  rw [List.getD_eq_getElem?_getD, List.getElem?_append_left (by simpa using l), List.getElem?_map, e]; rfl
section
variable {rk : Rk} {sh : Sh} {wr w wn wl : Ws} {b : SM} {sb : FS} {p : Nat}
theorem sfp_def {fl : Bool} {ar n : Nat} (hb : SS rk [(p, sh)] [(p, sh)] b sb wn wl) (hn : fl = true ∨ ((p, sh) ∈ wn ∧ (rk = .any ∨ rk = .sh .s))) (hk : ∀ p', rk = .par p' → p' = p := by intro p' h; first | (cases h; done) | (cases h; rfl)) : SFP p rk sh (runF ar n b) (funP fl p ar n sb) := fun A xs ts h S t d big nA lS ht hd od nd vs v q => by
  unfold funP at q
  by_cases c : ts.length = ar
  · rw [if_pos c] at q
    obtain ⟨o, q1, q⟩ := bind_some q
    have hxl : xs.length = ts.length := by
      have := vs.length
      rwa [List.length_set, List.length_set] at this
    have rel : Rel (fun m => A m ∨ m ∈ S) (fun m => h.length ≤ m ∨ m ∈ S) [(p, sh)] (fun _ => S) (xs.map some ++ List.replicate (n - xs.length) none) h (ts.map some ++ List.replicate (n - ts.length) none) := by
      have hA : ∀ m, A m → Al (fun m => A m ∨ m ∈ S) [(p, sh)] (fun _ => S) m := fun m a => ⟨.inl a, fun _ _ z => nA m z a⟩
      refine ⟨fun m l => .inl (big m l), fun m l => .inl l, fun q hq => ?_, fun q hq q' hq' ne => ?_, fun q hq q' hq' _ => ?_, fun i u hi he => ?_, by simp [hxl]⟩
      · obtain rfl : q = (p, sh) := List.mem_singleton.mp hq
        exact ⟨nd, fun m hm => ⟨.inr hm, .inr hm⟩, t, d, start_get ht, start_getD hd, Od.mono (fun m a _ => hA m a) (KeepIn.refl _ _) _ _ _ _ (KeepS.refl _ _) od⟩
      · rw [List.mem_singleton.mp hq, List.mem_singleton.mp hq'] at ne; exact absurd rfl ne
      · rw [List.mem_singleton.mp hq, List.mem_singleton.mp hq']
      · have np : p ≠ i := hi (p, sh) List.mem_cons_self
        have l : i < ts.length := by
          apply Classical.byContradiction
          intro l
          rw [List.getD_eq_getElem?_getD, List.getElem?_append_right (by simpa using Nat.le_of_not_lt l)] at he
          cases z : (List.replicate (n - ts.length) (none : Option T))[i - (ts.map some).length]? with
          | none => rw [z] at he; cases he
          | some y =>
            rw [z] at he
            have := List.mem_of_getElem? z
            rw [List.mem_replicate] at this
            rw [this.2] at he
            cases he
        have e1 : ts[i]? = some u := by
          rw [start_get (List.getElem?_eq_getElem l)] at he
          rw [List.getElem?_eq_getElem l]; exact he
        obtain ⟨d', d1, d2⟩ := vs.get (i := i) (t := u) (by rw [List.getElem?_set_ne np]; exact e1)
        rw [List.getElem?_set_ne np] at d1
        exact ⟨d', start_getD d1, Val.mono (fun m a _ => hA m a) (KeepIn.refl _ _) _ _ d2⟩
    have P := hb _ _ _ _ h h _ rel (fun m o _ z => z) (Nat.le_refl _) (fun q hq hh => absurd rfl (hh q hq)) o q1
    have fin : ∀ {own' : Ow} {ds' : DSt} {h' : DH} {e' : FSt} {u : T}, Stp (fun m => A m ∨ m ∈ S) (fun m => h.length ≤ m ∨ m ∈ S) h [(p, sh)] [(p, sh)] (fun _ => S) (xs.map some ++ List.replicate (n - xs.length) none) h [(p, sh)] own' ds' h' e' → e'.getD p none = some u →
        ds'.getD p none = some d ∧ h.length ≤ h'.length ∧ (∀ (m : Nat) o, m ∉ S → h[m]? = some o → h'[m]? = some o) ∧ Od (fun m => (A m ∨ m ∈ S) ∧ m ∉ own' p) h' sh u d (own' p) ∧ (own' p).Nodup ∧ (∀ m ∈ own' p, m ∈ S ∨ h.length ≤ m) := by
      intro own' ds' h' e' u s eu
      obtain ⟨b1, b2, t', d', b3, b4, b5⟩ := s.rel.ow (p, sh) List.mem_cons_self
      rw [eu] at b3; cases b3
      have fx : ds'.getD p none = some d := by rw [s.fix (p, sh) List.mem_cons_self]; exact start_getD hd
      have fx' : ds'.getD (p, sh).1 none = some d := fx
      rw [fx'] at b4; cases b4
      refine ⟨fx, s.le, fun m o hm z => s.k0 m o (fun y => ?_) z, Od.mono (fun m a _ => ⟨a.1, a.2 _ List.mem_cons_self⟩) (KeepIn.refl _ _) _ _ _ _ (KeepS.refl _ _) b5, b1, fun m hm => ((b2 m hm).1).symm⟩
      rcases y with y | y
      · have := lt_of_get z; omega
      · exact hm y
    unfold runF runB
    rw [if_pos (by rw [hxl]; exact c)]
    cases o with
    | nx e' =>
      cases fl with
      | true => cases q
      | false =>
        have q : (e'.getD p none).map (fun u => T.tup [.non, u]) = some v := q
        obtain ⟨u, eu, rfl⟩ := map_some q
        obtain ⟨hm, hr⟩ := hn.resolve_left (by decide)
        obtain ⟨ds', h', own', e1, s⟩ := P
        rw [e1]
        have s' := s.weak (wn' := [(p, sh)]) (fun q hq => by rw [List.mem_singleton.mp hq]; exact hm)
        obtain ⟨f0, f1, f2, f3, f4, f5⟩ := fin s' eu
        refine ⟨.non, u, rfl, f1, f2, own' p, f3, f4, f5, ?_⟩
        rcases hr with rfl | rfl
        · trivial
        · exact ret_s.mpr (val_non.mpr rfl)
    | rt r e' =>
      have q : (e'.getD p none).map (fun u => T.tup [r, u]) = some v := q
      obtain ⟨u, eu, rfl⟩ := map_some q
      obtain ⟨d', ds', h', own', e1, s, v1⟩ := P
      rw [e1]
      obtain ⟨f0, f1, f2, f3, f4, f5⟩ := fin s eu
      refine ⟨r, u, rfl, f1, f2, own' p, f3, f4, f5, ?_⟩
      cases rk with
      | par p' =>
        have e2 := hk p' rfl
        subst e2
        have v1 : ds'.getD p' none = some d' := v1
        rw [f0] at v1
        cases v1
        rfl
      | any => trivial
      | sh s0 => exact RetV.sub v1 fun m a _ => ⟨a.1, a.2 _ List.mem_cons_self⟩
    | _ => cases q
  · rw [if_neg c] at q; cases q
end
section
variable {rk rs : Rk} {sh : Sh} {wr w wn wl : Ws} {A X : Nat → Prop} {h0 h h1 h' : DH} {own : Ow} {ds : DSt} {e : FSt} {i j p : Nat}
variable {m ma : EM} {f fa : FE} {mr : AM} {fr : FA} {F : List D → DH → Res D} {G : List T → Option T}
/-- arguments, slot i at place p -/
def SAh (w : Ws) (i p : Nat) (m : AM) (f : FA) : Prop := ∀ A X own ds h e, Rel A X w own ds h e → ∀ d0, ds.getD i none = some d0 → ∀ ts, f e = some ts → SatE (m ds h) fun xs h' => Keep h h' ∧ xs[p]? = some d0 ∧ p < ts.length ∧ Vals (Al A w own) h' (ts.set p .non) (xs.set p .non)
theorem sah_here (hr : SA w mr fr) : SAh w i 0 (aCons (mVar i) mr) (fCons (fC .non) fr) := fun A X own ds h e r d0 hd ts q => by
  obtain ⟨x, q1, q⟩ := bind_some q
  obtain ⟨us, q2, q⟩ := bind_some q
  cases q
  cases q1
  unfold aCons mVar
  rw [hd]
  show SatE ((mr ds h).bind fun xs h1 => .ok (d0 :: xs) h1) _
  rw [satE_bind]
  exact (hr A X own ds h e r us q2).imp fun xs h1 ⟨k1, v1⟩ => ⟨k1, rfl, Nat.succ_pos _, Vals.cons (val_non.mpr rfl) v1⟩
theorem sah_there (ha : SE w ma fa) (hr : SAh w i p mr fr) : SAh w i (p + 1) (aCons ma mr) (fCons fa fr) := fun A X own ds h e r d0 hd ts q => by
  obtain ⟨x, q1, q⟩ := bind_some q
  obtain ⟨us, q2, q⟩ := bind_some q
  cases q
  unfold aCons
  rw [satE_bind]
  refine (ha A X own ds h e r x q1).imp fun d h1 ⟨k1, v1⟩ => ?_
  rw [satE_bind]
  exact (hr A X own ds h1 e (r.keep k1) d0 hd us q2).imp fun xs h2 ⟨k2, a1, a2, v2⟩ => ⟨k1.trans k2, a1, Nat.succ_lt_succ a2, Vals.cons (v1.keep k2) v2⟩
def fCallP (G : List T → Option T) (i p : Nat) (fa : FA) : FS := fun e => (fa e).bind fun ts => (e.getD i none).bind fun t => (G (ts.set p t)).bind fun v => match v with | .tup [_, u] => some (.nx (e.set i (some u))) | _ => none
theorem callP_core (hF : SFP p rk sh F G) (hi : (i, sh) ∈ w) (ha : SAh w i p mr fr) (r : Rel A X w own ds h e) (k0 : KeepX X h0 h) (hl : h0.length ≤ h.length) (nw : Nw wr w own h0.length) {ts : List T} {t v : T} (q1 : fr e = some ts) (q2 : e.getD i none = some t) (q3 : G (ts.set p t) = some v) :
    ∃ r0 u d' h' S' d, v = .tup [r0, u] ∧ mCB F mr ds h = .ok d' h' ∧ ds.getD i none = some d ∧ (match rk with | .par _ => d' = d | _ => True) ∧ Stp A X h0 wr w own ds h w (fun k => if k = i then S' else own k) ds h' (e.set i (some u)) := by
  obtain ⟨nd, a1, t0, d, a2, a3, a4⟩ := r.ow _ hi
  rw [q2] at a2; cases a2
  obtain ⟨xs, h1, e1, k1, x1, pl, vs⟩ := (ha A X own ds h e r d a3 ts q1).eq
  have r1 := r.keep k1
  obtain ⟨_, _, t1, d1, b2, b3, b4⟩ := r1.ow _ hi
  have q2' : e.getD (i, sh).1 none = some t := q2
  rw [q2'] at b2; cases b2
  rw [a3] at b3; cases b3
  obtain ⟨r0, u, rfl, s⟩ := hF (Al A w own) xs (ts.set p t) h1 (own i) t d r1.bigAl (fun m hm z => z.2 _ hi hm) (fun m hm => Od.lt _ _ _ _ b4 m hm) (by rw [List.getElem?_set_self pl]) x1 b4 nd (by rw [List.set_set]; exact vs) v q3
  obtain ⟨d', h2, e2, l2, k2, S', o, nd', hS, rr⟩ := s.eq
  have kA : KeepIn (Al A w own) h1 h2 := fun m o am q => k2 m o (fun z => am.2 _ hi z) q
  have rel := r1.storeG (t' := u) (S' := S') hi a3 kA (fun q hq ne m hm o z => k2 m o (fun y => r.dj q hq _ hi ne m hm y) z) l2 nd' hS o
  refine ⟨r0, u, d', h2, S', d, rfl, ?_, a3, ?_, ⟨rel, fun m o nX z => k2 m o (fun y => nX (a1 m y).1) (k1 m o (k0 m o nX z)), fun m o am q => kA m o am (k1 m o q), fun q hq m hm => ?_, Nat.le_trans k1.len l2, fun q hq hh m hm => ?_, fun _ _ => rfl⟩⟩
  · unfold mCB; rw [e1]; exact e2
  · cases rk with
    | par p' => exact rr
    | _ => trivial
  · replace hm : m ∈ (if q.1 = i then S' else own q.1) := hm
    by_cases c : q.1 = i
    · rw [if_pos c] at hm
      rcases hS m hm with z | z
      · exact .inr ⟨_, hi, z⟩
      · exact .inl (Nat.le_trans k1.len z)
    · rw [if_neg c] at hm; exact .inr ⟨q, hq, hm⟩
  · replace hm : m ∈ (if q.1 = i then S' else own q.1) := hm
    by_cases c : q.1 = i
    · rw [if_pos c] at hm
      rcases hS m hm with z | z
      · exact nw _ hi (fun q' hq' z' => hh q' hq' (z'.trans c.symm)) m z
      · exact Nat.le_trans hl (Nat.le_trans k1.len z)
    · rw [if_neg c] at hm; exact nw q hq hh m hm
/-- f(.., x, ..) for what it does to x -/
theorem ss_callP (hF : SFP p rk sh F G) (hi : (i, sh) ∈ w) (ha : SAh w i p mr fr) : SS rs wr w (sDrop (mCB F mr)) (fCallP G i p fr) w wl := fun A X own ds h0 h e r k l n o q => by
  obtain ⟨ts, q1, q⟩ := bind_some q
  obtain ⟨t, q2, q⟩ := bind_some q
  obtain ⟨v, q3, q⟩ := bind_some q
  obtain ⟨r0, u, d', h', S', d, rfl, e1, _, _, s⟩ := callP_core hF hi ha r k l n q1 q2 q3
  cases q
  exact ⟨ds, h', _, by unfold sDrop; rw [e1]; rfl, s⟩
def fMvP (G : List T → Option T) (i p : Nat) (fa : FA) (j : Nat) : FS := fun e => (fa e).bind fun ts => (e.getD i none).bind fun t => (G (ts.set p t)).bind fun v => match v with | .tup [_, u] => (if j < e.length then some (.nx ((e.set i none).set j (some u))) else none) | _ => none
def fCBP (G : List T → Option T) (fa : FA) : FE := fun e => (fa e).bind fun ts => (G ts).bind fun v => match v with | .tup [_, u] => some u | _ => none
end
section
variable {e : FSt} {N C B : FSt → Prop} {R PT : T → Prop} {PL : List T → Prop}
def asP (v : T) (P : T → Prop) : Prop := match v with | .tup [_, u] => P u | _ => False
theorem asP_mk {r u : T} {P : T → Prop} : asP (.tup [r, u]) P ↔ P u := Iff.rfl
theorem s_callP {G : List T → Option T} {i p : Nat} {a : FA} : Sk (fCallP G i p a e) N C B R ↔ Ok (a e) fun ts => Ok (e.getD i none) fun t => Ok (G (ts.set p t)) fun v => asP v fun u => N (e.set i (some u)) := by
  unfold fCallP
  rw [sk_bind]
  refine iff_of_eq (congrArg _ (funext fun ts => ?_))
  refine propext ?_
  rw [sk_bind]
  refine iff_of_eq (congrArg _ (funext fun t => ?_))
  refine propext ?_
  rw [sk_bind]
  refine iff_of_eq (congrArg _ (funext fun v => ?_))
  unfold asP
  split <;> rfl
theorem s_mvP {G : List T → Option T} {i p j : Nat} {a : FA} : Sk (fMvP G i p a j e) N C B R ↔ Ok (a e) fun ts => Ok (e.getD i none) fun t => Ok (G (ts.set p t)) fun v => asP v fun u => j < e.length ∧ N ((e.set i none).set j (some u)) := by
  unfold fMvP
  rw [sk_bind]
  refine iff_of_eq (congrArg _ (funext fun ts => ?_))
  refine propext ?_
  rw [sk_bind]
  refine iff_of_eq (congrArg _ (funext fun t => ?_))
  refine propext ?_
  rw [sk_bind]
  refine iff_of_eq (congrArg _ (funext fun v => ?_))
  unfold asP
  split
  · refine propext ?_
    by_cases c : j < e.length
    · simp only [if_pos c, c, true_and]; exact Iff.rfl
    · simp only [if_neg c, c, false_and]; exact Iff.rfl
  · rfl
theorem k_cbP {G : List T → Option T} {a : FA} : Ok (fCBP G a e) PT ↔ Ok (a e) fun ts => Ok (G ts) fun v => asP v PT := by
  unfold fCBP
  rw [ok_bind]
  refine iff_of_eq (congrArg _ (funext fun ts => ?_))
  refine propext ?_
  rw [ok_bind]
  refine iff_of_eq (congrArg _ (funext fun v => ?_))
  unfold asP
  split <;> rfl
/-- a def that changes a parameter: what its value is behind a return stands in the slots -/
def SkP (o : Option FR) (N : FSt → Prop) (R : T → FSt → Prop) : Prop := match o with | some (.nx e) => N e | some (.rt t e) => R t e | _ => False
theorem k_funP {fl : Bool} {p ar n : Nat} {f : FS} {xs : List T} (hl : xs.length = ar) (s : SkP (f (xs.map some ++ List.replicate (n - xs.length) none)) (fun e => fl = false ∧ Ok (e.getD p none) fun u => PT (.tup [.non, u])) (fun r e => Ok (e.getD p none) fun u => PT (.tup [r, u]))) : Ok (funP fl p ar n f xs) PT := by
  unfold funP
  rw [if_pos hl, ok_bind]
  cases q : f (xs.map some ++ List.replicate (n - xs.length) none) with
  | none => rw [q] at s; exact s.elim
  | some o =>
    rw [q] at s
    cases o with
    | nx e' =>
      obtain ⟨rfl, s⟩ := s
      exact ok_map.mpr s
    | rt t e' => exact ok_map.mpr s
    | _ => exact s.elim
/-- a last statement that returns -/
theorem sp_seq {a b : FS} {N : FSt → Prop} {R : T → FSt → Prop} (Mid : FSt → Prop) (s : Sk (a e) Mid (fun _ => False) (fun _ => False) (fun _ => False)) (k : ∀ e', Mid e' → SkP (b e') N R) : SkP (fSeqS a b e) N R := by
  unfold fSeqS
  cases q : a e with
  | none => rw [q] at s; exact s.elim
  | some o =>
    rw [q] at s
    cases o with
    | nx e' => exact k e' s
    | _ => exact s.elim
theorem sp_ret {a : FE} {N : FSt → Prop} {R : T → FSt → Prop} : SkP (fRet a e) N R ↔ Ok (a e) fun t => R t e := by
  unfold fRet; cases a e <;> exact Iff.rfl
theorem sp_of {a : FS} {N : FSt → Prop} {R : T → FSt → Prop} (s : Sk (a e) N (fun _ => False) (fun _ => False) (fun _ => False)) : SkP (a e) N R := by
  cases q : a e with
  | none => rw [q] at s; exact s.elim
  | some o =>
    rw [q] at s
    cases o with
    | nx e' => exact s
    | _ => exact s.elim
theorem k_lcP {fi : FI} {g : PTg} {ft : FT} {fe : FE} {vs : List Nat} : Ok (fLcP fi g ft fe vs e) PT ↔ Ok (fi e) fun ts => ts.length ≤ 16777216 ∧ Ok (lcTP g ft fe (wipeT e vs) ts) fun us => PT (.lst us) := by
  unfold fLcP; simp only [ok_bind, ok_ite, ok_map]
theorem k_en {a : FE} : Ok (fEn a e) PL ↔ Ok (a e) fun t => Ok (lstO t) fun ts => PL (enT 0 ts) := by unfold fEn; simp only [ok_bind, ok_map]
theorem k_rv {a : FE} : Ok (fRv a e) PL ↔ Ok (a e) fun t => Ok (lstO t) fun ts => PL ts.reverse := by unfold fRv; simp only [ok_bind, ok_map]
theorem k_zp {a b : FE} : Ok (fZp a b e) PL ↔ Ok (a e) fun t => Ok (b e) fun u => Ok (lstO t) fun xs => Ok (lstO u) fun ys => PL (zpT xs ys) := by unfold fZp; simp only [ok_bind, ok_map]
theorem lstO_l {xs : List T} : lstO (.lst xs) = some xs := rfl
theorem lstO_f {xs : List T} : lstO (.fro xs) = some xs := rfl
theorem bOpT_bb {g : Bool → Bool → Bool} {p q : Bool} : bOpT g (.bl p) (.bl q) = some (.bl (g p q)) := rfl
def asO (c : Nat) (t : T) (P : List (Str × T) → Prop) : Prop := match t with | .obj c' fs => c' = c ∧ P fs | _ => False
theorem asO_obj {c c' : Nat} {fs : List (Str × T)} {P : List (Str × T) → Prop} : asO c (.obj c' fs) P ↔ c' = c ∧ P fs := Iff.rfl
theorem k_fld {c : Nat} {z : Str} {a : FE} : Ok (fFldC c z a e) PT ↔ Ok (a e) fun t => asO c t fun fs => Ok (fs.lookup z) PT := by
  unfold fFldC
  rw [ok_bind]
  refine iff_of_eq (congrArg _ (funext fun t => ?_))
  unfold asO
  cases t with
  | obj c' fs =>
    refine propext ?_
    by_cases c1 : c' = c
    · simp only [c1, if_true, true_and]
    · simp only [c1, if_false, false_and]; exact Iff.rfl
  | _ => rfl
end
end Fu
namespace Fu
open PySem L2 Mi
theorem eqFT_ss {a b : Str} : eqFT (.str a) (.str b) = decide (a = b) := by
  unfold eqFT
  apply Bool.eq_iff_iff.mpr
  rw [beq_iff_eq, decide_eq_true_iff]
/-- a text in a list of texts -/
theorem mem_strs {neg : Bool} {w : Str} {zs : List Str} : memDT neg (.str w) (.lst (zs.map T.str)) = some (.bl (if neg then !decide (w ∈ zs) else decide (w ∈ zs))) := by
  have ha : (zs.map T.str).all flatT = true := by
    rw [List.all_eq_true]; intro x hx; obtain ⟨z, _, rfl⟩ := List.mem_map.mp hx; rfl
  have hb : ((zs.map T.str).any fun z => eqFT z (.str w)) = decide (w ∈ zs) := by
    rw [List.any_map]
    apply Bool.eq_iff_iff.mpr
    rw [List.any_eq_true, decide_eq_true_iff]
    constructor
    · rintro ⟨z, m, e⟩
      have : decide (z = w) = true := by rw [← eqFT_ss]; exact e
      rw [← of_decide_eq_true this]; exact m
    · intro m; exact ⟨w, m, by show eqFT (.str w) (.str w) = true; rw [eqFT_ss]; simp⟩
  unfold memDT flatInT
  simp only [itemsT, ha, flatT, Bool.and_self, if_true, hb]
end Fu
namespace Fu
open PySem L2 Mi
theorem vals_ints {A : Nat → Prop} {h : DH} : ∀ ns : List Int, Vals A h (ns.map T.int) (ns.map D.int)
  | [] => by simp only [List.map_nil, Vals]
  | n :: ns => Vals.cons (val_int.mpr rfl) (vals_ints ns)
end Fu
namespace Fu
open PySem L2 Mi
def keyT : T → Option Key
  | .int i => some (.inl i)
  | .str s => some (.inr s)
  | _ => none
theorem key_bv {A : Nat → Prop} {h : DH} {u : T} {y : D} {k : Key} (r : BV A h u y) (e : keyT u = some k) : keyD y = some k := by
  cases u with
  | int i => rw [bv_int r]; exact e
  | str s => rw [bv_str r]; exact e
  | _ => cases e
theorem key_val {A : Nat → Prop} {h : DH} {u : T} {y : D} {k : Key} (r : Val A h u y) (e : keyT u = some k) : keyD y = some k := key_bv r.bv e
theorem look_vals {A : Nat → Prop} {h : DH} {k : Key} : ∀ {ks : List (Key × T)} {ws : List (Key × D)}, ValsK A h ks ws → match lookK ks k with | some v => ∃ d, lookK ws k = some d ∧ Val A h v d | none => lookK ws k = none
  | [], ws, r => by simp only [ValsK] at r; subst r; rfl
  | p :: ks, ws, r => by
    simp only [ValsK] at r
    obtain ⟨d, ds, rfl, r1, r2⟩ := r
    have ih := look_vals (k := k) r2
    by_cases c : p.1 = k
    · have e1 : lookK (p :: ks) k = some p.2 := by unfold lookK; rw [List.find?_cons_of_pos (by exact decide_eq_true c)]; rfl
      have e2 : lookK ((p.1, d) :: ds) k = some d := by unfold lookK; rw [List.find?_cons_of_pos (by exact decide_eq_true c)]; rfl
      rw [e1]; exact ⟨d, e2, r1⟩
    · have e1 : lookK (p :: ks) k = lookK ks k := by unfold lookK; rw [List.find?_cons_of_neg (by simpa using c)]
      have e2 : lookK ((p.1, d) :: ds) k = lookK ds k := by unfold lookK; rw [List.find?_cons_of_neg (by simpa using c)]
      rw [e1, e2]; exact ih
def dgetD (x y : D) (h : DH) : Res D := match getD' x y h with | some (some d) => .ok d h | _ => .no
def dinD (neg : Bool) (y x : D) (h : DH) : Res D := match getD' x y h with | some o => .ok (.bl (if neg then !o.isSome else o.isSome)) h | none => .no
theorem mDGet_op {a b : EM} : mDGet a b = mOp dgetD a b := rfl
theorem mDIn_op {neg : Bool} {a b : EM} : mDIn neg b a = mOp (dinD neg) b a := rfl
def dgetT (t u : T) : Option T := match t with
  | .dic ks => (keyT u).bind fun k => lookK ks k
  | _ => none
def dinT (neg : Bool) (u t : T) : Option T := match t with
  | .dic ks => (keyT u).map fun k => .bl (if neg then !(lookK ks k).isSome else (lookK ks k).isSome)
  | _ => none
theorem o_dget : SOp dgetD dgetT := fun A h x y t u v big r1 r2 e => by
  cases t with
  | dic ks =>
    obtain ⟨n, ws, rfl, q, vk⟩ := r1
    obtain ⟨k, q1, q2⟩ := bind_some e
    have lk := look_vals (k := k) vk
    rw [q2] at lk
    obtain ⟨d, e1, e2⟩ := lk
    unfold dgetD getD'
    simp only [q, key_bv r2 q1, Option.map_some, e1]
    exact ⟨Keep.refl _, e2⟩
  | _ => cases e
theorem o_din {neg : Bool} : SOp (dinD neg) (dinT neg) := fun A h y x u t v big r2 r1 e => by
  cases t with
  | dic ks =>
    obtain ⟨n, ws, rfl, q, vk⟩ := r1
    obtain ⟨k, q1, rfl⟩ := map_some e
    have lk := look_vals (k := k) vk
    unfold dinD getD'
    simp only [q, key_bv r2 q1, Option.map_some]
    cases q2 : lookK ks k with
    | some w => rw [q2] at lk; obtain ⟨d, e1, e2⟩ := lk; simp only [e1, Option.isSome_some]; exact ⟨Keep.refl _, val_bl.mpr rfl⟩
    | none => rw [q2] at lk; have lk : lookK ws k = none := lk; simp only [lk, Option.isSome_none]; exact ⟨Keep.refl _, val_bl.mpr rfl⟩
  | _ => cases e
theorem se_dget {w : Ws} {ma mb : EM} {fa fb : FE} (ha : SB w ma fa) (hb : SB w mb fb) : SE w (mDGet ma mb) (fOp dgetT fa fb) := by rw [mDGet_op]; exact se_op o_dget ha hb
theorem se_din {w : Ws} {neg : Bool} {ma mb : EM} {fa fb : FE} (ha : SB w ma fa) (hb : SB w mb fb) : SE w (mDIn neg mb ma) (fOp (dinT neg) fb fa) := by rw [mDIn_op]; exact se_op o_din hb ha
/-- a new dict -/
def fDNew : FE := fun _ => some (.dic [])
theorem sx_dnew {w : Ws} : SX w (.d .s) mDNew fDNew := fun A X own ds h e r t q => by
  cases q
  refine ⟨Keep.app _ _, [h.length], ?_, by simp, fun x hx => by rw [List.mem_singleton.mp hx]; exact Nat.le_refl _⟩
  simp only [Od]
  exact ⟨[], h.length, [], [], rfl, rfl, rfl, get_last _ _, rfl, rfl, rfl⟩
theorem any_vals {A : Nat → Prop} {h : DH} {k : Key} : ∀ {ks : List (Key × T)} {ws : List (Key × D)}, ValsK A h ks ws → (ws.any fun kv => decide (kv.1 = k)) = ks.any fun kv => decide (kv.1 = k)
  | [], ws, r => by simp only [ValsK] at r; subst r; rfl
  | p :: ks, ws, r => by
    simp only [ValsK] at r
    obtain ⟨d, ds, rfl, r1, r2⟩ := r
    rw [List.any_cons, List.any_cons, any_vals r2]
theorem repl_vals {A : Nat → Prop} {h : DH} {k : Key} {u : T} {d0 : D} (r0 : Val A h u d0) : ∀ {ks : List (Key × T)} {ws : List (Key × D)}, ValsK A h ks ws → ValsK A h (ks.map fun kv => if kv.1 = k then (kv.1, u) else kv) (ws.map fun kv => if kv.1 = k then (kv.1, d0) else kv)
  | [], ws, r => by simp only [ValsK] at r; subst r; simp only [List.map_nil, ValsK]
  | p :: ks, ws, r => by
    simp only [ValsK] at r
    obtain ⟨d, ds, rfl, r1, r2⟩ := r
    simp only [List.map_cons, ValsK]
    by_cases c : p.1 = k
    · rw [if_pos c, if_pos c]; exact ⟨d0, _, rfl, r0, repl_vals r0 r2⟩
    · rw [if_neg c, if_neg c]; exact ⟨d, _, rfl, r1, repl_vals r0 r2⟩
theorem app_vals {A : Nat → Prop} {h : DH} {us : List (Key × T)} {vs : List (Key × D)} (s : ValsK A h us vs) : ∀ {ks : List (Key × T)} {ws : List (Key × D)}, ValsK A h ks ws → ValsK A h (ks ++ us) (ws ++ vs)
  | [], ws, r => by simp only [ValsK] at r; subst r; exact s
  | p :: ks, ws, r => by
    simp only [ValsK] at r
    obtain ⟨d, ds, rfl, r1, r2⟩ := r
    simp only [List.cons_append, ValsK]
    exact ⟨d, _, rfl, r1, app_vals s r2⟩
theorem set_vals {A : Nat → Prop} {h : DH} {k : Key} {u : T} {d0 : D} (r0 : Val A h u d0) {ks : List (Key × T)} {ws : List (Key × D)} (r : ValsK A h ks ws) : ValsK A h (setK ks k u) (setK ws k d0) := by
  unfold setK
  rw [any_vals r]
  by_cases c : (ks.any fun kv => decide (kv.1 = k)) = true
  · rw [if_pos c, if_pos c]; exact repl_vals r0 r
  · rw [if_neg c, if_neg c]; exact app_vals (by simp only [ValsK]; exact ⟨d0, [], rfl, r0, rfl⟩) r
theorem valsK_len {A : Nat → Prop} {h : DH} : ∀ {ks : List (Key × T)} {ws : List (Key × D)}, ValsK A h ks ws → ws.length = ks.length
  | [], ws, r => by simp only [ValsK] at r; subst r; rfl
  | p :: ks, ws, r => by
    simp only [ValsK] at r
    obtain ⟨d, ds, rfl, r1, r2⟩ := r
    rw [List.length_cons, List.length_cons, valsK_len r2]
theorem valsK_to2 {A : Nat → Prop} {h : DH} : ∀ {ks : List (Key × T)} {ws : List (Key × D)}, ValsK A h ks ws → ks.map (·.1) = ws.map (·.1) ∧ Vals A h (ks.map (·.2)) (ws.map (·.2))
  | [], ws, r => by simp only [ValsK] at r; subst r; exact ⟨rfl, by simp only [List.map_nil, Vals]⟩
  | p :: ks, ws, r => by
    simp only [ValsK] at r
    obtain ⟨d, ds, rfl, r1, r2⟩ := r
    obtain ⟨i1, i2⟩ := valsK_to2 r2
    exact ⟨by simp only [List.map_cons, i1], by simp only [List.map_cons, Vals]; exact ⟨d, _, rfl, r1, i2⟩⟩
theorem foc_d {A1 : Nat → Prop} {h : DH} {sh0 : Sh} {d0 d' : D} {S S' R : List Nat} {ks : List (Key × T)} {up : T → T} (f : Foc A1 h sh0 d0 S (.d .s) (.dic ks) d' S' R up) : ∃ n ws, d' = .ref n ∧ S' = [n] ∧ h[n]? = some (.dK ws) ∧ ValsK A1 h ks ws := by
  have od := f.od
  simp only [Od] at od
  obtain ⟨ts0, n, ws, S1, e1, rfl, e2, hn, q2, ol⟩ := od
  cases e1
  obtain ⟨v, rfl⟩ := OdL.to_vals ol
  exact ⟨n, ws, rfl, e2, hn, valsK_of q2 v⟩
def fDPut (i : Nat) (p : FP) (k a : FE) : FS := fun e => (a e).bind fun t => (p e).bind fun q => (k e).bind fun u => match q.1 with
  | .dic ks => (keyT u).bind fun z => if ks.length < 16777216 then some (.nx (e.set i (some (q.2 (.dic (setK ks z t)))))) else none
  | _ => none
section
variable {rs : Rk} {wr w : Ws} {wl : Ws} {i : Nat} {mo mk m : EM} {p : FP} {fk f : FE}
theorem ss_dput (hp : SP w i (.d .s) mo p) (hk : SN w mk fk) (he : SX w .s m f) : SS rs wr w (Mi.sDPut m mo mk) (fDPut i p fk f) w wl := fun A X own ds h0 h e r k l n o q => by
  obtain ⟨u, q2, q⟩ := bind_some q
  obtain ⟨⟨t1, up⟩, q1, q⟩ := bind_some q
  obtain ⟨z, q3, q⟩ := bind_some q
  cases t1 with
  | dic ks =>
    obtain ⟨kk, q4, q⟩ := bind_some q
    obtain ⟨c, rfl⟩ := ite_some q
    obtain ⟨d, h1, e1, k1, Sv, o1, nv, bv⟩ := (he A X own ds h e r u q2).eq
    have lv := Od.lt _ _ _ _ o1
    have r1 := r.avoid Sv bv k1 lv
    obtain ⟨d1, h2, e2, k2, sh0, d0, S', R, hw, hd, f1⟩ := (hp _ X own ds h1 e r1 _ _ q1).eq
    obtain ⟨nn, ws, rfl, rfl, hn, vk⟩ := foc_d f1
    obtain ⟨dz, h3, e3, k3, vz⟩ := (hk _ X own ds h2 e (r1.keep k2) _ q3).eq
    have hn3 := k3 _ _ hn
    have hno : nn ∈ own i := (f1.pm nn).mpr (.inr List.mem_cons_self)
    have hnl := r.ltO hw nn hno
    have fs : Fr nn h3 (h3.set nn (.dK (setK ws kk d))) := (Fr.refl _ h3).set _
    have ne : ∀ m, Al A w own m → m ≠ nn := fun m a z => a.2 _ hw (z ▸ hno)
    have od1 : Sv = [] ∧ Val (fun m => Al A w own m ∧ m ∉ Sv) h1 u d := by simp only [Od] at o1; exact o1
    obtain ⟨rfl, v1⟩ := od1
    have v2 : Val (fun m => Al A w own m ∧ m ∉ ([] : List Nat)) (h3.set nn (.dK (setK ws kk d))) u d := Val.mono (fun _ a _ => a) (fun m o a z => fs m o (ne m a.1) (k3 m o (k2 m o z))) _ _ v1
    have vk2 : ValsK (fun m => Al A w own m ∧ m ∉ ([] : List Nat)) (h3.set nn (.dK (setK ws kk d))) ks ws := ValsK.mono (fun m a _ => ⟨⟨a.1.1, a.2⟩, a.1.2⟩) (fun m o a z => fs m o (ne m ⟨a.1.1, a.2⟩) (k3 m o z)) _ _ vk
    obtain ⟨y1, y2⟩ := valsK_to2 (set_vals (k := kk) v2 vk2)
    have ov : Od (fun m => Al A w own m ∧ m ∉ ([] : List Nat)) (h3.set nn (.dK (setK ws kk d))) (.d .s) (.dic (setK ks kk u)) (.ref nn) (nn :: []) := by
      simp only [Od]
      exact ⟨_, nn, _, _, rfl, rfl, rfl, set_same hn3, y1, OdL.of_vals y2⟩
    obtain ⟨own', s, _⟩ := stored r k l n (k1.trans k2) k3 hw hd f1 (fun m a _ => ⟨⟨a.1.1, a.2⟩, a.1.2⟩) bv (S2 := []) (fun m hm => absurd hm List.not_mem_nil) (fun _ => by simp) ov
    refine ⟨ds, _, own', ?_, s⟩
    unfold Mi.sDPut
    have kz := key_val vz q4
    have lw := valsK_len vk2
    rw [e1]
    simp only [Res.st, e2, e3, putDh, hn3, kz, lw, if_pos c]
  | _ => cases q
end
theorem setK_len {α : Type} {ks : List (Key × α)} {k : Key} {u : α} : (setK ks k u).length ≤ ks.length + 1 := by
  unfold setK
  by_cases c : (ks.any fun kv => decide (kv.1 = k)) = true
  · rw [if_pos c, List.length_map]; omega
  · rw [if_neg c, List.length_append]; exact Nat.le_refl _
def dcTP (g : PTg) (ft : FT) (fk fv : FE) (e : FSt) : List T → List (Key × T) → Option (List (Key × T))
  | [], acc => some acc
  | x :: xs, acc => (ptT g x e).bind fun e1 => (ft e1).bind fun c => if c then (fk e1).bind fun y => (fv e1).bind fun z => (keyT y).bind fun k => dcTP g ft fk fv e xs (setK acc k z) else dcTP g ft fk fv e xs acc
def fDc (fi : FI) (g : PTg) (ft : FT) (fk fv : FE) (vs : List Nat) : FE := fun e => (fi e).bind fun ts => if ts.length ≤ 16777216 then (dcTP g ft fk fv (wipeT e vs) ts []).map .dic else none
def keyV : Key → T
  | .inl i => .int i
  | .inr s => .str s
def dkeysT (ts : List T) : Option T := match ts with
  | [.dic ks] => some (.lst (ks.map fun kv => keyV kv.1))
  | _ => none
theorem keys_vals {A B : Nat → Prop} {h h' : DH} : ∀ {ks : List (Key × T)} {ws : List (Key × D)}, ValsK A h ks ws → Vals B h' (ks.map fun kv => keyV kv.1) (ws.map fun kv => keyO kv.1)
  | [], ws, r => by simp only [ValsK] at r; subst r; simp only [List.map_nil, Vals]
  | p :: ks, ws, r => by
    simp only [ValsK] at r
    obtain ⟨d, ds, rfl, r1, r2⟩ := r
    simp only [List.map_cons, Vals]
    refine ⟨_, _, rfl, ?_, keys_vals r2⟩
    cases p.1 with
    | inl i => exact val_int.mpr rfl
    | inr s => exact val_str.mpr rfl
theorem x_dkeys : SClX dkeysD dkeysT := fun A h xs ts v big r e => by
  unfold dkeysT at e
  split at e
  · rename_i ks
    cases e
    obtain ⟨d, ds, rfl, r1, r2⟩ := r
    have r2 : ds = [] := r2
    subst r2
    obtain ⟨n, ws, rfl, q, vk⟩ := r1
    unfold dkeysD keysD
    simp only [q]
    exact ⟨Keep.app _ _, new_of (keys_vals vk)⟩
  · cases e
def asDc (t : T) (P : List (Key × T) → Prop) : Prop := match t with | .dic ks => P ks | _ => False
theorem asDc_d {ks : List (Key × T)} {P : List (Key × T) → Prop} : asDc (.dic ks) P ↔ P ks := Iff.rfl
theorem s_dput {i : Nat} {p : FP} {k a : FE} {e : FSt} {N C B : FSt → Prop} {R : T → Prop} : Sk (fDPut i p k a e) N C B R ↔ Ok (a e) fun t => Ok (p e) fun q => Ok (k e) fun u => asDc q.1 fun ks => Ok (keyT u) fun z => ks.length < 16777216 ∧ N (e.set i (some (q.2 (.dic (setK ks z t))))) := by
  unfold fDPut; rw [sk_bind]
  cases a e with
  | none => exact Iff.rfl
  | some t =>
    show Sk ((p e).bind _) N C B R ↔ Ok (p e) _
    rw [sk_bind]
    cases p e with
    | none => exact Iff.rfl
    | some q =>
      show Sk ((k e).bind _) N C B R ↔ Ok (k e) _
      rw [sk_bind]
      cases k e with
      | none => exact Iff.rfl
      | some u =>
        obtain ⟨t1, up⟩ := q
        cases t1 with
        | dic ks =>
          show Sk ((keyT u).bind _) N C B R ↔ Ok (keyT u) _
          rw [sk_bind]
          cases keyT u with
          | none => exact Iff.rfl
          | some z =>
            show Sk (if ks.length < 16777216 then _ else none) N C B R ↔ (ks.length < 16777216 ∧ _)
            by_cases c : ks.length < 16777216
            · rw [if_pos c]; exact ⟨fun h => ⟨c, h⟩, fun h => h.2⟩
            · rw [if_neg c]; exact ⟨fun h => h.elim, fun h => absurd h.1 c⟩
        | _ => exact Iff.rfl
theorem k_dc {fi : FI} {g : PTg} {ft : FT} {fk fv : FE} {vs : List Nat} {e : FSt} {PT : T → Prop} : Ok (fDc fi g ft fk fv vs e) PT ↔ Ok (fi e) fun ts => ts.length ≤ 16777216 ∧ Ok (dcTP g ft fk fv (wipeT e vs) ts []) fun ks => PT (.dic ks) := by
  unfold fDc; simp only [ok_bind, ok_ite, ok_map]
theorem dgetT_d {ks : List (Key × T)} {i : Int} : dgetT (.dic ks) (.int i) = lookK ks (.inl i) := rfl
theorem dinT_d {neg : Bool} {ks : List (Key × T)} {i : Int} : dinT neg (.int i) (.dic ks) = some (.bl (if neg then !(lookK ks (.inl i)).isSome else (lookK ks (.inl i)).isSome)) := rfl
theorem dkeysT_d {ks : List (Key × T)} : dkeysT [.dic ks] = some (.lst (ks.map fun kv => keyV kv.1)) := rfl
theorem keyT_i {i : Int} : keyT (.int i) = some (.inl i) := rfl
theorem look_cons {α : Type} {q : Key × α} {l : List (Key × α)} {j : Key} : lookK (q :: l) j = if q.1 = j then some q.2 else lookK l j := by
  unfold lookK
  by_cases c : q.1 = j
  · rw [if_pos c, List.find?_cons_of_pos (by exact decide_eq_true c)]; rfl
  · rw [if_neg c, List.find?_cons_of_neg (by simpa using c)]
theorem look_repl {α : Type} {k j : Key} {u : α} : ∀ l : List (Key × α), lookK (l.map fun kv => if kv.1 = k then (kv.1, u) else kv) j = if k = j then (if (l.any fun kv => decide (kv.1 = k)) = true then some u else none) else lookK l j
  | [] => by by_cases c : k = j <;> simp [c, lookK]
  | q :: l => by
    rw [List.map_cons, look_cons, look_cons, look_repl l, List.any_cons]
    by_cases a : q.1 = k <;> by_cases b : k = j
    · subst b; simp [a]
    · simp [a, b]
    · subst b; simp only [a, if_false, decide_false, Bool.false_or, if_true]
    · simp [a, b]
theorem look_app {α : Type} {k j : Key} {u : α} : ∀ l : List (Key × α), lookK (l ++ [(k, u)]) j = match lookK l j with | some v => some v | none => if k = j then some u else none
  | [] => by rw [List.nil_append, look_cons]; rfl
  | q :: l => by rw [List.cons_append, look_cons, look_cons, look_app l]; by_cases a : q.1 = j <;> simp [a]
theorem look_none {α : Type} {k : Key} {l : List (Key × α)} (h : ¬ (l.any fun kv => decide (kv.1 = k)) = true) : lookK l k = none := by
  unfold lookK
  rw [List.find?_eq_none.mpr fun x hx y => h (List.any_eq_true.mpr ⟨x, hx, y⟩)]
  rfl
theorem look_set {α : Type} {ks : List (Key × α)} {k j : Key} {u : α} : lookK (setK ks k u) j = if k = j then some u else lookK ks j := by
  unfold setK
  by_cases c : (ks.any fun kv => decide (kv.1 = k)) = true
  · rw [if_pos c, look_repl, if_pos c]
  · rw [if_neg c, look_app]
    by_cases b : k = j
    · subst b; rw [look_none c, if_pos rfl]
    · rw [if_neg b, if_neg b]; cases lookK ks j <;> rfl
end Fu
namespace Fu
open PySem L2 Mi
def truT : T → Option Bool
  | .lst ts => some (!ts.isEmpty)
  | .dic ks => some (!ks.isEmpty)
  | .tup ts => some (!ts.isEmpty)
  | .int i => some (i != 0)
  | _ => none
def fTru (a : FE) : FT := fun e => (a e).bind truT
def fExt (i : Nat) (p : FP) (f : FE) : FS := fun e => (p e).bind fun q => (f e).bind fun u => match q.1 with
  | .lst ts => (match u with
    | .lst us => if ts.length + us.length ≤ 16777216 then some (.nx (e.set i (some (q.2 (.lst (ts ++ us)))))) else none
    | _ => none)
  | _ => none
def fDDel (i : Nat) (p : FP) (k : FE) : FS := fun e => (p e).bind fun q => (k e).bind fun u => match q.1 with
  | .dic ks => (keyT u).bind fun z => if (lookK ks z).isSome = true then some (.nx (e.set i (some (q.2 (.dic (delK ks z)))))) else none
  | _ => none
end Fu
namespace Fu
open PySem L2 Mi
section
variable {e : FSt} {N C B : FSt → Prop} {R : T → Prop} {PB : Bool → Prop}
theorem k_tru {a : FE} : Ok (fTru a e) PB ↔ Ok (a e) fun t => Ok (truT t) PB := ok_bind
theorem truT_l {ts : List T} : truT (.lst ts) = some (!ts.isEmpty) := rfl
theorem truT_d {ks : List (Key × T)} : truT (.dic ks) = some (!ks.isEmpty) := rfl
theorem s_ext {i : Nat} {p : FP} {a : FE} : Sk (fExt i p a e) N C B R ↔ Ok (p e) fun q => Ok (a e) fun t => asL q.1 fun xs => asL t fun ys => xs.length + ys.length ≤ 16777216 ∧ N (e.set i (some (q.2 (.lst (xs ++ ys))))) := by
  unfold fExt; rw [sk_bind]
  cases p e with
  | none => exact Iff.rfl
  | some q =>
    show Sk ((a e).bind _) N C B R ↔ Ok (a e) _
    rw [sk_bind]
    cases a e with
    | none => exact Iff.rfl
    | some t =>
      obtain ⟨u, up⟩ := q
      cases u with
      | lst xs =>
        cases t with
        | lst ys =>
          show Sk (if xs.length + ys.length ≤ 16777216 then some (.nx (e.set i (some (up (.lst (xs ++ ys)))))) else none) N C B R ↔ xs.length + ys.length ≤ 16777216 ∧ N (e.set i (some (up (.lst (xs ++ ys)))))
          by_cases c : xs.length + ys.length ≤ 16777216
          · simp only [if_pos c, c, true_and]; exact Iff.rfl
          · simp only [if_neg c, c, false_and]; exact Iff.rfl
        | _ => exact Iff.rfl
      | _ => cases t <;> exact Iff.rfl
theorem s_ddel {i : Nat} {p : FP} {k : FE} : Sk (fDDel i p k e) N C B R ↔ Ok (p e) fun q => Ok (k e) fun u => asDc q.1 fun ks => Ok (keyT u) fun z => (lookK ks z).isSome = true ∧ N (e.set i (some (q.2 (.dic (delK ks z))))) := by
  unfold fDDel; rw [sk_bind]
  cases p e with
  | none => exact Iff.rfl
  | some q =>
    show Sk ((k e).bind _) N C B R ↔ Ok (k e) _
    rw [sk_bind]
    cases k e with
    | none => exact Iff.rfl
    | some u =>
      obtain ⟨t1, up⟩ := q
      cases t1 with
      | dic ks =>
        show Sk ((keyT u).bind _) N C B R ↔ Ok (keyT u) _
        rw [sk_bind]
        cases keyT u with
        | none => exact Iff.rfl
        | some z =>
          show Sk (if (lookK ks z).isSome = true then _ else none) N C B R ↔ ((lookK ks z).isSome = true ∧ _)
          by_cases c : (lookK ks z).isSome = true
          · rw [if_pos c]; exact ⟨fun h => ⟨c, h⟩, fun h => h.2⟩
          · rw [if_neg c]; exact ⟨fun h => h.elim, fun h => absurd h.1 c⟩
      | _ => exact Iff.rfl
end
end Fu
namespace Fu
open PySem L2 Mi
/-- a call whose arguments are only looked at; it gives a list of flat items -/
def fCBL (g : List T → Option T) (a : FA) : FE := fun e => (a e).bind fun ts => (g ts).bind fun t => match t with | .lst us => (if us.all flatT = true then some t else none) | _ => none
section
variable {e : FSt} {N C B : FSt → Prop} {R : T → Prop} {PT : T → Prop} {w : Ws} {mr : AM} {fr : FA}
theorem k_cbL {g : List T → Option T} {a : FA} : Ok (fCBL g a e) PT ↔ Ok (a e) fun ts => Ok (g ts) fun t => asL t fun us => us.all flatT = true ∧ PT (.lst us) := by
  unfold fCBL
  rw [ok_bind]
  cases a e with
  | none => exact Iff.rfl
  | some ts =>
    show Ok ((g ts).bind _) PT ↔ Ok (g ts) _
    rw [ok_bind]
    cases g ts with
    | none => exact Iff.rfl
    | some t =>
      cases t with
      | lst us =>
        show Ok (if us.all flatT = true then some (T.lst us) else none) PT ↔ (us.all flatT = true ∧ PT (.lst us))
        by_cases c : us.all flatT = true
        · rw [if_pos c]; exact ⟨fun h => ⟨c, h⟩, fun h => h.2⟩
        · rw [if_neg c]; exact ⟨fun h => h.elim, fun h => absurd h.1 c⟩
      | _ => exact Iff.rfl
end
end Fu
namespace Fu
open PySem L2 Mi
section
variable {A X : Nat → Prop} {w : Ws} {own : Ow} {ds : DSt} {h h' : DH} {e : FSt}
theorem getD_app {α : Type} {l : List (Option α)} {x : Option α} {i : Nat} (n : i < l.length) : (l ++ [x]).getD i none = l.getD i none := by
  rw [List.getD_eq_getElem?_getD, List.getD_eq_getElem?_getD, List.getElem?_append_left n]
theorem getD_end {α : Type} {l : List (Option α)} {x : Option α} : (l ++ [x]).getD l.length none = x := by
  rw [List.getD_eq_getElem?_getD, List.getElem?_append_right (Nat.le_refl _), Nat.sub_self]; rfl
theorem Rel.ext (r : Rel A X w own ds h e) {t : T} {d : D} (v : Val (Al A w own) h t d) : Rel A X w own (ds ++ [some d]) h (e ++ [some t]) := by
  refine ⟨r.big, r.bigX, fun p hp => ?_, r.dj, r.un, fun i u hi he => ?_, by rw [List.length_append, List.length_append, r.len]; rfl⟩
  · obtain ⟨a, b, t0, d0, c1, c2, c3⟩ := r.ow p hp
    exact ⟨a, b, t0, d0, by rw [getD_app (lt_of_getD c1)]; exact c1, by rw [getD_app (lt_of_getD c2)]; exact c2, c3⟩
  · have il := lt_of_getD he
    rw [List.length_append, List.length_singleton] at il
    by_cases c : i < e.length
    · rw [getD_app c] at he
      obtain ⟨d0, c1, c2⟩ := r.sh i u hi he
      exact ⟨d0, by rw [getD_app (lt_of_getD c1)]; exact c1, c2⟩
    · have : i = e.length := by omega
      subst this
      rw [getD_end] at he
      cases he
      exact ⟨d, by rw [← r.len, getD_end], v⟩
theorem getD_take {α : Type} {l : List (Option α)} {i n : Nat} (c : i < n) : (l.take n).getD i none = l.getD i none := by
  rw [List.getD_eq_getElem?_getD, List.getD_eq_getElem?_getD, List.getElem?_take_of_lt c]
theorem Rel.cut {o : Option D} {e2 : FSt} (r : Rel A X w own (ds ++ [o]) h e2) (hw : ∀ p ∈ w, p.1 < ds.length) : Rel A X w own ds h (e2.take ds.length) := by
  refine ⟨r.big, r.bigX, fun p hp => ?_, r.dj, r.un, fun i u hi he => ?_, ?_⟩
  · obtain ⟨a, b, t0, d0, c1, c2, c3⟩ := r.ow p hp
    exact ⟨a, b, t0, d0, by rw [getD_take (hw p hp)]; exact c1, by rw [getD_app (hw p hp)] at c2; exact c2, c3⟩
  · have il := lt_of_getD he
    rw [List.length_take] at il
    rw [getD_take (by omega)] at he
    obtain ⟨d0, c1, c2⟩ := r.sh i u hi he
    exact ⟨d0, by rw [getD_app (by omega)] at c1; exact c1, c2⟩
  · have := r.len
    rw [List.length_append, List.length_singleton] at this
    rw [List.length_take]; omega
end
section
variable {rs rk : Rk} {sh sh' : Sh} {wr w wl : Ws} {i p : Nat} {F : List D → DH → Res D} {G : List T → Option T} {mr : AM} {fr : FA} {A X : Nat → Prop} {own : Ow} {ds : DSt} {h0 h : DH} {e : FSt}
theorem callP_val (hF : SFP p (.sh .s) sh F G) (hi : (i, sh) ∈ w) (ha : SAh w i p mr fr) (r : Rel A X w own ds h e) (k0 : KeepX X h0 h) (hl : h0.length ≤ h.length) (nw : Nw wr w own h0.length) {ts : List T} {t v : T} (q1 : fr e = some ts) (q2 : e.getD i none = some t) (q3 : G (ts.set p t) = some v) :
    ∃ r0 u d' h' S', v = .tup [r0, u] ∧ mCB F mr ds h = .ok d' h' ∧ Val (Al A w (fun k => if k = i then S' else own k)) h' r0 d' ∧ (∀ q ∈ w, q.1 ≠ i → KeepS (own q.1) h h') ∧ Stp A X h0 wr w own ds h w (fun k => if k = i then S' else own k) ds h' (e.set i (some u)) := by
  obtain ⟨nd, a1, t0, d, a2, a3, a4⟩ := r.ow _ hi
  rw [q2] at a2; cases a2
  obtain ⟨xs, h1, e1, k1, x1, pl, vs⟩ := (ha A X own ds h e r d a3 ts q1).eq
  have r1 := r.keep k1
  obtain ⟨_, _, t1, d1, b2, b3, b4⟩ := r1.ow _ hi
  have q2' : e.getD (i, sh).1 none = some t := q2
  rw [q2'] at b2; cases b2
  rw [a3] at b3; cases b3
  obtain ⟨r0, u, rfl, s⟩ := hF (Al A w own) xs (ts.set p t) h1 (own i) t d r1.bigAl (fun m hm z => z.2 _ hi hm) (fun m hm => Od.lt _ _ _ _ b4 m hm) (by rw [List.getElem?_set_self pl]) x1 b4 nd (by rw [List.set_set]; exact vs) v q3
  obtain ⟨d', h2, e2, l2, k2, S', o, nd', hS, rr⟩ := s.eq
  have kA : KeepIn (Al A w own) h1 h2 := fun m o am q => k2 m o (fun z => am.2 _ hi z) q
  have rel := r1.storeG (t' := u) (S' := S') hi a3 kA (fun q hq ne m hm o z => k2 m o (fun y => r.dj q hq _ hi ne m hm y) z) l2 nd' hS o
  have hA : ∀ m, ((Al A w own m ∨ m ∈ own i) ∧ m ∉ S') → Al A w (fun j => if j = i then S' else own j) m := fun m a => ⟨by
    rcases a.1 with z | z
    · exact z.1
    · exact ((r.ow _ hi).2.1 m z).2, fun p hp => by
    show m ∉ (if p.1 = i then S' else own p.1)
    by_cases q : p.1 = i
    · rw [if_pos q]; exact a.2
    · rw [if_neg q]
      rcases a.1 with z | z
      · exact z.2 p hp
      · exact r.dj _ hi p hp (Ne.symm q) m z⟩
  have rr : RetV .s (fun m => (Al A w own m ∨ m ∈ own i) ∧ m ∉ S') h1.length h2 r0 d' := rr
  refine ⟨r0, u, d', h2, S', rfl, ?_, (ret_s.mp rr).sub fun m a _ => hA m a, fun q hq ne m hm o z => k2 m o (fun y => r.dj q hq _ hi ne m hm y) (k1 m o z), ⟨rel, fun m o nX z => k2 m o (fun y => nX (a1 m y).1) (k1 m o (k0 m o nX z)), fun m o am q => kA m o am (k1 m o q), fun q hq m hm => ?_, Nat.le_trans k1.len l2, fun q hq hh m hm => ?_, fun _ _ => rfl⟩⟩
  · unfold mCB; rw [e1]; exact e2
  · replace hm : m ∈ (if q.1 = i then S' else own q.1) := hm
    by_cases c : q.1 = i
    · rw [if_pos c] at hm
      rcases hS m hm with z | z
      · exact .inr ⟨_, hi, z⟩
      · exact .inl (Nat.le_trans k1.len z)
    · rw [if_neg c] at hm; exact .inr ⟨q, hq, hm⟩
  · replace hm : m ∈ (if q.1 = i then S' else own q.1) := hm
    by_cases c : q.1 = i
    · rw [if_pos c] at hm
      rcases hS m hm with z | z
      · exact nw _ hi (fun q' hq' z' => hh q' hq' (z'.trans c.symm)) m z
      · exact Nat.le_trans hl (Nat.le_trans k1.len z)
    · rw [if_neg c] at hm; exact nw q hq hh m hm
theorem var_end {n : Nat} {d : D} {ds : DSt} {h : DH} (hn : ds.length = n) : mVar n (ds ++ [some d]) h = .ok d h := by
  unfold mVar
  rw [← hn, getD_end]
end
section
variable {e : FSt} {N C B : FSt → Prop} {R : T → Prop}
def asR (v : T) (P : T → T → Prop) : Prop := match v with | .tup [r, u] => P r u | _ => False
theorem asR_mk {r u : T} {P : T → T → Prop} : asR (.tup [r, u]) P ↔ P r u := Iff.rfl
end
end Fu
namespace Fu
open PySem L2 Mi
end Fu
namespace Fu
open PySem L2 Mi
end Fu
namespace Fu
open PySem L2 Mi
def fNo : FS := fun _ => none
def fDef (a : FA) (ts : List T) : FA := fun e => (a e).map fun us => us ++ ts
section
variable {rs : Rk} {wr w wn wl : Ws} {sh : Sh} {m : AM} {f : FA} {cs : List D} {ts : List T}
theorem w_def {m : AM} {cs : List D} {ds : DSt} {h : DH} {P : List D → DH → Prop} : SatE (aDef m cs ds h) P ↔ SatE (m ds h) fun xs h1 => P (xs ++ cs) h1 := by
  unfold aDef
  cases m ds h <;> exact Iff.rfl
theorem sa_def (ha : SA w m f) (hc : ∀ A h, Vals A h ts cs) : SA w (aDef m cs) (fDef f ts) := fun A X own ds h e r t q => by
  obtain ⟨us, q1, rfl⟩ := map_some q
  rw [w_def]
  exact (ha A X own ds h e r us q1).imp fun xs h1 ⟨k, v⟩ => ⟨k, Vals.append v (hc _ _)⟩
theorem k_def {a : FA} {ts : List T} {e : FSt} {PL : List T → Prop} : Ok (fDef a ts e) PL ↔ Ok (a e) fun us => PL (us ++ ts) := ok_map
end
end Fu
namespace Fu
open PySem L2 Mi
def fmtT : T → Option T
  | .str y => if y.length ≤ 16777216 then some (.str y) else none
  | .int i => if i.natAbs.log2 < 1920 then some (.str (toString i)) else none
  | _ => none
def fFmt (a : FE) : FE := fun e => (a e).bind fmtT
def fJs : List FE → Str → FE
  | [], acc => fun _ => some (.str acc)
  | f :: fs, acc => fun e => (f e).bind fun t => match t with | .str y => if (acc ++ y).length ≤ 16777216 then fJs fs (acc ++ y) e else none | _ => none
section
variable {w : Ws} {m : EM} {f : FE} {ms : List EM} {fs : List FE}
variable {e : FSt} {PT : T → Prop} {a : FE} {acc : Str}
theorem k_fmt : Ok (fFmt a e) PT ↔ Ok (a e) fun t => Ok (fmtT t) PT := ok_bind
theorem k_js0 : Ok (fJs [] acc e) PT ↔ PT (.str acc) := Iff.rfl
theorem k_js1 : Ok (fJs (a :: fs) acc e) PT ↔ Ok (a e) fun t => asS t fun y => (acc ++ y).length ≤ 16777216 ∧ Ok (fJs fs (acc ++ y) e) PT := by
  show Ok ((a e).bind _) PT ↔ _
  rw [ok_bind]
  cases a e with
  | none => exact Iff.rfl
  | some t => cases t with
    | str y => exact ok_ite
    | _ => exact Iff.rfl
theorem fmtT_s {y : Str} : fmtT (.str y) = if y.length ≤ 16777216 then some (.str y) else none := rfl
theorem fmtT_i {i : Int} : fmtT (.int i) = if i.natAbs.log2 < 1920 then some (.str (toString i)) else none := rfl
end
end Fu
namespace Fu
open PySem L2 Mi
def fKG (tbl : List (Str × T)) (a b : FE) : FE := fun e => (a e).bind fun t => (b e).bind fun u => match t with | .str z => some ((fLook tbl z).getD u) | _ => none
section
variable {w : Ws} {ma mb : EM} {fa fb : FE} {e : FSt} {PT : T → Prop} {a b : FE}
theorem k_kg {tbl : List (Str × T)} : Ok (fKG tbl a b e) PT ↔ Ok (a e) fun t => Ok (b e) fun u => asS t fun z => PT ((fLook tbl z).getD u) := by
  unfold fKG
  rw [ok_bind]
  cases a e with
  | none => exact Iff.rfl
  | some t =>
    show Ok ((b e).bind _) PT ↔ Ok (b e) _
    rw [ok_bind]
    cases b e with
    | none => exact Iff.rfl
    | some u => cases t <;> exact Iff.rfl
end
end Fu
namespace Fu
open PySem L2 Mi
end Fu
namespace Fu
open PySem L2 Mi
end Fu
namespace Fu
open PySem L2 Mi
end Fu
namespace Fu
open PySem L2 Mi
end Fu
namespace Fu
open PySem L2 Mi
end Fu
namespace Fu
open PySem L2 Mi
end Fu
namespace Fu
open PySem L2 Mi
def fCallR (G : List T → Option T) (i p : Nat) (fa : FA) (j : Nat) : FS := fun e => (fa e).bind fun ts => (e.getD i none).bind fun t => (G (ts.set p t)).bind fun v => match v with
  | .tup [r, u] => some (.nx ((e.set i (some u)).set j (some r)))
  | _ => none
/-- does not look at the heap, nor at a slot behind the others -/
def Stb (n : Nat) (m : EM) : Prop := ∀ (ds : DSt) (x : Option D), ds.length = n → (∃ d, (∀ h, m ds h = .ok d h) ∧ ∀ h, m (ds ++ [x]) h = .ok d h) ∨ ((∀ h, m ds h = .no) ∧ ∀ h, m (ds ++ [x]) h = .no)
theorem stb_var {n j : Nat} (hj : j < n) : Stb n (mVar j) := fun ds x hl => by
  unfold mVar
  rw [getD_app (by omega)]
  cases ds.getD j none with
  | none => exact .inr ⟨fun _ => rfl, fun _ => rfl⟩
  | some d => exact .inl ⟨d, fun _ => rfl, fun _ => rfl⟩
theorem stb_c {n : Nat} {d : D} : Stb n (mC d) := fun ds x _ => .inl ⟨d, fun _ => rfl, fun _ => rfl⟩
section
variable {rs : Rk} {wr w : Ws} {wl : Ws} {i p : Nat} {sh sh' : Sh} {F : List D → DH → Res D} {G : List T → Option T} {mr : AM} {fr : FA} {e : FSt} {N C B : FSt → Prop} {R : T → Prop}
theorem ss_callR {j : Nat} (hF : SFP p (.sh .s) sh F G) (hi : (i, sh) ∈ w) (ha : SAh w i p mr fr) (hj : ∀ p ∈ w, p.1 ≠ j) (hf : ∀ p ∈ wr, p.1 ≠ j) : SS rs wr w (sAsg (mCB F mr) (gNm j)) (fCallR G i p fr j) w wl := fun A X own ds h0 h e r k l nw o q => by
  obtain ⟨ts, q1, q⟩ := bind_some q
  obtain ⟨t, q2, q⟩ := bind_some q
  obtain ⟨v, q3, q⟩ := bind_some q
  obtain ⟨r0, u, d', h', S', rfl, e1, vd, kS, s⟩ := callP_val hF hi ha r k l nw q1 q2 q3
  cases q
  refine ⟨ds.set j (some d'), h', _, ?_, s.rel.put hj vd, s.k0, s.kin, s.fresh, s.le, s.nw, fun p hp => getD_set_ne (Ne.symm (hf p hp))⟩
  unfold sAsg; rw [e1]; rfl
theorem s_callR {j : Nat} {a : FA} (h : Ok (a e) fun ts => Ok (e.getD i none) fun t => Ok (G (ts.set p t)) fun v => asR v fun r u => N ((e.set i (some u)).set j (some r))) : Sk (fCallR G i p a j e) N C B R := by
  unfold fCallR
  rw [sk_bind]
  refine h.imp fun ts h => ?_
  rw [sk_bind]
  refine h.imp fun t h => ?_
  rw [sk_bind]
  refine h.imp fun v h => ?_
  unfold asR at h
  split at h
  · exact h
  · exact h.elim
end
end Fu
namespace Fu
open PySem L2 Mi
end Fu
namespace Fu
open PySem L2 Mi
end Fu
namespace Fu
open PySem L2 Mi
def splitT : T → T → Option T
  | .str a, .str b => if b.length ≠ 0 ∧ a.length + 2 ≤ 16777216 then some (.lst ((Txt.split a b).map .str)) else none
  | _, _ => none
def predT (g : Str → Bool) : T → Option T
  | .str a => some (.bl (g a))
  | _ => none
def strsT : List T → Option (List Str)
  | [] => some []
  | .str a :: r => (strsT r).map (a :: ·)
  | _ => none
def intST (ts : List T) : Option T := match ts with
  | [.str a] => (PySem.intText? a).bind fun n => if a.length ≤ 640 then some (.int n) else none
  | _ => none
def strST (ts : List T) : Option T := match ts with
  | [.int i] => if i.natAbs.log2 < 1920 then some (.str (Str.ofString (toString i))) else none
  | [.str a] => if a.length ≤ 16777216 then some (.str a) else none
  | _ => none
def maxLenT (ts : List T) : Option T := match ts with
  | [.lst us] => (strsT us).bind fun ys => if 0 < ys.length ∧ ∀ y ∈ ys, y.length ≤ 16777216 then some (.str (MxL.longS ys)) else none
  | _ => none
section
variable {w : Ws} {ma mb mc : EM} {fa fb fc : FE} {A : Nat → Prop} {h : DH}
theorem strs_bv : ∀ {us : List T} {xs : List D} {ys : List Str}, Vals A h us xs → strsT us = some ys → xs = ys.map D.str
  | [], xs, ys, v, e => by cases e; simp only [Vals] at v; rw [v]; rfl
  | u :: us, xs, ys, v, e => by
    cases u with
    | str a =>
      unfold strsT at e
      obtain ⟨zs, q, rfl⟩ := map_some e
      simp only [Vals] at v
      obtain ⟨d, ds, rfl, v1, v2⟩ := v
      rw [val_str.mp v1, strs_bv v2 q]; rfl
    | _ => cases e
theorem strsD_map : ∀ ys : List Str, strsD (ys.map D.str) = some ys
  | [] => rfl
  | y :: ys => by rw [List.map_cons, strsD, strsD_map ys]; rfl
theorem vals_strs : ∀ (ys : List Str), Vals A h (ys.map T.str) (ys.map D.str)
  | [] => by simp only [List.map_nil, Vals]
  | y :: ys => Vals.cons (val_str.mpr rfl) (vals_strs ys)
theorem strsT_map : ∀ ys : List Str, strsT (ys.map T.str) = some ys
  | [] => rfl
  | y :: ys => by rw [List.map_cons, strsT, strsT_map ys]; rfl
theorem sx_split (ha : SN w ma fa) (hb : SN w mb fb) : SX w (.l .s) (mMt "str" splitD ma (aCons mb aNil)) (fOp splitT fa fb) := fun A X own ds h e r t q => by
  obtain ⟨x, q1, q⟩ := bind_some q
  obtain ⟨y, q2, q⟩ := bind_some q
  rw [w_mt]
  refine (ha A X own ds h e r x q1).imp fun dx h1 ⟨k1, v1⟩ => ?_
  cases x with
  | str a =>
    cases y with
    | str b =>
      obtain ⟨c, rfl⟩ := ite_some q
      rw [val_str.mp v1]
      refine ⟨rfl, ?_⟩
      rw [w_cons]
      refine (hb A X own ds h1 e (r.keep k1) _ q2).imp fun dy h2 ⟨k2, v2⟩ => ?_
      simp only [w_nil]
      rw [val_str.mp v2]
      unfold splitD
      simp only [if_pos c]
      have kk := Keep.app h2 [DO.lst ((Txt.split a b).map .str)]
      refine ⟨(k1.trans k2).trans kk, [h2.length], ?_, by simp, fun x hx => by rw [List.mem_singleton.mp hx]; exact (k1.trans k2).len⟩
      simp only [Od]
      exact ⟨_, h2.length, _, _, rfl, rfl, rfl, get_last _ _, OdL.of_vals (vals_strs _)⟩
    | _ => cases q
  | _ => cases q
theorem se_pred {g : Str → Bool} (ha : SN w ma fa) : SE w (mMt "str" (predD g) ma aNil) (fUn (predT g) fa) := fun A X own ds h e r t q => by
  obtain ⟨x, q1, q⟩ := bind_some q
  rw [w_mt]
  refine (ha A X own ds h e r x q1).imp fun dx h1 ⟨k1, v1⟩ => ?_
  cases x with
  | str a =>
    cases q
    rw [val_str.mp v1]
    exact ⟨rfl, k1, val_bl.mpr rfl⟩
  | _ => cases q
theorem c_intS : SCl intSD intST := fun A h xs ts v big r e => by
  unfold intST at e
  split at e
  · rename_i a
    obtain ⟨d, rfl, r1⟩ := bvs1 r
    rw [bv_str r1]
    obtain ⟨n, q, e⟩ := bind_some e
    obtain ⟨c, rfl⟩ := ite_some e
    unfold intSD
    simp only [q, if_pos c]
    exact ⟨Keep.refl _, val_int.mpr rfl⟩
  · cases e
theorem fc_intS : FlatC intST := fun t v e => by
  unfold intST at e
  split at e
  · obtain ⟨n, q, e⟩ := bind_some e
    obtain ⟨c, rfl⟩ := ite_some e
    rfl
  · cases e
theorem c_maxLen : SCl maxLenD maxLenT := fun A h xs ts v big r e => by
  unfold maxLenT at e
  split at e
  · obtain ⟨d, rfl, r1⟩ := bvs1 r
    obtain ⟨ys, q, e⟩ := bind_some e
    obtain ⟨c, rfl⟩ := ite_some e
    obtain ⟨n, zs, rfl, hn, v1⟩ := r1
    have := strs_bv v1 q
    subst this
    unfold maxLenD
    simp only [itemsD, hn, strsD_map, if_pos c]
    exact ⟨Keep.refl _, val_str.mpr rfl⟩
  · cases e
def fDGet2 (a b c : FE) : FE := fun e => (a e).bind fun x => (b e).bind fun y => (c e).bind fun z => match x with
  | .dic ks => (keyT y).map fun k => (lookK ks k).getD z
  | _ => none
end
end Fu
namespace Fu
open PySem L2 Mi
end Fu
namespace Fu
open PySem L2 Mi
/-- m, where c has been done already and its value stands in slot n -/
def Ho (n : Nat) (c m mx : EM) : Prop := ∀ ds h d h', ds.length = n → c ds h = .ok d h' → m ds h = mx (ds ++ [some d]) h'
def HoA (n : Nat) (c : EM) (m mx : AM) : Prop := ∀ ds h d h', ds.length = n → c ds h = .ok d h' → m ds h = mx (ds ++ [some d]) h'
/-- does not look at the slot n -/
def Ap (n : Nat) (m : EM) : Prop := ∀ ds h x, ds.length = n → m (ds ++ [x]) h = m ds h
def ApA (n : Nat) (m : AM) : Prop := ∀ ds h x, ds.length = n → m (ds ++ [x]) h = m ds h
section
variable {n i : Nat} {c a b ax bx m mx : EM} {r rx : AM} {f : D → D → DH → Res D} {g : D → DH → Res D} {F : List D → DH → Res D}
theorem ap_c {d : D} : Ap n (mC d) := fun _ _ _ _ => rfl
theorem ap_var (hi : i < n) : Ap n (mVar i) := fun ds h x hl => by unfold mVar; rw [getD_app (by omega)]
theorem ap_op (ha : Ap n a) (hb : Ap n b) : Ap n (mOp f a b) := fun ds h x hl => by
  unfold mOp
  rw [ha ds h x hl]
  congr 1
  funext y h1
  rw [hb ds h1 x hl]
theorem ap_un (ha : Ap n a) : Ap n (mUn g a) := fun ds h x hl => by unfold mUn; rw [ha ds h x hl]
theorem apA_nil : ApA n aNil := fun _ _ _ _ => rfl
theorem apA_cons (ha : Ap n a) (hr : ApA n r) : ApA n (aCons a r) := fun ds h x hl => by
  unfold aCons
  rw [ha ds h x hl]
  congr 1
  funext y h1
  rw [hr ds h1 x hl]
theorem ap_cb (hr : ApA n r) : Ap n (mCB F r) := fun ds h x hl => by unfold mCB; rw [hr ds h x hl]
theorem ap_tup (hr : ApA n r) : Ap n (mTup r) := fun ds h x hl => by unfold mTup; rw [hr ds h x hl]
theorem ap_lst (hr : ApA n r) : Ap n (mLst r) := fun ds h x hl => by unfold mLst; rw [hr ds h x hl]
theorem ho_self : Ho n c c (mVar n) := fun ds h d h' hl e => by rw [e, var_end hl]
theorem ho_op1 (ha : Ho n c a ax) (hb : Ap n b) : Ho n c (mOp f a b) (mOp f ax b) := fun ds h d h' hl e => by
  unfold mOp
  rw [ha ds h d h' hl e]
  congr 1
  funext y h1
  rw [hb ds h1 _ hl]
theorem stb_bind {α : Type} {ds : DSt} {h : DH} {x : Option D} (s : Stb n a) (hl : ds.length = n) {k k' : D → DH → Res α} {h' : DH} (hk : ∀ d, k d h = k' d h') : (a ds h).bind k = (a (ds ++ [x]) h').bind k' := by
  rcases s ds x hl with ⟨d, e1, e2⟩ | ⟨e1, e2⟩
  · rw [e1, e2]; exact hk d
  · rw [e1, e2]; rfl
theorem ho_op2 (ha : Stb n a) (hb : Ho n c b bx) : Ho n c (mOp f a b) (mOp f a bx) := fun ds h d h' hl e => by
  unfold mOp
  refine stb_bind ha hl fun y => ?_
  rw [hb ds h d h' hl e]
theorem hoA_hd (ha : Ho n c a ax) (hr : ApA n r) : HoA n c (aCons a r) (aCons ax r) := fun ds h d h' hl e => by
  unfold aCons
  rw [ha ds h d h' hl e]
  congr 1
  funext y h1
  rw [hr ds h1 _ hl]
theorem hoA_tl (ha : Stb n a) (hr : HoA n c r rx) : HoA n c (aCons a r) (aCons a rx) := fun ds h d h' hl e => by
  unfold aCons
  refine stb_bind ha hl fun y => ?_
  rw [hr ds h d h' hl e]
theorem ho_cb (hr : HoA n c r rx) : Ho n c (mCB F r) (mCB F rx) := fun ds h d h' hl e => by unfold mCB; rw [hr ds h d h' hl e]
theorem ho_tup (hr : HoA n c r rx) : Ho n c (mTup r) (mTup rx) := fun ds h d h' hl e => by unfold mTup; rw [hr ds h d h' hl e]
theorem ho_slU {f : D → Option Int → Option Int → DH → Res D} (ha : Stb n a) (hb : Ho n c b bx) : Ho n c (mSl f a oNone (oSome b)) (mSl f a oNone (oSome bx)) := fun ds h d h' hl e => by
  unfold mSl
  refine stb_bind ha hl fun y => ?_
  unfold oNone oSome
  simp only [Res.bind]
  rw [hb ds h d h' hl e]
end
def fHo (G : List T → Option T) (i p : Nat) (fa : FA) (n : Nat) (c2 : FC) : FC := fun e => (fa e).bind fun ts => (e.getD i none).bind fun t => (G (ts.set p t)).bind fun v => match v with
  | .tup [r, u] => if e.length = n then (c2 ((e.set i (some u)) ++ [some r])).map (fun q => (q.1, q.2.take n)) else none
  | _ => none
def fHe (f : FE) (n : Nat) (c2 : FC) : FC := fun e => (f e).bind fun t => if e.length = n then (c2 (e ++ [some t])).map (fun q => (q.1, q.2.take n)) else none
def SC (wr w : Ws) (m : EM) (c : FC) : Prop := ∀ A X own ds h0 h e, Rel A X w own ds h e → KeepX X h0 h → h0.length ≤ h.length → Nw wr w own h0.length → ∀ t e', c e = some (t, e') → ∃ d h' own', m ds h = .ok d h' ∧ Stp A X h0 wr w own ds h w own' ds h' e' ∧ Val (Al A w own') h' t d
section
variable {rs : Rk} {sh : Sh} {wr w wl wn : Ws} {i p n : Nat} {F : List D → DH → Res D} {G : List T → Option T} {mr : AM} {fr : FA} {m mx m1 : EM} {c c2 : FC} {f f1 : FE} {a b : SM} {sa sb : FS} {e : FSt} {N C B : FSt → Prop} {R : T → Prop} {PT : T → FSt → Prop}
theorem sc_let (hf : SE w m f) : SC wr w m (fLet f) := fun A X own ds h0 h e r k l nw t e' q => by
  obtain ⟨u, q1, q2⟩ := map_some q
  cases q2
  obtain ⟨d, h1, e1, k1, v⟩ := (hf A X own ds h e r t q1).eq
  exact ⟨d, h1, own, e1, (Stp.refl (r.keep k1) (k.keep k1) nw).pre k1, v⟩
theorem sc_ho (hq : Ho n (mCB F mr) m mx) (hF : SFP p (.sh .s) sh F G) (hi : (i, sh) ∈ w) (ha : SAh w i p mr fr) (hw : ∀ p ∈ w, p.1 < n) (hs : SC wr w mx c2) : SC wr w m (fHo G i p fr n c2) := fun A X own ds h0 h e r k l nw t e' q => by
  obtain ⟨ts, q1, q⟩ := bind_some q
  obtain ⟨t0, q2, q⟩ := bind_some q
  obtain ⟨v, q3, q⟩ := bind_some q
  obtain ⟨r0, u, d', h', S', rfl, e1, vd, kS, s⟩ := callP_val hF hi ha r k l nw q1 q2 q3
  obtain ⟨c1, q⟩ : e.length = n ∧ (c2 ((e.set i (some u)) ++ [some r0])).map (fun q => (q.1, q.2.take n)) = some (t, e') := by
    by_cases c : e.length = n
    · simp only [if_pos c] at q; exact ⟨c, q⟩
    · simp only [if_neg c] at q; cases q
  obtain ⟨⟨t2, e2⟩, q4, q5⟩ := map_some q
  cases q5
  have dl : ds.length = n := by rw [r.len, c1]
  obtain ⟨d2, h2, own2, z1, s2, v2⟩ := hs A X _ (ds ++ [some d']) h0 h' _ (s.rel.ext vd) s.k0 (Nat.le_trans l s.le) s.nw _ _ q4
  have rl := s2.rel.cut (fun p hp => by rw [dl]; exact hw p hp)
  rw [dl] at rl
  exact ⟨d2, h2, own2, by rw [hq ds h d' h' dl e1]; exact z1, s.trans ⟨rl, s2.k0, s2.kin, s2.fresh, s2.le, s2.nw, fun _ _ => rfl⟩, v2⟩
theorem sc_he (hq : Ho n m1 m mx) (hf : SE w m1 f1) (hw : ∀ p ∈ w, p.1 < n) (hs : SC wr w mx c2) : SC wr w m (fHe f1 n c2) := fun A X own ds h0 h e r k l nw t e' q => by
  obtain ⟨u, q1, q⟩ := bind_some q
  obtain ⟨d', h', e1, k1, vd⟩ := (hf A X own ds h e r u q1).eq
  obtain ⟨c1, q⟩ : e.length = n ∧ (c2 (e ++ [some u])).map (fun q => (q.1, q.2.take n)) = some (t, e') := by
    by_cases c : e.length = n
    · simp only [if_pos c] at q; exact ⟨c, q⟩
    · simp only [if_neg c] at q; cases q
  obtain ⟨⟨t2, e2⟩, q4, q5⟩ := map_some q
  cases q5
  have dl : ds.length = n := by rw [r.len, c1]
  have s : Stp A X h0 wr w own ds h w own ds h' e := (Stp.refl (r.keep k1) (k.keep k1) nw).pre k1
  obtain ⟨d2, h2, own2, z1, s2, v2⟩ := hs A X _ (ds ++ [some d']) h0 h' _ (s.rel.ext vd) s.k0 (Nat.le_trans l s.le) s.nw _ _ q4
  have rl := s2.rel.cut (fun p hp => by rw [dl]; exact hw p hp)
  rw [dl] at rl
  exact ⟨d2, h2, own2, by rw [hq ds h d' h' dl e1]; exact z1, s.trans ⟨rl, s2.k0, s2.kin, s2.fresh, s2.le, s2.nw, fun _ _ => rfl⟩, v2⟩
abbrev FCt := FSt → Option (Bool × FSt)
def fTestC (c : FC) : FCt := fun e => (c e).bind fun q => match q.1 with | .bl b => some (b, q.2) | _ => none
def fAndC (t : FT) (c : FCt) : FCt := fun e => (t e).bind fun b => if b then c e else some (false, e)
def fOrC (t : FT) (c : FCt) : FCt := fun e => (t e).bind fun b => if b then some (true, e) else c e
def fNotC (c : FCt) : FCt := fun e => (c e).map fun q => (!q.1, q.2)
end
def SCt (wr w : Ws) (m : TM) (c : FCt) : Prop := ∀ A X own ds h0 h e, Rel A X w own ds h e → KeepX X h0 h → h0.length ≤ h.length → Nw wr w own h0.length → ∀ b e', c e = some (b, e') → ∃ h' own', m ds h = .ok b h' ∧ Stp A X h0 wr w own ds h w own' ds h' e'
section
variable {rs : Rk} {sh : Sh} {wr w wl wn : Ws} {i p n : Nat} {F : List D → DH → Res D} {G : List T → Option T} {mr : AM} {fr : FA} {m mx m1 : EM} {c c2 : FC} {f f1 : FE} {a b : SM} {sa sb : FS} {e : FSt} {N C B : FSt → Prop} {R : T → Prop} {PT : T → FSt → Prop} {tm um : TM} {ft : FT} {ct : FCt}
theorem sct_test (hs : SC wr w m c) : SCt wr w (mTest m) (fTestC c) := fun A X own ds h0 h e r k l nw b e' q => by
  obtain ⟨⟨t, e1⟩, q1, q⟩ := bind_some q
  obtain ⟨d, h1, own1, z, s, v⟩ := hs A X own ds h0 h e r k l nw t e1 q1
  cases t with
  | bl b' =>
    cases q
    have := val_bl.mp v
    subst this
    exact ⟨h1, own1, by unfold mTest; rw [z]; rfl, s⟩
  | _ => cases q
theorem ss_setC (hs : SC wr w m c) (hi : ∀ p ∈ w, p.1 ≠ i) (hf : ∀ p ∈ wr, p.1 ≠ i) : SS rs wr w (sAsg m (gNm i)) (fSetC c i) w wl := fun A X own ds h0 h e r k l nw o q => by
  obtain ⟨⟨t, e1⟩, q1, q⟩ := map_some q
  cases q
  obtain ⟨d, h1, own1, z, s, v⟩ := hs A X own ds h0 h e r k l nw t e1 q1
  refine ⟨ds.set i (some d), h1, own1, ?_, s.rel.put hi v, s.k0, s.kin, s.fresh, s.le, s.nw, fun p hp => getD_set_ne (Ne.symm (hf p hp))⟩
  unfold sAsg; rw [z]; rfl
theorem ss_retC (hs : SC wr w m c) (hw : ∀ p ∈ wr, p ∈ w) : SS (.sh .s) wr w (sRet m) (fRetC c) wn wl := fun A X own ds h0 h e r k l nw o q => by
  obtain ⟨⟨t, e1⟩, q1, rfl⟩ := map_some q
  obtain ⟨d, h1, own1, z, s, v⟩ := hs A X own ds h0 h e r k l nw t e1 q1
  refine ⟨d, ds, h1, own1, ?_, s.weak hw, ret_s.mpr (v.sub fun m a _ => ⟨a.1, fun p hp => a.2 p (hw p hp)⟩)⟩
  unfold sRet; rw [z]; rfl
def fIfC (c : FCt) (a b : FS) : FS := fun e => (c e).bind fun q => if q.1 then a q.2 else b q.2
theorem ss_ifC (ht : SCt wr w tm ct) (ha : SS rs wr w a sa wn wl) (hb : SS rs wr w b sb wn wl) : SS rs wr w (sIf tm a b) (fIfC ct sa sb) wn wl := fun A X own ds h0 h e r k l nw o q => by
  obtain ⟨⟨x, e1⟩, q1, q⟩ := bind_some q
  obtain ⟨h1, own1, z, s⟩ := ht A X own ds h0 h e r k l nw x e1 q1
  unfold sIf; rw [z]
  cases x with
  | true => exact (ha A X own1 ds h0 h1 e1 s.rel s.k0 (Nat.le_trans l s.le) s.nw o q).after s
  | false => exact (hb A X own1 ds h0 h1 e1 s.rel s.k0 (Nat.le_trans l s.le) s.nw o q).after s
def fForC (c : FC) (g : FG) (b : FS) : FS := fun e => (c e).bind fun q => (fFor (fR1 (fC q.1)) g b) q.2
theorem ss_forC {g : GM} {gt : FG} (hs : SC wr w m c) (hg : SG w wr g gt) (hb : SS rs wr w b sb w w) : SS rs wr w (sFor (iR1 m) g b) (fForC c gt sb) w wl := fun A X own ds h0 h e r k l nw o q => by
  obtain ⟨⟨t, e1⟩, q1, q⟩ := bind_some q
  obtain ⟨d, h1, own1, z, s, v⟩ := hs A X own ds h0 h e r k l nw t e1 q1
  cases t with
  | int j =>
    have := val_int.mp v
    subst this
    have hf : SS rs wr w (sFor (iR1 (mC (.int j))) g b) (fFor (fR1 (fC (.int j))) gt sb) w wl := ss_for (si_r1 (SE.sn (se_c fun _ _ => val_int.mpr rfl))) hg hb
    have p := hf A X own1 ds h0 h1 e1 s.rel s.k0 (Nat.le_trans l s.le) s.nw o q
    have e2 : sFor (iR1 m) g b ds h = sFor (iR1 (mC (.int j))) g b ds h1 := by
      unfold sFor iR1 mC
      rw [z]
      try rfl
    rw [e2]
    exact p.after s
  | _ =>
    exfalso
    obtain ⟨ts, q2, q⟩ := bind_some q
    unfold fR1 at q2
    obtain ⟨x, q3, q2⟩ := bind_some q2
    cases q3
    first | done | cases q2
theorem k_let {P : T × FSt → Prop} : Ok (fLet f e) P ↔ Ok (f e) fun t => P (t, e) := by unfold fLet; rw [ok_map]
theorem k_ho {P : T × FSt → Prop} : Ok (fHo G i p fr n c2 e) P ↔ Ok (fr e) fun ts => Ok (e.getD i none) fun t => Ok (G (ts.set p t)) fun v => asR v fun r u => e.length = n ∧ Ok (c2 (e.set i (some u) ++ [some r])) fun q => P (q.1, q.2.take n) := by
  unfold fHo
  rw [ok_bind]
  refine ⟨fun h => h.imp fun ts h => ?_, fun h => h.imp fun ts h => ?_⟩
  · rw [ok_bind] at h
    refine h.imp fun t h => ?_
    rw [ok_bind] at h
    refine h.imp fun v h => ?_
    unfold asR
    split at h
    · by_cases c : e.length = n
      · rw [if_pos c, ok_map] at h; exact ⟨c, h⟩
      · rw [if_neg c] at h; exact h.elim
    · exact h.elim
  · rw [ok_bind]
    refine h.imp fun t h => ?_
    rw [ok_bind]
    refine h.imp fun v h => ?_
    unfold asR at h
    split at h
    · simp only [if_pos h.1]; rw [ok_map]; exact h.2
    · exact h.elim
theorem k_he {P : T × FSt → Prop} : Ok (fHe f n c2 e) P ↔ Ok (f e) fun t => e.length = n ∧ Ok (c2 (e ++ [some t])) fun q => P (q.1, q.2.take n) := by
  unfold fHe
  rw [ok_bind]
  refine ⟨fun h => h.imp fun t h => ?_, fun h => h.imp fun t h => ?_⟩
  · by_cases c : e.length = n
    · rw [if_pos c, ok_map] at h; exact ⟨c, h⟩
    · rw [if_neg c] at h; exact h.elim
  · rw [if_pos h.1, ok_map]; exact h.2
theorem k_testC {P : Bool × FSt → Prop} : Ok (fTestC c e) P ↔ Ok (c e) fun q => asB q.1 fun b => P (b, q.2) := by
  unfold fTestC
  rw [ok_bind]
  refine ⟨fun h => h.imp fun t h => ?_, fun h => h.imp fun t h => ?_⟩
  · unfold asB; split at h
    · rename_i q; (try rw [q]); exact h
    · exact h.elim
  · unfold asB at h; split at h
    · rename_i q; (try rw [q]); exact h
    · exact h.elim
theorem k_andC {P : Bool × FSt → Prop} : Ok (fAndC ft ct e) P ↔ Ok (ft e) fun b => if b = true then Ok (ct e) P else P (false, e) := by
  unfold fAndC
  rw [ok_bind]
  refine ⟨fun h => h.imp fun t h => ?_, fun h => h.imp fun t h => ?_⟩
  · cases t with
    | true => exact h
    | false => exact h
  · cases t with
    | true => exact h
    | false => exact h
theorem k_orC {P : Bool × FSt → Prop} : Ok (fOrC ft ct e) P ↔ Ok (ft e) fun b => if b = true then P (true, e) else Ok (ct e) P := by
  unfold fOrC
  rw [ok_bind]
  refine ⟨fun h => h.imp fun t h => ?_, fun h => h.imp fun t h => ?_⟩
  · cases t with
    | true => exact h
    | false => exact h
  · cases t with
    | true => exact h
    | false => exact h
theorem k_notC {P : Bool × FSt → Prop} : Ok (fNotC ct e) P ↔ Ok (ct e) fun q => P (!q.1, q.2) := by unfold fNotC; rw [ok_map]
theorem s_setC : Sk (fSetC c i e) N C B R ↔ Ok (c e) fun q => N (q.2.set i (some q.1)) := by
  unfold fSetC
  cases c e with
  | none => exact Iff.rfl
  | some q => exact Iff.rfl
theorem s_retC : Sk (fRetC c e) N C B R ↔ Ok (c e) fun q => R q.1 := by
  unfold fRetC
  cases c e with
  | none => exact Iff.rfl
  | some q => exact Iff.rfl
theorem s_dropC : Sk (fDropC c e) N C B R ↔ Ok (c e) fun q => N q.2 := by
  unfold fDropC
  cases c e with
  | none => exact Iff.rfl
  | some q => exact Iff.rfl
theorem s_ifC : Sk (fIfC ct sa sb e) N C B R ↔ Ok (ct e) fun q => if q.1 = true then Sk (sa q.2) N C B R else Sk (sb q.2) N C B R := by
  unfold fIfC
  cases ct e with
  | none => exact Iff.rfl
  | some q => obtain ⟨x, e1⟩ := q; cases x <;> exact Iff.rfl
theorem s_forC {gt : FG} : Sk (fForC c gt sb e) N C B R ↔ Ok (c e) fun q => Sk (fFor (fR1 (fC q.1)) gt sb q.2) N C B R := by
  unfold fForC
  cases c e with
  | none => exact Iff.rfl
  | some q => exact Iff.rfl
theorem sp_retC {N2 : FSt → Prop} {R2 : T → FSt → Prop} : SkP (fRetC c e) N2 R2 ↔ Ok (c e) fun q => R2 q.1 q.2 := by
  unfold fRetC
  cases c e with
  | none => exact Iff.rfl
  | some q => exact Iff.rfl
theorem sp_ifC {N2 : FSt → Prop} {R2 : T → FSt → Prop} : SkP (fIfC ct sa sb e) N2 R2 ↔ Ok (ct e) fun q => if q.1 = true then SkP (sa q.2) N2 R2 else SkP (sb q.2) N2 R2 := by
  unfold fIfC
  cases ct e with
  | none => exact Iff.rfl
  | some q => obtain ⟨x, e1⟩ := q; cases x <;> exact Iff.rfl
theorem sp_seqR {a b : FS} {e : FSt} {N2 : FSt → Prop} {R2 : T → FSt → Prop} (Mid : FSt → Prop) (s : SkP (a e) Mid R2) (k : ∀ e', Mid e' → SkP (b e') N2 R2) : SkP (fSeqS a b e) N2 R2 := by
  unfold fSeqS
  revert s
  cases a e with
  | none => exact fun s => s.elim
  | some o =>
    cases o with
    | nx e2 => exact fun s => k e2 s
    | rt t e2 => exact fun s => s
    | _ => exact fun s => s.elim
theorem sp_if {c : FT} {a b : FS} {e : FSt} {N2 : FSt → Prop} {R2 : T → FSt → Prop} : SkP (fIfS c a b e) N2 R2 ↔ Ok (c e) fun t => if t = true then SkP (a e) N2 R2 else SkP (b e) N2 R2 := by
  unfold fIfS
  cases c e with
  | none => exact Iff.rfl
  | some t => cases t <;> exact Iff.rfl
theorem sp_next {e : FSt} {N2 : FSt → Prop} {R2 : T → FSt → Prop} : SkP (fNext e) N2 R2 ↔ N2 e := Iff.rfl
theorem sp_setC {N2 : FSt → Prop} {R2 : T → FSt → Prop} : SkP (fSetC c i e) N2 R2 ↔ Ok (c e) fun q => N2 (q.2.set i (some q.1)) := by
  unfold fSetC
  cases c e with
  | none => exact Iff.rfl
  | some q => exact Iff.rfl
end
end Fu
namespace Fu
open PySem L2 Mi
section
variable {e : FSt} {N C B : FSt → Prop} {R : T → Prop} {PT : T → Prop}
theorem s_callRi {G : List T → Option T} {i p j : Nat} {a : FA} : Sk (fCallR G i p a j e) N C B R ↔ Ok (a e) fun ts => Ok (e.getD i none) fun t => Ok (G (ts.set p t)) fun v => asR v fun r u => N ((e.set i (some u)).set j (some r)) := by
  refine ⟨fun h => ?_, s_callR⟩
  unfold fCallR at h
  rw [sk_bind] at h
  refine h.imp fun ts h => ?_
  rw [sk_bind] at h
  refine h.imp fun t h => ?_
  rw [sk_bind] at h
  refine h.imp fun v h => ?_
  unfold asR
  split
  · exact h
  · rename_i hn
    revert h; split
    · exact fun _ => (hn _ _ rfl).elim
    · exact fun h => h.elim
theorem strST_i {i : Int} : strST [.int i] = if i.natAbs.log2 < 1920 then some (.str (Str.ofString (toString i))) else none := rfl
theorem strST_s {a : Str} : strST [.str a] = if a.length ≤ 16777216 then some (.str a) else none := rfl
theorem splitT_ss {a b : Str} : splitT (.str a) (.str b) = if b.length ≠ 0 ∧ a.length + 2 ≤ 16777216 then some (.lst ((Txt.split a b).map .str)) else none := rfl
theorem predT_s {g : Str → Bool} {a : Str} : predT g (.str a) = some (.bl (g a)) := rfl
theorem k_dget2 {a b c : FE} : Ok (fDGet2 a b c e) PT ↔ Ok (a e) fun x => Ok (b e) fun y => Ok (c e) fun z => asDc x fun ks => Ok (keyT y) fun k => PT ((lookK ks k).getD z) := by
  unfold fDGet2
  rw [ok_bind]
  refine ⟨fun h => h.imp fun x h => ?_, fun h => h.imp fun x h => ?_⟩
  · rw [ok_bind] at h
    refine h.imp fun y h => ?_
    rw [ok_bind] at h
    refine h.imp fun z h => ?_
    unfold asDc
    split
    · simp only [ok_map] at h; exact h
    · rename_i hn
      revert h; split
      · exact fun _ => (hn _ rfl).elim
      · exact fun h => h.elim
  · rw [ok_bind]
    refine h.imp fun y h => ?_
    rw [ok_bind]
    refine h.imp fun z h => ?_
    unfold asDc at h
    split at h
    · simp only [ok_map]; exact h
    · exact h.elim
end
end Fu
namespace Fu
open PySem L2 Mi
theorem atI_3 {α : Type} {a b c d : α} {r : List α} : atI (a :: b :: c :: d :: r) 3 = some d := atI_ge (by omega) rfl
theorem atI_4 {α : Type} {a b c d e : α} {r : List α} : atI (a :: b :: c :: d :: e :: r) 4 = some e := atI_ge (by omega) rfl
theorem atI_5 {α : Type} {a b c d e f : α} {r : List α} : atI (a :: b :: c :: d :: e :: f :: r) 5 = some f := atI_ge (by omega) rfl
end Fu
namespace Fu
open PySem L2 Mi
def showT (t : T) : Option Str := match t with
  | .tup xs => (pyF 160 (.tup xs)).bind fun d => if shw d = true then some d.shown else none
  | .lst xs => (pyF 160 (.lst xs)).bind fun d => if shw d = true then some d.shown else none
  | .fro xs => (pyF 160 (.fro xs)).bind fun d => if shw d = true then some d.shown else none
  | _ => none
def strXT (ts : List T) : Option T := match ts with
  | [t] => match showT t with
    | some s => some (.str s)
    | none => strST [t]
  | _ => none
section
variable {A : Nat → Prop} {h : DH}
theorem strXT_i {i : Int} : strXT [.int i] = if i.natAbs.log2 < 1920 then some (.str (Str.ofString (toString i))) else none := rfl
theorem strXT_s {a : Str} : strXT [.str a] = if a.length ≤ 16777216 then some (.str a) else none := rfl
end
/-- what can be shown: k bounds the depth, n the length of what is shown -/
inductive Shw : Nat → Nat → T → Prop where
  | int {k n : Nat} {i : Int} (h : i.natAbs < 10 ^ 40) (l : 41 ≤ n) : Shw (k + 1) n (.int i)
  | str {k n : Nat} {z : Str} (h : PyData.strOk z = true) (l : 10 * z.length + 2 ≤ n) : Shw (k + 1) n (.str z)
  | t1 {k n a : Nat} {x : T} (h1 : Shw k a x) (l : a + 3 ≤ n) : Shw (k + 1) n (.tup [x])
  | t2 {k n a b : Nat} {x y : T} (h1 : Shw k a x) (h2 : Shw k b y) (l : a + b + 4 ≤ n) : Shw (k + 1) n (.tup [x, y])
  | t3 {k n a b c : Nat} {x y z : T} (h1 : Shw k a x) (h2 : Shw k b y) (h3 : Shw k c z) (l : a + b + c + 6 ≤ n) : Shw (k + 1) n (.tup [x, y, z])
theorem Shw.mono : ∀ {k n k2 n2 : Nat} {t : T}, Shw k n t → k ≤ k2 → n ≤ n2 → Shw k2 n2 t
  | _, _, k2, _, _, .int h l, hk, hn => match k2, hk with | k + 1, _ => .int h (Nat.le_trans l hn)
  | _, _, k2, _, _, .str h l, hk, hn => match k2, hk with | k + 1, _ => .str h (Nat.le_trans l hn)
  | _, _, k2, _, _, .t1 h1 l, hk, hn => match k2, hk with | k + 1, hk => .t1 (Shw.mono h1 (Nat.le_of_succ_le_succ hk) (Nat.le_refl _)) (Nat.le_trans l hn)
  | _, _, k2, _, _, .t2 h1 h2 l, hk, hn => match k2, hk with | k + 1, hk => .t2 (Shw.mono h1 (Nat.le_of_succ_le_succ hk) (Nat.le_refl _)) (Shw.mono h2 (Nat.le_of_succ_le_succ hk) (Nat.le_refl _)) (Nat.le_trans l hn)
  | _, _, k2, _, _, .t3 h1 h2 h3 l, hk, hn => match k2, hk with | k + 1, hk => .t3 (Shw.mono h1 (Nat.le_of_succ_le_succ hk) (Nat.le_refl _)) (Shw.mono h2 (Nat.le_of_succ_le_succ hk) (Nat.le_refl _)) (Shw.mono h3 (Nat.le_of_succ_le_succ hk) (Nat.le_refl _)) (Nat.le_trans l hn)
theorem len_tt1 (a : Str) : (tupleText [a]).length = a.length + 3 := by
  show (("(" : Str) ++ a ++ ((",)" : String) : Str)).length = _
  rw [strLen_append, strLen_append]
  show 1 + a.length + 2 = _
  omega
theorem len_tt2 (a b : Str) : (tupleText [a, b]).length = a.length + b.length + 4 := by
  show (("(" : Str) ++ (a ++ ", " ++ b) ++ ((")" : String) : Str)).length = _
  rw [strLen_append, strLen_append, strLen_append, strLen_append]
  show 1 + (a.length + 2 + b.length) + 1 = _
  omega
theorem len_tt3 (a b c : Str) : (tupleText [a, b, c]).length = a.length + b.length + c.length + 6 := by
  show (("(" : Str) ++ (a ++ ", " ++ (b ++ ", " ++ c)) ++ ((")" : String) : Str)).length = _
  rw [strLen_append, strLen_append, strLen_append, strLen_append, strLen_append, strLen_append]
  show 1 + (a.length + 2 + (b.length + 2 + c.length)) + 1 = _
  omega
theorem log40 {i : Int} (h : i.natAbs < 10 ^ 40) : i.natAbs.log2 < 1920 := by
  rcases Nat.eq_zero_or_pos i.natAbs with z | z
  · rw [z]; decide
  · exact (Nat.log2_lt (Nat.pos_iff_ne_zero.mp z)).mpr (Nat.lt_of_lt_of_le h (Nat.le_trans (show 10 ^ 40 ≤ 2 ^ 140 by decide) (Nat.pow_le_pow_right (n := 2) (i := 140) (j := 1920) (by decide) (by decide))))
theorem Shw.len : ∀ {k n : Nat} {t : T}, Shw k n t → (pyU t).showable = true ∧ (pyU t).shown.length ≤ n
  | _, _, _, .int h l => by
    simp only [pyU, PyData.showable, PyData.shown]
    refine ⟨decide_eq_true (log40 h), ?_⟩
    rw [PySem.ofString_length]
    exact Nat.le_trans (int_text_length_le10 (by decide) h) l
  | _, _, _, .str (z := z) h l => by
    simp only [pyU, PyData.showable, PyData.shown]
    refine ⟨trivial, Nat.le_trans (StrLaws.reprText_len z fun c hc => ?_) l⟩
    have := Array.all_eq_true_iff_forall_mem.mp h c (Array.mem_toList_iff.mp hc)
    exact Nat.lt_trans (of_decide_eq_true this) (by decide)
  | _, _, _, .t1 h1 l => by
    have a := h1.len
    simp only [pyU, List.map_cons, List.map_nil, PyData.showable, PyData.showableAll, PyData.shown, PyData.shownAll, len_tt1, a.1, Bool.and_self, true_and]
    omega
  | _, _, _, .t2 h1 h2 l => by
    have a := h1.len; have b := h2.len
    simp only [pyU, List.map_cons, List.map_nil, PyData.showable, PyData.showableAll, PyData.shown, PyData.shownAll, len_tt2, a.1, b.1, Bool.and_self, true_and]
    omega
  | _, _, _, .t3 h1 h2 h3 l => by
    have a := h1.len; have b := h2.len; have c := h3.len
    simp only [pyU, List.map_cons, List.map_nil, PyData.showable, PyData.showableAll, PyData.shown, PyData.shownAll, len_tt3, a.1, b.1, c.1, Bool.and_self, true_and]
    omega
end Fu
namespace Fu
open PySem L2 Mi
end Fu
namespace Fu
open PySem L2 Mi
def pFl (z : Str) (j : Nat) (p : FP) : FP := fun e => (p e).bind fun q => match q.1 with
  | .obj c gs => ((gs.map (·.2))[j]?).map fun v => (v, fun v' => q.2 (.obj c (gs.set j (z, v'))))
  | _ => none
theorem p_fl {z : Str} {j : Nat} {p : FP} {e : FSt} {PP : T × (T → T) → Prop} : Ok (pFl z j p e) PP ↔ Ok (p e) fun q => match q.1 with | .obj c gs => Ok ((gs.map (·.2))[j]?) fun v => PP (v, fun v' => q.2 (.obj c (gs.set j (z, v')))) | _ => False := by
  unfold pFl
  rw [ok_bind]
  cases p e with
  | none => exact Iff.rfl
  | some q =>
    obtain ⟨t, up⟩ := q
    cases t with
    | obj c gs =>
      show Ok (Option.map _ ((gs.map (·.2))[j]?)) _ ↔ Ok ((gs.map (·.2))[j]?) _
      rw [ok_map]
    | _ => exact Iff.rfl
def gtLs (r : List T → FSt → Option FSt) : FG := fun t e => match t with | .lst ts => r ts e | _ => none
theorem k_gLs {gt : List T → FSt → Option FSt} {t : T} {e : FSt} {P : FSt → Prop} : Ok (gtLs gt t e) P ↔ asL t fun ts => Ok (gt ts e) P := by
  unfold gtLs asL
  cases t <;> exact Iff.rfl
end Fu
namespace Fu
open PySem L2 Mi
end Fu
namespace Fu
open PySem L2 Mi
def lcIT (G : List T → Option T) (x p j : Nat) (fa : FA) (e : FSt) : List T → T → Option (List T × T)
  | [], u => some ([], u)
  | y :: ys, u => (fa ((e.set x (some u)).set j (some y))).bind fun ts => (G (ts.set p u)).bind fun v => match v with
    | .tup [r, u2] => (lcIT G x p j fa e ys u2).map fun q => (r :: q.1, q.2)
    | _ => none
def fSetLcI (fi : FI) (G : List T → Option T) (x p : Nat) (fa : FA) (j : Nat) (vs : List Nat) (i : Nat) : FS := fun e => (fi e).bind fun ts => (e.getD x none).bind fun u0 => if ts.length ≤ 16777216 then (lcIT G x p j fa (wipeT e vs) ts u0).map fun q => .nx ((e.set x (some q.2)).set i (some (.lst q.1))) else none
end Fu
namespace Fu
open PySem L2 Mi
section
variable {e : FSt} {N C B : FSt → Prop} {R : T → Prop} {PT : T → Prop}
theorem sp_lcI {fi : FI} {G : List T → Option T} {x p : Nat} {fa : FA} {j : Nat} {vs : List Nat} {i : Nat} {N2 : FSt → Prop} {R2 : T → FSt → Prop} (h : Ok (fi e) fun ts => Ok (e.getD x none) fun u0 => ts.length ≤ 16777216 ∧ Ok (lcIT G x p j fa (wipeT e vs) ts u0) fun q => N2 ((e.set x (some q.2)).set i (some (.lst q.1)))) : SkP (fSetLcI fi G x p fa j vs i e) N2 R2 := by
  unfold fSetLcI
  revert h
  cases fi e with
  | none => exact fun h => h.elim
  | some ts =>
    cases e.getD x none with
    | none => exact fun h => h.elim
    | some u0 =>
      intro h
      have h : ts.length ≤ 16777216 ∧ _ := h
      show SkP (if ts.length ≤ 16777216 then _ else none) N2 R2
      rw [if_pos h.1]
      have h2 := h.2
      revert h2
      cases lcIT G x p j fa (wipeT e vs) ts u0 with
      | none => exact fun h => h.elim
      | some q => exact fun h => h
end
end Fu
namespace Mi
open PySem
open L2 hiding FnOk Room fn_of run_fnS run_fnSD pe_callS pe_callSD pe_make
end Mi
namespace Fu
open PySem L2 Mi
end Fu
namespace Fu
open PySem L2 Mi
end Fu
namespace Fu
open PySem L2 Mi
end Fu
namespace Mi
open PySem
open L2 hiding FnOk Room fn_of run_fnS run_fnSD pe_callS pe_callSD pe_make
end Mi
namespace Fu
open PySem L2 Mi
end Fu
namespace Fu
open PySem L2 Mi
section
variable {rs : Rk} {sh : Sh} {wr w w' wl : Ws} {A X : Nat → Prop} {h0 h h1 h' : DH} {own own1 own2 : Ow} {ds ds' : DSt} {e e' : FSt} {i : Nat} {b : SM} {sb : FS}
def Less (A : Nat → Prop) (own : Ow) (i : Nat) (m : Nat) : Prop := A m ∧ m ∉ own i
structure Out (w w' : Ws) (i : Nat) (sh : Sh) : Prop where
  hi : (i, sh) ∈ w
  sub : ∀ p ∈ w', p ∈ w ∧ p.1 ≠ i
  sup : ∀ p ∈ w, p.1 ≠ i → p ∈ w'
theorem Out.al (o : Out w w' i sh) (un : ∀ p ∈ w, ∀ q ∈ w, p.1 = q.1 → p = q) {own2 : Ow} (e2 : own2 i = own i) (e3 : ∀ p ∈ w', own2 p.1 = own1 p.1) (m : Nat) : Al A w own2 m ↔ Al (Less A own i) w' own1 m := by
  constructor
  · rintro ⟨a, k⟩
    exact ⟨⟨a, by rw [← e2]; exact k _ o.hi⟩, fun p hp => by rw [← e3 p hp]; exact k p (o.sub p hp).1⟩
  · rintro ⟨⟨a, b⟩, k⟩
    refine ⟨a, fun p hp => ?_⟩
    by_cases c : p.1 = i
    · rw [c, e2]; exact b
    · have := k p (o.sup p hp c)
      rw [e3 p (o.sup p hp c)]; exact this
/-- what was lent comes back -/
theorem Stp.back (r : Rel A X w own ds h e) (o : Out w w' i sh) (nw : Nw wr w own h0.length) {t : T} (ht : e.getD i none = some t)
    (s1 : Stp A X h0 wr w' own ds h w' own1 ds' h' e') (s2 : Stp (Less A own i) X h0 wr w' own ds h w' own2 ds' h' e') (fz : ds'.getD i none = ds.getD i none) (el : i < e'.length) :
    Stp A X h0 wr w own ds h w (fun j => if j = i then own i else own2 j) ds' h' (e'.set i (some t)) := by
  obtain ⟨nd, a1, t', d, a2, a3, a4⟩ := r.ow _ o.hi
  have a2 : e.getD i none = some t' := a2
  rw [a2] at ht
  cases ht
  have il := lt_of_getD a2
  have e3 : ∀ p ∈ w', (fun j => if j = i then own i else own2 j) p.1 = own2 p.1 := fun p hp => if_neg (o.sub p hp).2
  have al := fun m => o.al (A := A) (own := own) (own1 := own2) (own2 := fun j => if j = i then own i else own2 j) r.un (if_pos rfl) e3 m
  have keepAll : ∀ m o', (m ∈ own i ∨ Al A w own m) → h[m]? = some o' → h'[m]? = some o' := fun m o' hm q => s1.kin m o' (by
    rcases hm with hm | hm
    · exact ⟨(a1 m hm).2, fun p hp z => r.dj p (o.sub p hp).1 _ o.hi (o.sub p hp).2 m z hm⟩
    · exact ⟨hm.1, fun p hp => hm.2 p (o.sub p hp).1⟩) q
  have hA : ∀ m, Al A w own m → m < h.length → Al A w (fun j => if j = i then own i else own2 j) m := fun m a l => (al m).mpr ⟨⟨a.1, a.2 _ o.hi⟩, fun p hp z => by
    rcases s2.fresh p hp m z with q | ⟨q, hq, z⟩
    · omega
    · exact a.2 q (o.sub q hq).1 z⟩
  refine ⟨⟨fun m q => r.big m (Nat.le_trans s1.le q), s1.rel.bigX, fun p hp => ?_, fun p hp q hq n m hm => ?_, r.un, fun j u hj he => ?_, by rw [List.length_set]; exact s1.rel.len⟩, s1.k0, fun m o' am q => keepAll m o' (.inr am) q, fun p hp m hm => ?_, s1.le, fun p hp hq m hm => ?_, s1.fix⟩
  · by_cases c : p.1 = i
    · obtain rfl := r.un p hp _ o.hi c
      refine ⟨by rw [if_pos rfl]; exact nd, fun m hm => ?_, t, d, by rw [getD_set_eq el], by rw [fz]; exact a3, ?_⟩
      · rw [if_pos rfl] at hm; exact a1 m hm
      · rw [if_pos rfl]
        exact Od.mono hA (fun m o' am q => keepAll m o' (.inr am) q) _ _ _ _ (fun m hm o' q => keepAll m o' (.inl hm) q) a4
    · have hp' := o.sup p hp c
      obtain ⟨b0, b1, t2, d2, b2, b3, b4⟩ := s2.rel.ow p hp'
      rw [if_neg c]
      exact ⟨b0, fun m hm => ⟨(b1 m hm).1, (b1 m hm).2.1⟩, t2, d2, by rw [getD_set_ne (Ne.symm c)]; exact b2, b3, Od.mono (fun m a _ => (al m).mpr a) (KeepIn.refl _ _) _ _ _ _ (KeepS.refl _ _) b4⟩
  · by_cases c : p.1 = i
    · rw [if_pos c] at hm
      have c2 : q.1 ≠ i := fun z => n (c.trans z.symm)
      rw [if_neg c2]
      exact fun z => (s2.rel.ow q (o.sup q hq c2)).2.1 m z |>.2.2 hm
    · rw [if_neg c] at hm
      have hp' := o.sup p hp c
      by_cases c2 : q.1 = i
      · rw [if_pos c2]
        exact ((s2.rel.ow p hp').2.1 m hm).2.2
      · rw [if_neg c2]
        exact s2.rel.dj p hp' q (o.sup q hq c2) n m hm
  · have c : i ≠ j := fun z => hj _ o.hi z
    rw [getD_set_ne c] at he
    obtain ⟨d2, d3, d4⟩ := s2.rel.sh j u (fun p hp => hj p (o.sub p hp).1) he
    exact ⟨d2, d3, d4.sub fun m a _ => (al m).mpr a⟩
  · by_cases c : p.1 = i
    · rw [if_pos c] at hm
      exact .inr ⟨_, o.hi, hm⟩
    · rw [if_neg c] at hm
      rcases s2.fresh p (o.sup p hp c) m hm with q | ⟨q, hq, z⟩
      · exact .inl q
      · exact .inr ⟨q, (o.sub q hq).1, z⟩
  · by_cases c : p.1 = i
    · rw [if_pos c] at hm
      obtain rfl := r.un p hp _ o.hi c
      exact nw _ o.hi hq m hm
    · rw [if_neg c] at hm
      exact s2.nw p (o.sup p hp c) hq m hm
end
end Fu
namespace Fu
open PySem L2 Mi
mutual
def pureT : T → Bool
  | .tup ts => pureTs ts
  | .non => true
  | .bl _ => true
  | .int _ => true
  | .str _ => true
  | _ => false
def pureTs : List T → Bool
  | [] => true
  | t :: ts => pureT t && pureTs ts
end
section
variable {A B : Nat → Prop} {h : DH}
mutual
theorem pure_ind : ∀ (t : T) (d : D), pureT t = true → Val A h t d → Val B h t d
  | .tup ts, d, c, v => by
    simp only [Val] at v ⊢
    obtain ⟨xs, e, v⟩ := v
    exact ⟨xs, e, pures_ind ts xs (by simpa only [pureT] using c) v⟩
  | .non, d, _, v => val_non.mpr (val_non.mp v)
  | .bl _, d, _, v => val_bl.mpr (val_bl.mp v)
  | .int _, d, _, v => val_int.mpr (val_int.mp v)
  | .str _, d, _, v => val_str.mpr (val_str.mp v)
  | .lst _, d, c, _ => by simp only [pureT] at c; cases c
  | .fro _, d, c, _ => by simp only [pureT] at c; cases c
  | .dic _, d, c, _ => by simp only [pureT] at c; cases c
  | .obj _ _, d, c, _ => by simp only [pureT] at c; cases c
  | .dit _ _, d, c, _ => by simp only [pureT] at c; cases c
theorem pures_ind : ∀ (ts : List T) (ds : List D), pureTs ts = true → Vals A h ts ds → Vals B h ts ds
  | [], ds, _, v => v
  | t :: ts, ds, c, v => by
    simp only [pureTs, Bool.and_eq_true] at c
    simp only [Vals] at v ⊢
    obtain ⟨d, r, e, v1, v2⟩ := v
    exact ⟨d, r, e, pure_ind t d c.1 v1, pures_ind ts r c.2 v2⟩
end
end
end Fu
namespace Fu
open PySem L2 Mi
end Fu
namespace Fu
open PySem L2 Mi
end Fu
namespace Fu
open PySem L2 Mi
section
variable {A B X : Nat → Prop} {w wr wn wl : Ws} {own : Ow} {ds : DSt} {h h' h0 : DH} {e : FSt} {rs : Rk} {sh' : Sh} {i a b t : Nat} {mc : EM} {fc : FE}
theorem odl_pure (k : Keep h h') : ∀ {us : List T} {xs : List D}, pureTs us = true → Vals A h us xs → OdL (Od B h' .s) us xs []
  | [], xs, _, v => ⟨by simpa only [Vals] using v, rfl⟩
  | u :: us, xs, c, v => by
    simp only [pureTs, Bool.and_eq_true] at c
    simp only [Vals] at v
    obtain ⟨d, ds, e, v1, v2⟩ := v
    refine ⟨d, ds, [], [], e, rfl, ?_, odl_pure k c.2 v2⟩
    simp only [Od]
    exact ⟨trivial, pure_ind u d c.1 (Val.keep v1 k)⟩
end
end Fu
namespace Fu
open PySem L2 Mi
end Fu
namespace Mi
open PySem PySem.Spec PyProof.Rows L2
section
variable {G : Cw} {X : Cx} {W : WX} {pos p p1 p2 : Pos}
structure BaseC (K : PySem.W.Frag) (mg : Str → Option Value) (B : Str) : Prop where
  ex : ∃ (Bc : Addr) (mc : Value), mg B = some (.ref Bc) ∧ PySem.W.specialIn K (.ref Bc) "__getattribute__" = some (some (.builtin "type.__getattribute__")) ∧ PySem.W.readsIn K Bc mc = true ∧
    PySem.W.findCls K (.ref Bc) mc "__init__" = some (.val (.builtin "ValueError.__init__"))
theorem pe_oeinit {B : Str} {e : Expr} {es : List Expr} {ta : TA} {pl : Sem Bool} (T : BaseC X.K X.mg B) (hg : Gl X B) (ha : PA X (e :: es) ta) (hd : (B == ("__debug__" : Str)) = false := by decide)
    (hev : eval (.Call (.Attribute (.Name B p1) "__init__" p2) (e :: es) [] pos) X.env = (do
      let ov ← eval (.Name B p1) X.env
      standAt p2.atName
      let x ← holding [ov] (getMethod ov "__init__" pl)
      match x with
        | (f, first) => callWith pos f first (backTo pos (starEach (e :: es) X.env)) (backToKw pos (keywordEach [] X.env))) := by rfl)
    (he : starEach (e :: es) X.env = (false, eval e X.env) :: starEach es X.env := by rfl) (hpl : ((backTo pos (starEach es X.env)).any fun x => x.fst) = false := by rfl) :
    PE X (.Call (.Attribute (.Name B p1) "__init__" p2) (e :: es) [] pos) (tVeI X.K ta) := by
  obtain ⟨Bc, mc, hm, hs, hr, hf⟩ := T.ex
  refine ⟨fun pins s σ H Q I h => ?_⟩
  refine W.methodCall_KW (pl := pl) (ld_glob I hg hm ?_ hd) hev
  refine W.method_cls I.kIn hs ?_
  refine W.cls_value I.kIn hr hf rfl ?_
  refine callWith_method1 (thn (ha.run pos pins _ σ H _ (I.tok _) h) fun us s1 hh => ?_) he hpl
  obtain ⟨vs, H1, I1, r1, a, C, ws, e1, hl, oc, hx, q⟩ := hh
  subst e1
  cases r1 with
  | cons rv rn =>
    rename_i u us'
    cases rv
    have hl' : us'.length ≤ sizeLine := by
      rw [sizeLine_eq, ← rn.length]; omega
    exact oinit_ok oc I1 hx hl' fun s' I' => ⟨.non, _, I', rfl, q⟩
def rIsX (K : PySem.W.Frag) (cls : Value) (d : Option Addr) (a D : Addr) (xs : List V) (H : Hp) (Q : VK) : Prop :=
  ∃ dd ws c cv b, cls = .ref D ∧ d = some dd ∧ H dd = some (.xd ws) ∧ xs = [.ref a, c] ∧ (∀ u, RelV c u → u = cv) ∧ PySem.W.kitOne K (.ref D) cv = some b ∧ Q (.bl b) H
theorem call_isX {a D : Addr} {oe : Obj} {cls : Value} {d : Option Addr} {pn : List (Addr × Obj)} (C : ExcC X.K D) (cl : (PySem.W.clsIn X.K D).isSome = true) (hz : Zc cls d oe) (hf : ∃ vs, oe.data = .fields vs) :
    CallR (X.suite a ((a, oe) :: pn)) (.builtin "isinstance") (rIsX X.K cls d a D) := by
  intro pins s σ H xs us Q I vr ⟨dd, ws, c, cv, b, ec, ed, hx, e1, hu, hk, q⟩
  subst e1
  subst ec
  subst ed
  cases vr with
  | cons r1 vr =>
    cases vr with
    | cons r2 vr =>
      cases vr
      cases r1
      rename_i u
      have eu := hu _ r2
      subst eu
      obtain ⟨mA, ns, _⟩ := (show ∃ mA, s.heap.Ns1 dd mA ∧ ∀ f : Str, RelO (List.lookup f ws) (mA f) from I.hok dd _ hx)
      obtain ⟨od, es, ep, hd, _⟩ := ns
      obtain ⟨vs, hv⟩ := hf
      have at_ := (I.pin (a, oe) (List.mem_append_left _ (List.mem_cons_self))).1
      refine PySem.W.kia_one (PySem.W.kitx_exc (ox := oe) (od := some od) cl C.hg C.hk C.hs C.ha C.hn C.ht C.hm) I.kIn ⟨at_, hz.1, ?_, ?_⟩ hk (by intro z; cases z) fun tk => ⟨.bl b, _, I.tok _, rfl, q⟩
      · unfold PySem.W.notCls; rw [hv]
      · rw [hz.2]; exact hd
def SmallV (x : V) : Prop := (∃ y : Str, x = .str y ∧ y.length ≤ 2000) ∨ ∃ i : Int, x = .int i ∧ i.natAbs.log2 < 1920 ∧ (Str.ofString (toString i)).length ≤ 2000
theorem js_ok {σ : L2.St} {H : Hp} {Q : Str → Hp → Prop} (q : ∀ out, Q out H) : ∀ (ts : List TE) (acc : Str), (∀ t ∈ ts, ∃ y : Str, y.length ≤ 2000 ∧ ∀ R : VK, R (.str y) H → t σ H R) → acc.length + 2000 * ts.length ≤ 16777216 → tJs ts acc σ H Q
  | [], acc, _, _ => q acc
  | t :: ts, acc, ht, hl => by
    obtain ⟨y, hy, hr⟩ := ht t (by simp)
    show t σ H _
    refine hr _ ⟨y, rfl, ?_, ?_⟩
    · rw [sizeLine_eq, strLen_append]
      simp only [List.length_cons] at hl
      omega
    · refine js_ok q ts _ (fun t' h' => ht t' (by simp [h'])) ?_
      rw [strLen_append]
      simp only [List.length_cons] at hl
      omega
def spE1 (K : PySem.W.Frag) (f : Str) : Sp := fun vs H Q E =>
  ∃ a C x, vs = [.ref a, x] ∧ OexC K C ∧ PySem.W.findIn K (.ref C) f = some none ∧ H a = some (exo a C none) ∧ SmallV x ∧ ∀ dx, H dx = none → dx ≠ a → Q .non (upd (upd H dx (exd dx [(f, x)])) a (exo a C (some dx)))
theorem fmt_small {x : V} {σ : L2.St} {H : Hp} {te : TE} (s : SmallV x) (ht : ∀ R : VK, R x H → te σ H R) : ∃ y : Str, y.length ≤ 2000 ∧ ∀ R : VK, R (.str y) H → tFmt te σ H R := by
  rcases s with ⟨y, rfl, hy⟩ | ⟨i, rfl, hi, hy⟩
  · exact ⟨y, hy, fun R r => ht _ (.inl ⟨y, rfl, by rw [sizeLine_eq]; omega, r⟩)⟩
  · exact ⟨_, hy, fun R r => ht _ (.inr ⟨i, rfl, hi, r⟩)⟩
/-- the body's reading -/
theorem init1_reads {K : PySem.W.Frag} {f : Str} {ts : List TE} {σ : L2.St} {H : Hp} {D : Ends} {a C : Addr} {x : V} (hs : σ[0]? = some (some (.ref a))) (hx : σ[1]? = some (some x)) (oc : OexC K C) (nf : PySem.W.findIn K (.ref C) f = some none)
    (ha : H a = some (exo a C none)) (ht : ∀ t ∈ ts, ∃ y : Str, y.length ≤ 2000 ∧ ∀ R : VK, R (.str y) H → t σ H R) (hl : ts.length ≤ 10)
    (q : ∀ dx, H dx = none → dx ≠ a → D.nx σ (upd (upd H dx (exd dx [(f, x)])) a (exo a C (some dx)))) :
    tSeq (tDrop (tVeI K (tCons (tVar 0) (tCons (fun σ H Q => tJs ts Str.empty σ H fun out H1 => Q (.str out) H1) tNil)))) (tOst K f (tVar 0) (tVar 1)) D σ H := by
  refine ⟨.ref a, hs, ?_⟩
  refine js_ok (fun out => ?_) ts Str.empty ht (by show 0 + 2000 * ts.length ≤ _; omega)
  refine ⟨a, C, [.str out], rfl, by simp, oc, ha, ?_⟩
  refine ⟨x, hx, ?_⟩
  exact ⟨.ref a, hs, a, C, rfl, oc, nf, .inl ⟨ha, q⟩⟩
def smallD : D → Bool
  | .str y => decide (y.length ≤ 2000)
  | .int i => decide (i.natAbs.log2 < 1920 ∧ (Str.ofString (toString i)).length ≤ 2000)
  | _ => false
def sRz1 (c : Nat) (f : Str) (m : EM) : SM := fun ds h => (m ds h).st ds fun d h1 => if smallD d = true then .exc ⟨c, [(f, d)]⟩ ds h1 else .no
theorem small_V {μ : List Addr} {H : Hp} {d : D} {v : V} (r : RV G μ H d v) (s : smallD d = true) : SmallV v := by
  cases d with
  | str y => simp only [RV] at r; exact .inl ⟨y, r, by simpa [smallD] using s⟩
  | int i => simp only [RV] at r; exact .inr ⟨i, r, by simpa [smallD] using s⟩
  | _ => cases s
theorem sm_rz1 {CXx : CXT} {x f : Str} {C fI : Addr} {k c : Nat} {fd : FuncData} {ps : List Str} {e : Expr} {m : EM} {pos2 : Pos} (calm : X.calm = true) (tk : Takes X W) (T : OexC X.K C)
    (iC : PySem.W.findIn X.K (.ref C) "__init__" = some (some (.ref fI))) (tI : PySem.W.typeIn X.K (.ref fI) = some (.type "function")) (F1 : L2.FnOk X.prog X.w X.K X.mg X.base CXx k fI fd ps (spE1 X.K f)) (room : L2.Room (k + 1) X.A)
    (b : Binds X.K fd ps []) (out : Passes CXx X (fun _ _ _ => False)) (gl : Gl X x) (hm : X.mg x = some (.ref C)) (hC : C = G.cad c) (nf : PySem.W.findIn X.K (.ref C) f = some none) (he : PE X e (tE G W m))
    (hd : (x == ("__debug__" : Str)) = false := by decide) (h1 : starEach [e] X.env = (false, eval e X.env) :: starEach [] X.env := by rfl) (h2 : ((backTo pos (starEach [] X.env)).any fun x => x.fst) = false := by rfl) :
    PS X (.Raise (some (.Call (.Name x p) [e] [] pos)) none pos2) (tS G W (sRz1 c f m)) :=
  (ps_raise calm tk (pmk_oex T iC tI F1 room b .nil out gl hm (pa_cons he pa_nil h1) hd h1 h2)).imp fun E σ H ⟨μ, ds, h, w, rs, p⟩ => by
    refine ⟨μ, ds, h, w, rs, post_st p fun d h1 μ1 v H1 e1 w1 r1 p1 => ?_⟩
    by_cases s : smallD d = true
    · simp only [s, if_true] at p1
      refine ⟨by simp, fun a ha => ⟨a, C, v, rfl, T, nf, by simp [upd], small_V r1 s, fun dx hd hne => ⟨rfl, dx, [(f, v)], ?_, ?_, ?_, ?_⟩⟩⟩
      · simp [upd]
      · simp [upd, hne]
      · simpa [upd, hne] using hd
      · have hx : H1 dx = none := by simpa [upd, hne] using hd
        have eq : upd (del (upd (upd (upd H1 a (exo a C none)) dx (exd dx [(f, v)])) a (exo a C (some dx))) a) dx (.xd [(f, v)]) = upd H1 dx (.xd [(f, v)]) := by
          funext z
          by_cases z1 : z = dx
          · subst z1; simp [upd]
          · by_cases z2 : z = a
            · subst z2; simp [upd, del, z1, ha]
            · simp [upd, del, z1, z2]
        rw [eq]
        have ex : Ext G μ1 H1 μ1 (upd H1 dx (.xd [(f, v)])) := ext_new hx
        refine p1 μ1 σ _ _ _ ex (w1.new hx) (rs.mono (e1.trans ex)) ⟨by rw [hC], dx, [(f, v)], rfl, by simp [upd], rfl, ?_⟩
        exact RVs.cons (RV.mono ex _ _ r1) RVs.nil
    · simp only [s, if_false] at p1
      exact p1.elim
/-- the __init__ keeps its promise -/
def prt : Option Str → TE
  | some y => L2.tC (.str y)
  | none => tFmt (tVar 1)
def prtOk : Option Str → Bool
  | some y => decide (y.length ≤ 2000)
  | none => true
theorem init1_fn {P : Program} {w : World} {K : PySem.W.Frag} {mg : Str → Option Value} {base : Heap} {x qual : Str} {st : Stmt} {f : Addr} {fd : FuncData} {fld n : Str} (parts : List (Option Str)) (F : Fun K x qual st f fd)
    (S : FnScope ["self", n] ["self", n] (defScope st)) (hp : parts.all prtOk = true) (hl : parts.length ≤ 10)
    (hb : ∀ (cdv : Value) (A : Around) (outer : List Env) (s : Shared) (H : Hp) (E : XK), PSs (cxOf (L2.CX P w) P w K mg base ["self", n] qual (defScope st) f cdv A outer s H E) (defBody st)
      (tSeq (tDrop (tVeI K (tCons (tVar 0) (tCons (fun σ H Q => tJs (parts.map prt) Str.empty σ H fun out H1 => Q (.str out) H1) tNil)))) (tOst K fld (tVar 0) (tVar 1)))) :
    L2.FnOk P w K mg base (L2.CX P w) 1 f fd ["self", n] (spE1 K fld) := by
  obtain ⟨oc, od, kV, doc, pm, an, cdv, ct, osl, rfl, lk, hcd⟩ := F.ex
  refine L2.fn_of lk hcd S (fun vs H Q E ⟨a, C, x, e, _⟩ => by rw [e]; rfl) fun A outer s H vs Q E hr h => ⟨_, hb cdv A outer s H E, ?_⟩
  obtain ⟨a, C, x, rfl, oc, nf, ha, sm, q⟩ := h
  refine init1_reads (σ := L2.start ["self", n] [.ref a, x]) rfl rfl oc nf ha (fun t ht => ?_) (by simpa using hl) q
  obtain ⟨p, hp1, rfl⟩ := List.mem_map.mp ht
  cases p with
  | some y => exact ⟨y, of_decide_eq_true (List.all_eq_true.mp hp _ hp1), fun R r => r⟩
  | none => exact fmt_small (te := tVar 1) sm fun R r => ⟨x, rfl, r⟩
inductive SuO where
  | ret (d : D) | set (j : Nat) (d : D) | nx
def sTry (c : Nat → Option Bool) (i : Nat) (b : SM) (su : DX → Option SuO) : SM := fun ds h => match b ds h with
  | .exc e ds1 h1 => match c e.cls with
    | some true => if i < ds1.length then (match su e with
      | some (.ret d) => .rt d h1
      | some (.set j d) => .nx (((ds1.set i none).set j (some d)).set i none) h1
      | some .nx => .nx ((ds1.set i none).set i none) h1
      | none => .no) else .no
    | some false => .exc e ds1 h1
    | none => .no
  | r => r
structure Sus (G : Cw) (i : Nat) (a : Addr) (cls : Value) (d : Option Addr) (μ : List Addr) (ds : DSt) (h : DH) (x : DX) (σ : L2.St) (H : Hp) : Prop where
  wd : Wd G μ h H
  rs : RSt G μ H ds σ
  at_ : σ[i]? = some (some (.ref a))
  rx : RX G μ H x cls d
theorem RX.mono {μ μ' : List Addr} {H H' : Hp} {x : DX} {cls : Value} {d : Option Addr} (e : Ext G μ H μ' H') (r : RX G μ H x cls d) : RX G μ' H' x cls d := by
  obtain ⟨r1, dd, ws, r2, r3, r4, r5⟩ := r
  exact ⟨r1, dd, ws, r2, e.xd _ _ r3, r4, RVs.mono e _ _ r5⟩
theorem Sus.mono {i : Nat} {a : Addr} {cls : Value} {d : Option Addr} {μ μ' : List Addr} {ds : DSt} {h : DH} {x : DX} {σ : L2.St} {H H' : Hp} (s : Sus G i a cls d μ ds h x σ H) (e : Ext G μ H μ' H') (w : Wd G μ' h H') : Sus G i a cls d μ' ds h x σ H' :=
  ⟨w, s.rs.mono e, s.at_, s.rx.mono e⟩
def endQ (G : Cw) (μ : List Addr) (H : Hp) (h : DH) (σ : L2.St) (E : Ends) (o : SuO) : Prop := match o with
  | .ret dv => ∀ μ' v H', Ext G μ H μ' H' → Wd G μ' h H' → RV G μ' H' dv v → E.rt v H'
  | .set j dv => ∀ μ' v H', Ext G μ H μ' H' → Wd G μ' h H' → RV G μ' H' dv v → E.nx (σ.set j (some v)) H'
  | .nx => ∀ μ' H', Ext G μ H μ' H' → Wd G μ' h H' → E.nx σ H'
def tQ (G : Cw) (i : Nat) (a : Addr) (cls : Value) (d : Option Addr) (su : DX → Option SuO) : TS := fun E σ H =>
  ∃ μ ds h x o, Sus G i a cls d μ ds h x σ H ∧ su x = some o ∧ endQ G μ H h σ E o
theorem sm_try {x n : Str} {cv : Value} {i : Nat} {cf : Nat → Option Bool} {body suite : List Stmt} {b₀ : Stmt} {np pos' : Pos} {b : SM} {su : DX → Option SuO} (hs : X.stack = X.env :: X.outer) (hfr : X.env.frame = some X.env.locals) (nd : X.N.Nodup)
    (hi : X.N[i]? = some n) (hk : X.env.kindOf n = some .local) (hn : Names X x cv) (tk : Takes X W) (hc : ∀ k b, cf k = some b → PySem.W.exmOne X.K (.ref (G.cad k)) cv = some b)
    (hb : ∀ (W' : WX) (pn : List (Addr × Obj)) (xe : Value → Shared → Prop), Takes (X.tr pn xe) W' → PassesOwn (model X.prog X.w) X.A X.env xe → PSs (X.tr pn xe) body (tS G W' b))
    (hsu : ∀ (a : Addr) (oe : Obj) (cls : Value) (d : Option Addr) (pn : List (Addr × Obj)), Zc cls d oe → (∃ vs, oe.data = .fields vs) → PSs (X.suite a ((a, oe) :: pn)) (b₀ :: suite) (tQ G i a cls d su)) :
    PS X (.Try body [.ExceptHandler (some (.Name x np)) (some n) (b₀ :: suite) pos'] [] [] pos) (tS G W (sTry cf i b su)) :=
  (ps_try_as hs hfr nd hi hk hn tk hb hsu).imp fun E σ H ⟨μ, ds, h, w, rs, p⟩ => by
    refine ⟨μ, ds, h, w, rs, ?_⟩
    unfold sTry at p
    cases q : b ds h with
    | exc e ds1 h1 =>
      rw [q] at p
      simp only at p
      intro μ1 σ1 cls d H1 e1 w1 r1 rx
      have ec := rx.1
      cases qc : cf e.cls with
      | none => rw [qc] at p; exact p.elim
      | some bb =>
        rw [qc] at p
        refine ⟨bb, by rw [ec]; exact hc _ _ qc, fun eb a ha => ?_, fun eb => ?_⟩
        · subst eb
          simp only at p
          by_cases hl : i < ds1.length
          · rw [if_pos hl] at p
            have r2 := r1.unset i (some (.ref a))
            have su1 : Sus G i a cls d μ1 (ds1.set i none) h1 e (σ1.set i (some (.ref a))) H1 := ⟨w1, r2, List.getElem?_set_self (by rw [← r1.len]; exact hl), rx⟩
            cases qs : su e with
            | none => rw [qs] at p; exact p.elim
            | some o =>
              rw [qs] at p
              cases o with
              | ret dv => exact ⟨μ1, _, h1, e, _, su1, qs, fun μ2 v H2 e2 w2 rv => p μ2 v H2 (e1.trans e2) w2 rv⟩
              | set j dv => exact ⟨μ1, _, h1, e, _, su1, qs, fun μ2 v H2 e2 w2 rv => p μ2 _ H2 (e1.trans e2) w2 (((r2.mono e2).set j rv).unset i none)⟩
              | nx => exact ⟨μ1, _, h1, e, _, su1, qs, fun μ2 H2 e2 w2 => p μ2 _ H2 (e1.trans e2) w2 ((r2.mono e2).unset i none)⟩
          · rw [if_neg hl] at p; exact p.elim
        · subst eb
          exact p μ1 σ1 cls d H1 e1 w1 r1 rx
    | _ => rw [q] at p; exact p
end
section
variable {G : Cw} {Y : Cx} {pos p p1 p2 : Pos} {i : Nat} {a : Addr} {cls : Value} {d : Option Addr}
def tQE (G : Cw) (i : Nat) (a : Addr) (cls : Value) (d : Option Addr) (f : DX → Option D) : TE := fun σ H Q =>
  ∃ μ ds h x dv, Sus G i a cls d μ ds h x σ H ∧ f x = some dv ∧ ∀ μ' v H', Ext G μ H μ' H' → Wd G μ' h H' → RV G μ' H' dv v → Q v H'
def tQA (G : Cw) (i : Nat) (a : Addr) (cls : Value) (d : Option Addr) (f : DX → Option (List D)) : TA := fun σ H Q =>
  ∃ μ ds h x dv, Sus G i a cls d μ ds h x σ H ∧ f x = some dv ∧ ∀ μ' v H', Ext G μ H μ' H' → Wd G μ' h H' → RVs G μ' H' dv v → Q v H'
def tQT (G : Cw) (i : Nat) (a : Addr) (cls : Value) (d : Option Addr) (g : DX → Option Bool) : TT := fun σ H Q =>
  ∃ μ ds h x b, Sus G i a cls d μ ds h x σ H ∧ g x = some b ∧ ∀ μ' H', Ext G μ H μ' H' → Wd G μ' h H' → Q b H'
theorem q_lift {e : Expr} {m : EM} {dv : D} (he : PE Y e (tE G WF m)) (hm : ∀ ds h, m ds h = .ok dv h) : PE Y e (tQE G i a cls d fun _ => some dv) := he.imp fun σ H Q ⟨μ, ds, h, x, dv', s, e1, q⟩ =>
  ⟨μ, ds, h, s.wd, s.rs, by cases e1; rw [hm]; exact fun μ' v H' ex w r => q μ' v H' ex w r⟩
theorem q_fld {X : Cx} {pn : List (Addr × Obj)} {oe : Obj} {c : Nat} {n f : Str} (T : XfC X.K (G.cad c)) (nf : PySem.W.findIn X.K (.ref (G.cad c)) f = some none) (hz : Zc cls d oe) (hf : ∃ vs, oe.data = .fields vs)
    (he : PE (X.suite a ((a, oe) :: pn)) (.Name n p) (tVar i)) (hb : attributeBase (.Name n p) f X.env (eval (.Name n p) X.env) = eval (.Name n p) X.env := by rfl) :
    PE (X.suite a ((a, oe) :: pn)) (.Attribute (.Name n p) f pos) (tQE G i a cls d fun x => if x.cls = c then x.fs.lookup f else none) := (pe_xf T nf hz hf he hb).imp fun σ H Q ⟨μ, ds, h, x, dv, s, e1, q⟩ => by
  by_cases hc : x.cls = c
  · simp only [hc, if_true] at e1
    obtain ⟨r1, dd, ws, r2, r3, r4, r5⟩ := s.rx
    obtain ⟨v, h1, h2⟩ := RVs.look r4 r5 e1
    exact ⟨.ref a, s.at_, rfl, by rw [r1, hc], dd, ws, v, r2, r3, h1, q μ v H Ext.refl s.wd h2⟩
  · simp only [hc, if_false] at e1
    cases e1
theorem q_isx {X : Cx} {pn : List (Addr × Obj)} {oe : Obj} {c : Nat} {b : Bool} {n : Str} {e2 : Expr} {cv : V} {u : Value} (C : ExcC X.K (G.cad c)) (cl : (PySem.W.clsIn X.K (G.cad c)).isSome = true) (hz : Zc cls d oe) (hf : ∃ vs, oe.data = .fields vs)
    (hu : ∀ w, RelV cv w → w = u) (hk : PySem.W.kitOne X.K (.ref (G.cad c)) u = some b) (gl : Gl X "isinstance") (hm : X.mg "isinstance" = none)
    (he : PE (X.suite a ((a, oe) :: pn)) (.Name n p) (tVar i)) (h2 : PE (X.suite a ((a, oe) :: pn)) e2 (L2.tC cv))
    (hs1 : starEach [.Name n p, e2] X.env = (false, eval (.Name n p) X.env) :: starEach [e2] X.env := by rfl) (hs2 : starEach [e2] X.env = (false, eval e2 X.env) :: starEach [] X.env := by rfl)
    (hpl : ((backTo pos (starEach [e2] X.env)).any fun x => x.fst) = false := by rfl) :
    PE (X.suite a ((a, oe) :: pn)) (.Call (.Name "isinstance" p1) [.Name n p, e2] [] pos) (tQE G i a cls d fun x => if x.cls = c then some (.bl b) else none) :=
  (pe_callB (call_isX C cl hz hf) gl hm PyProof.Rows.boot_isinstance (pa_cons he (pa_cons h2 pa_nil hs2) hs1) (by decide) (by decide) hs1 hpl).imp fun σ H Q ⟨μ, ds, h, x, dv, s, e1, q⟩ => by
  by_cases hc : x.cls = c
  · simp only [hc, if_true] at e1
    cases e1
    obtain ⟨r1, dd, ws, r2, r3, r4, r5⟩ := s.rx
    exact ⟨.ref a, s.at_, dd, ws, cv, u, b, by rw [r1, hc], r2, r3, rfl, hu, hk, q μ _ H Ext.refl s.wd (by simp only [RV])⟩
  · simp only [hc, if_false] at e1
    cases e1
/-- a plain thing's type -/
def tyPl : D → Option Ty
  | .non => some .non
  | .bl _ => some .bool
  | .int _ => some .int
  | .str _ => some .str
  | _ => none
theorem tyPl_D {x : D} {S : Ty} (h : DH) (e : tyPl x = some S) : tyD x h = some S := by cases x <;> first | exact e | cases e
theorem q_isi {e : Expr} {T : Ty} {f : DX → Option D} (hK : Y.K = G.K) (h : PE Y e (tCB (rIsi Y.K) (L2.tCons (tQE G i a cls d f) (L2.tCons (L2.tC (.ty T.nm)) L2.tNil)))) :
    PE Y e (tQE G i a cls d fun x => (f x).bind fun dv => (tyPl dv).map fun S => .bl (subTy S T)) := h.imp fun σ H Q ⟨μ, ds, h, x, dv, s, e1, q⟩ => by
  cases q1 : f x with
  | none => simp only [q1] at e1; cases e1
  | some dv1 =>
    simp only [q1, Option.bind_some] at e1
    cases q2 : tyPl dv1 with
    | none => rw [q2] at e1; cases e1
    | some S =>
      rw [q2] at e1
      cases e1
      refine ⟨μ, ds, h, x, dv1, s, q1, fun μ1 v H1 ex w r => ?_⟩
      rw [hK]
      exact ⟨v, .ty T.nm, .type S.nm, .type T.nm, subTy S T, rfl, .ty _, tyD_ok w r (tyPl_D _ q2), kit_ty (kit_sub S T), q μ1 _ H1 ex w (by simp only [RV])⟩
theorem qa_nil : PA Y [] (tQA G i a cls d fun _ => some []) := pa_nil.imp fun σ H Q ⟨μ, ds, h, x, dv, s, e1, q⟩ => by cases e1; exact q μ [] H Ext.refl s.wd RVs.nil
theorem qa_cons {e : Expr} {es : List Expr} {f : DX → Option D} {g : DX → Option (List D)} (he : PE Y e (tQE G i a cls d f)) (hs : PA Y es (tQA G i a cls d g)) (h : starEach (e :: es) Y.env = (false, eval e Y.env) :: starEach es Y.env := by rfl) :
    PA Y (e :: es) (tQA G i a cls d fun x => (f x).bind fun y => (g x).map fun ys => y :: ys) := (pa_cons he hs h).imp fun σ H Q ⟨μ, ds, h, x, dv, s, e1, q⟩ => by
  cases q1 : f x with
  | none => simp only [q1] at e1; cases e1
  | some y =>
    simp only [q1, Option.bind_some] at e1
    cases q2 : g x with
    | none => rw [q2] at e1; cases e1
    | some ys =>
      rw [q2] at e1
      cases e1
      exact ⟨μ, ds, h, x, y, s, q1, fun μ1 v H1 ex1 w1 r1 => ⟨μ1, ds, h, x, ys, s.mono ex1 w1, q2, fun μ2 vs H2 ex2 w2 r2 => q μ2 _ H2 (ex1.trans ex2) w2 (RVs.cons (RV.mono ex2 _ _ r1) r2)⟩⟩
theorem q_tup {es : List Expr} {x1 : Nat} {f : DX → Option (List D)} (h : PA Y es (tQA G i a cls d f)) : PE Y (.Tuple es x1 pos) (tQE G i a cls d fun x => (f x).bind fun ys => if ys.length ≤ 16777216 then some (.tup ys) else none) :=
  (pe_tup h).imp fun σ H Q ⟨μ, ds, h, x, dv, s, e1, q⟩ => by
  cases q1 : f x with
  | none => simp only [q1] at e1; cases e1
  | some ys =>
    simp only [q1, Option.bind_some] at e1
    by_cases hl : ys.length ≤ 16777216
    · rw [if_pos hl] at e1
      cases e1
      refine ⟨μ, ds, h, x, ys, s, q1, fun μ1 vs H1 ex1 w1 r1 => ⟨by rw [sizeLine_eq, ← r1.length]; exact hl, fun p hp => ?_⟩⟩
      have ex2 : Ext G μ1 H1 μ1 (upd H1 p (.tup vs)) := ext_new hp
      exact q μ1 _ _ (ex1.trans ex2) (w1.new hp) (by
        simp only [RV]
        exact ⟨p, vs, rfl, SqX.of (by simp [upd]), RVs.mono ex2 _ _ r1⟩)
    · rw [if_neg hl] at e1; cases e1
variable {f : DX → Option D} {g g1 g2 : DX → Option Bool} {e e2 : Expr} {rest : List Expr}
theorem q_val (he : PE Y e (tQE G i a cls d f)) (h : ∀ whole, isTrue e Y.env whole = (do let v ← whole; standAt e.pos; holding [v] (truthy v)) := by intro _; rfl) :
    PT Y e (tQT G i a cls d fun x => match f x with | some (.bl b) => some b | _ => none) := (pt_val he h).imp fun σ H Q ⟨μ, ds, h, x, b, s, e1, q⟩ => by
  cases q1 : f x with
  | none => simp only [q1] at e1; cases e1
  | some y =>
    cases y with
    | bl b2 =>
      simp only [q1] at e1
      cases e1
      exact ⟨μ, ds, h, x, _, s, q1, fun μ1 v H1 ex1 w1 r1 => by simp only [RV] at r1; exact ⟨b, r1, q μ1 H1 ex1 w1⟩⟩
    | _ => simp only [q1] at e1; cases e1
theorem q_not (h : PT Y e (tQT G i a cls d g)) : PT Y (.UnaryOp .Not e pos) (tQT G i a cls d fun x => (g x).map (!·)) := (pt_not h).imp fun σ H Q ⟨μ, ds, h, x, b, s, e1, q⟩ => by
  cases q1 : g x with
  | none => simp only [q1] at e1; cases e1
  | some y =>
    simp only [q1] at e1
    cases e1
    exact ⟨μ, ds, h, x, y, s, q1, fun μ1 H1 ex1 w1 => q μ1 H1 ex1 w1⟩
theorem qw_or1 (h : PT Y e (tQT G i a cls d g)) : PW Y (.BoolOp .Or [e] pos) (tQT G i a cls d g) := pw_or1 h
theorem qw_or (h1 : PT Y e (tQT G i a cls d g1)) (h2 : PW Y (.BoolOp .Or (e2 :: rest) pos) (tQT G i a cls d g2)) :
    PW Y (.BoolOp .Or (e :: e2 :: rest) pos) (tQT G i a cls d fun x => (g1 x).bind fun b => if b = true then some true else g2 x) := (pw_or h1 h2).imp fun σ H Q ⟨μ, ds, h, x, b, s, e1, q⟩ => by
  cases q1 : g1 x with
  | none => simp only [q1] at e1; cases e1
  | some b1 =>
    simp only [q1, Option.bind_some] at e1
    refine ⟨μ, ds, h, x, b1, s, q1, fun μ1 H1 ex1 w1 => ?_⟩
    cases b1 with
    | true => simp only [if_true] at e1; cases e1; exact q μ1 H1 ex1 w1
    | false => exact ⟨μ1, ds, h, x, b, s.mono ex1 w1, by simpa using e1, fun μ2 H2 ex2 w2 => q μ2 H2 (ex1.trans ex2) w2⟩
theorem q_bool (h : PW Y e (tQT G i a cls d g)) : PT Y e (tQT G i a cls d g) := h.pt
variable {sa sr : DX → Option SuO} {A B : List Stmt} {st : Stmt}
theorem qs_ret (he : PE Y e (tQE G i a cls d f)) : PS Y (.Return (some e) pos) (tQ G i a cls d fun x => (f x).map .ret) := (ps_ret he).imp fun E σ H ⟨μ, ds, h, x, o, s, e1, q⟩ => by
  cases q1 : f x with
  | none => simp only [q1] at e1; cases e1
  | some y =>
    simp only [q1] at e1
    cases e1
    exact ⟨μ, ds, h, x, y, s, q1, q⟩
theorem qs_one (h : PS Y st (tQ G i a cls d sa)) : PSs Y [st] (tQ G i a cls d sa) := pss_one h
theorem qs_nil : PSs Y [] (tQ G i a cls d fun _ => some .nx) := pss_nil.imp fun E σ H ⟨μ, ds, h, x, o, s, e1, q⟩ => by cases e1; exact q μ H Ext.refl s.wd
theorem tQ_at {su : DX → Option SuO} {E : Ends} {σ : L2.St} {H H1 : Hp} {μ μ1 : List Addr} {ds : DSt} {h : DH} {x : DX} {o : SuO} (s : Sus G i a cls d μ ds h x σ H) (e1 : su x = some o) (ex1 : Ext G μ H μ1 H1) (w1 : Wd G μ1 h H1) (q : endQ G μ H h σ E o) : tQ G i a cls d su E σ H1 := by
  refine ⟨μ1, ds, h, x, o, s.mono ex1 w1, e1, ?_⟩
  cases o with
  | ret dv => exact fun μ2 v H2 e2 => q μ2 v H2 (ex1.trans e2)
  | set j dv => exact fun μ2 v H2 e2 => q μ2 v H2 (ex1.trans e2)
  | nx => exact fun μ2 H2 e2 => q μ2 H2 (ex1.trans e2)
theorem qs_if (hc : PT Y e (tQT G i a cls d g)) (hA : PSs Y A (tQ G i a cls d sa)) (hB : PSs Y B (tQ G i a cls d sr)) : PS Y (.If e A B pos) (tQ G i a cls d fun x => (g x).bind fun b => if b = true then sa x else sr x) := (ps_if hc hA hB).imp fun E σ H ⟨μ, ds, h, x, o, s, e1, q⟩ => by
  cases q1 : g x with
  | none => simp only [q1] at e1; cases e1
  | some b1 =>
    simp only [q1, Option.bind_some] at e1
    refine ⟨μ, ds, h, x, b1, s, q1, fun μ1 H1 ex1 w1 => ?_⟩
    cases b1 with
    | true => exact tQ_at s (by simpa using e1) ex1 w1 q
    | false => exact tQ_at s (by simpa using e1) ex1 w1 q
/-- what follows runs where the first says nothing -/
theorem qs_cons (h1 : PS Y st (tQ G i a cls d sa)) (h2 : PSs Y B (tQ G i a cls d sr)) : PSs Y (st :: B) (tQ G i a cls d fun x => match sa x with | some .nx => sr x | some (.ret v) => some (.ret v) | _ => none) := (pss_cons h1 h2).imp fun E σ H ⟨μ, ds, h, x, o, s, e1, q⟩ => by
  cases q1 : sa x with
  | none => simp only [q1] at e1; cases e1
  | some o1 =>
    cases o1 with
    | ret v =>
      simp only [q1] at e1
      cases e1
      exact ⟨μ, ds, h, x, _, s, q1, q⟩
    | nx =>
      simp only [q1] at e1
      exact ⟨μ, ds, h, x, _, s, q1, fun μ1 H1 ex1 w1 => tQ_at s e1 ex1 w1 q⟩
    | set j v => simp only [q1] at e1; cases e1
theorem passF {P : Program} {w : World} {X : Cx} : Passes (L2.CX P w) X (fun _ _ _ => False) := fun pins σ H s e s' I h => by
  obtain ⟨_, _, _, _, _, _, _, _, _, _, _, _, f⟩ := h
  exact f.elim
def cfOne (c : Nat) : Nat → Option Bool := fun k => if k = c then some true else none
theorem cfOne_ok {X : Cx} {c : Nat} {cv : Value} (h : PySem.W.exmOne X.K (.ref (G.cad c)) cv = some true) : ∀ k b, cfOne c k = some b → PySem.W.exmOne X.K (.ref (G.cad k)) cv = some b := fun k b q => by
  unfold cfOne at q
  by_cases hk : k = c
  · rw [if_pos hk] at q; cases q; rw [hk]; exact h
  · rw [if_neg hk] at q; cases q
abbrev qC (dv : D) : DX → Option D := fun _ => some dv
abbrev qFld (c : Nat) (f : Str) : DX → Option D := fun x => if x.cls = c then x.fs.lookup f else none
abbrev qIsx (c : Nat) (b : Bool) : DX → Option D := fun x => if x.cls = c then some (.bl b) else none
abbrev qIsi (T : Ty) (f : DX → Option D) : DX → Option D := fun x => (f x).bind fun dv => (tyPl dv).map fun S => .bl (subTy S T)
abbrev qaN : DX → Option (List D) := fun _ => some []
abbrev qaC (f : DX → Option D) (g : DX → Option (List D)) : DX → Option (List D) := fun x => (f x).bind fun y => (g x).map fun ys => y :: ys
abbrev qTup (f : DX → Option (List D)) : DX → Option D := fun x => (f x).bind fun ys => if ys.length ≤ 16777216 then some (.tup ys) else none
abbrev qVal (f : DX → Option D) : DX → Option Bool := fun x => match f x with | some (.bl b) => some b | _ => none
abbrev qNot (g : DX → Option Bool) : DX → Option Bool := fun x => (g x).map (!·)
abbrev qOr (g1 g2 : DX → Option Bool) : DX → Option Bool := fun x => (g1 x).bind fun b => if b = true then some true else g2 x
abbrev qRet (f : DX → Option D) : DX → Option SuO := fun x => (f x).map .ret
abbrev qNx : DX → Option SuO := fun _ => some .nx
abbrev qIf (g : DX → Option Bool) (sa sr : DX → Option SuO) : DX → Option SuO := fun x => (g x).bind fun b => if b = true then sa x else sr x
abbrev qSeq (sa sr : DX → Option SuO) : DX → Option SuO := fun x => match sa x with | some .nx => sr x | some (.ret v) => some (.ret v) | _ => none
end
section
variable {G : Cw}
def dcpD (xs : List D) (h : DH) : Res D := match xs with
  | [.ref n] => (match h[n]? with | some (.dK kvs) => .ok (.ref h.length) (h ++ [.dK kvs]) | _ => .no)
  | _ => .no
theorem s_dcp : CallS G (fun xs H Q => ∃ (a : Addr) (kvs : List (Key × V)), xs = [.ref a] ∧ Rd H a (.dK kvs) ∧ ∀ p, H p = none → Q (.ref p) (upd H p (.dK kvs))) dcpD := fun W ds μ h H xs vs Q w rs p => by
  unfold dcpD at p
  split at p
  · rename_i n
    obtain ⟨v, rfl, r⟩ := vs1 rs
    simp only [RV] at r
    obtain ⟨a, rfl, ha⟩ := r
    split at p
    · rename_i kvs hn
      obtain ⟨ws, h1, h2, h3⟩ := w.ob _ _ _ ha hn
      refine ⟨a, ws, rfl, .inl h1, fun q hq => ?_⟩
      have ex : Ext G μ H (μ ++ [q]) (upd H q (.dK ws)) := (ext_new hq).trans (ext_app [q])
      refine p _ _ _ ex (w.alloc hq rfl ⟨ws, by simp [upd], h2, RVs.mono ex _ _ h3⟩) ?_
      simp only [RV]
      exact ⟨q, rfl, by rw [← w.len]; simp⟩
    · exact p.elim
  · exact p.elim
end
end Mi
namespace Fu
open PySem L2 Mi
structure Ex where
  c : Nat
  f : Str
  t : T
def dxOf (x : Ex) : DX := ⟨x.c, [(x.f, toD x.t)]⟩
abbrev FX := FSt → Option Ex
def smallT : T → Bool
  | .str y => decide (y.length ≤ 2000)
  | .int i => decide (i.natAbs.log2 < 1920 ∧ (Str.ofString (toString i)).length ≤ 2000)
  | _ => false
/-- an exception as a value, for the functions by their numbers -/
def encX (x : Ex) : T := .tup [.int x.c, .str x.f, x.t]
def decX : T → Option Ex
  | .tup [.int c, .str f, t] => some ⟨c.toNat, f, t⟩
  | _ => none
theorem decX_enc (x : Ex) : decX (encX x) = some x := by cases x; simp [decX, encX]
def SRF (F : List D → DH → Res D) (G : List T → Option Ex) : Prop := ∀ A xs ts h, (∀ m, h.length ≤ m → A m) → Vals A h ts xs → ∀ x, G ts = some x → ∃ h', F xs h = .exc (dxOf x) h' ∧ Keep h h'
def SRE (w : Ws) (m : EM) (f : FX) : Prop := ∀ A X own ds h e, Rel A X w own ds h e → ∀ x, f e = some x → ∃ h', m ds h = .exc (dxOf x) h' ∧ Keep h h'
def SRA (w : Ws) (m : AM) (f : FX) : Prop := ∀ A X own ds h e, Rel A X w own ds h e → ∀ x, f e = some x → ∃ h', m ds h = .exc (dxOf x) h' ∧ Keep h h'
/-- the state of the slots stands: what may be tried -/
def SRt (w : Ws) (m : SM) (f : FX) : Prop := ∀ A X own ds h e, Rel A X w own ds h e → ∀ x, f e = some x → ∃ h', m ds h = .exc (dxOf x) ds h' ∧ Keep h h'
def SR (wr w : Ws) (m : SM) (f : FX) : Prop := ∀ A X own ds h0 h e, Rel A X w own ds h e → KeepX X h0 h → h0.length ≤ h.length → Nw wr w own h0.length → ∀ x, f e = some x → ∃ ds' h', m ds h = .exc (dxOf x) ds' h' ∧ KeepX X h0 h'
def xNo : FX := fun _ => none
section
variable {wr w w1 wn wl : Ws} {m m2 : EM} {f : FE} {x1 x2 : FX} {a b : SM} {sa sb : FS} {rs : Rk} {i : Nat}
theorem sr_no : SR wr w a xNo := fun A X own ds h0 h e r k l n x q => by cases q
theorem sr_of (s : SRt w a x1) : SR wr w a x1 := fun A X own ds h0 h e r k l n x q => by
  obtain ⟨h', e1, k1⟩ := s A X own ds h e r x q
  exact ⟨ds, h', e1, k.keep k1⟩
def xCall (G : List T → Option Ex) (fa : FA) : FX := fun e => (fa e).bind G
theorem sre_call {F : List D → DH → Res D} {G : List T → Option Ex} {mr : AM} {fr : FA} (hF : SRF F G) (hr : SA w mr fr) : SRE w (mCB F mr) (xCall G fr) := fun A X own ds h e r x q => by
  obtain ⟨ts, q1, q⟩ := bind_some q
  obtain ⟨xs, h1, e1, k1, v1⟩ := (hr A X own ds h e r ts q1).eq
  obtain ⟨h2, e2, k2⟩ := hF (Al A w own) xs ts h1 (r.keep k1).bigAl v1 x q
  exact ⟨h2, by unfold mCB; rw [e1]; exact e2, k1.trans k2⟩
/-- an item raises behind others that don't -/
def xAt (f : FE) (x : FX) : FX := fun e => (f e).bind fun _ => x e
theorem sra_hd {mr : AM} (h : SRE w m x1) : SRA w (aCons m mr) x1 := fun A X own ds h0 e r x q => by
  obtain ⟨h1, e1, k1⟩ := h A X own ds h0 e r x q
  exact ⟨h1, by unfold aCons; rw [e1]; rfl, k1⟩
theorem sra_tl {mr : AM} (hf : SN w m f) (h : SRA w mr x1) : SRA w (aCons m mr) (xAt f x1) := fun A X own ds h0 e r x q => by
  obtain ⟨t, q1, q⟩ := bind_some q
  obtain ⟨d, h1, e1, k1, v1⟩ := (hf A X own ds h0 e r t q1).eq
  obtain ⟨h2, e2, k2⟩ := h A X own ds h1 e (r.keep k1) x q
  exact ⟨h2, by unfold aCons; rw [e1]; show Res.bind (mr ds h1) _ = _; rw [e2]; rfl, k1.trans k2⟩
theorem sre_tup {mr : AM} (h : SRA w mr x1) : SRE w (mTup mr) x1 := fun A X own ds h0 e r x q => by
  obtain ⟨h1, e1, k1⟩ := h A X own ds h0 e r x q
  exact ⟨h1, by unfold mTup; rw [e1]; rfl, k1⟩
theorem srt_ret (h : SRE w m x1) : SRt w (sRet m) x1 := fun A X own ds h0 e r x q => by
  obtain ⟨h1, e1, k1⟩ := h A X own ds h0 e r x q
  exact ⟨h1, by unfold sRet; rw [e1]; rfl, k1⟩
theorem srt_drop (h : SRE w m x1) : SRt w (sDrop m) x1 := fun A X own ds h0 e r x q => by
  obtain ⟨h1, e1, k1⟩ := h A X own ds h0 e r x q
  exact ⟨h1, by unfold sDrop; rw [e1]; rfl, k1⟩
def xRz (c : Nat) (fl : Str) (f : FE) : FX := fun e => (f e).bind fun t => if smallT t = true then some ⟨c, fl, t⟩ else none
theorem small_D {A : Nat → Prop} {h : DH} {t : T} {d : D} (v : Val A h t d) (s : smallT t = true) : d = toD t ∧ smallD d = true := by
  cases t with
  | int j => rw [val_int.mp v]; exact ⟨rfl, s⟩
  | str j => rw [val_str.mp v]; exact ⟨rfl, s⟩
  | _ => cases s
theorem srt_rz {c : Nat} {fl : Str} (hf : SN w m f) : SRt w (sRz1 c fl m) (xRz c fl f) := fun A X own ds h0 e r x q => by
  obtain ⟨t, q1, q⟩ := bind_some q
  obtain ⟨s, rfl⟩ := ite_some q
  obtain ⟨d, h1, e1, k1, v1⟩ := (hf A X own ds h0 e r t q1).eq
  obtain ⟨e2, s2⟩ := small_D v1 s
  refine ⟨h1, ?_, k1⟩
  unfold sRz1
  rw [e1]
  show (if smallD d = true then RS.exc ⟨c, [(fl, d)]⟩ ds h1 else .no) = _
  rw [if_pos s2, e2]
  rfl
def xIf (c : FT) (x y : FX) : FX := fun e => (c e).bind fun t => if t then x e else y e
theorem srt_seqif {t : TM} {ft : FT} (ht : ST w t ft) (ha : SRt w a x1) (hb : SRt w b x2) : SRt w (sSeq (sIf t a sNext) b) (xIf ft x1 x2) := fun A X own ds h0 e r x q => by
  obtain ⟨t1, q1, q⟩ := bind_some q
  obtain ⟨d, h1, e1, k1, rfl⟩ := (ht A X own ds h0 e r t1 q1).eq
  cases d with
  | true =>
    obtain ⟨h2, e2, k2⟩ := ha A X own ds h1 e (r.keep k1) x q
    have e3 : sIf t a sNext ds h0 = .exc (dxOf x) ds h2 := by unfold sIf; rw [e1]; exact e2
    exact ⟨h2, by unfold sSeq; rw [e3], k1.trans k2⟩
  | false =>
    obtain ⟨h2, e2, k2⟩ := hb A X own ds h1 e (r.keep k1) x q
    have e3 : sIf t a sNext ds h0 = .nx ds h1 := by unfold sIf; rw [e1]; rfl
    exact ⟨h2, by unfold sSeq; rw [e3]; exact e2, k1.trans k2⟩
theorem sr_if {t : TM} {ft : FT} (ht : ST w t ft) (ha : SR wr w a x1) (hb : SR wr w b x2) : SR wr w (sIf t a b) (xIf ft x1 x2) := fun A X own ds h0 h e r k l n x q => by
  obtain ⟨t1, q1, q⟩ := bind_some q
  obtain ⟨d, h1, e1, k1, rfl⟩ := (ht A X own ds h e r t1 q1).eq
  unfold sIf
  rw [e1]
  cases d with
  | true => exact ha A X own ds h0 h1 e (r.keep k1) (k.keep k1) (Nat.le_trans l k1.len) n x q
  | false => exact hb A X own ds h0 h1 e (r.keep k1) (k.keep k1) (Nat.le_trans l k1.len) n x q
/-- what raises is never reached for the value -/
theorem ss_none : SS rs wr w a (fun _ => none) wn wl := fun A X own ds h0 h e r k l n o q => by cases q
def forX (g : FG) (b : FS) (y : FX) : List T → FX
  | [], _ => none
  | x :: xs, e => (g x e).bind fun e1 => match y e1 with
    | some v => some v
    | none => (b e1).bind fun o => match o with
      | .nx e2 => forX g b y xs e2
      | .ct e2 => forX g b y xs e2
      | _ => none
def xFor (fi : FI) (g : FG) (b : FS) (y : FX) : FX := fun e => (fi e).bind fun ts => forX g b y ts e
theorem sr_for {mi : IM} {fi : FI} {g : GM} {gt : FG} (hi : SI w mi fi) (hg : SG w wr g gt) (hb : SS rs wr w b sb w w) (hx : SR wr w b x1) : SR wr w (sFor mi g b) (xFor fi gt sb x1) := fun A X own ds h0 h e r k l n xx q => by
  obtain ⟨ts, q1, q⟩ := bind_some q
  obtain ⟨it, h1, e1, k1, xs, vx, hlen, hat⟩ := (hi A X own ds h e r ts q1).eq
  unfold sFor
  rw [e1]
  show ∃ ds' h', forN it g b (it.len h1 + 1) 0 ds h1 = RS.exc (dxOf xx) ds' h' ∧ KeepX X h0 h'
  rw [hlen]
  have l1 := Nat.le_trans l k1.len
  have core : ∀ (k i : Nat) (ds2 : DSt) (h2 : DH) (e2 : FSt) (own2 : Ow), k + i = xs.length + 1 → i ≤ xs.length → Stp A X h0 wr w own ds h1 w own2 ds2 h2 e2 → forX gt sb x1 (ts.drop i) e2 = some xx → ∃ ds' h', forN it g b k i ds2 h2 = RS.exc (dxOf xx) ds' h' ∧ KeepX X h0 h' := by
    intro k
    induction k with
    | zero => intro i ds2 h2 e2 own2 z l; omega
    | succ k ih =>
      intro i ds2 h2 e2 own2 z l s q
      simp only [forN]
      rw [hat h2 s.kin i]
      cases qx : xs[i]? with
      | none =>
        have l2 : xs.length ≤ i := List.getElem?_eq_none_iff.mp qx
        have e3 : ts.drop i = [] := List.drop_eq_nil_of_le (by rw [← vx.length]; omega)
        rw [e3] at q
        cases q
      | some x =>
        have hil : i < xs.length := (List.getElem?_eq_some_iff.mp qx).1
        have htl : i < ts.length := by rw [← vx.length]; exact hil
        obtain ⟨dx, d1, d2⟩ := vx.get (List.getElem?_eq_getElem htl)
        rw [qx] at d1
        cases d1
        rw [List.drop_eq_getElem_cons htl] at q
        simp only [forX] at q
        obtain ⟨e3, g1, q⟩ := bind_some q
        have d3 : Val (Al A w own2) h2 ts[i] x := by
          refine Val.mono (fun m am l => ⟨am.1, fun p hp z => ?_⟩) s.kin _ _ d2
          rcases s.fresh p hp m z with l' | ⟨q, hq, l'⟩
          · omega
          · exact am.2 q hq l'
        obtain ⟨ds3, g2, r3, f3⟩ := hg A X own2 ds2 h2 e2 x _ s.rel d3 e3 g1
        simp only [g2]
        have s3 : Stp A X h0 wr w own ds h1 w own2 ds3 h2 e3 := ⟨r3, s.k0, s.kin, s.fresh, s.le, s.nw, fun p hp => (f3 p hp).trans (s.fix p hp)⟩
        cases qv : x1 e3 with
        | some v =>
          rw [qv] at q
          cases q
          obtain ⟨ds4, h4, z4, k4⟩ := hx A X own2 ds3 h0 h2 e3 r3 s.k0 (Nat.le_trans l1 s.le) s.nw _ qv
          exact ⟨ds4, h4, by rw [z4], k4⟩
        | none =>
          rw [qv] at q
          obtain ⟨o1, b1, q⟩ := bind_some q
          have p := hb A X own2 ds3 h0 h2 e3 r3 s.k0 (Nat.le_trans l1 s.le) s.nw o1 b1
          cases o1 with
          | nx e4 =>
            obtain ⟨ds4, h4, own4, z4, s4⟩ := p
            rw [z4]
            exact ih (i + 1) ds4 h4 e4 own4 (by omega) hil (s3.trans s4) q
          | ct e4 =>
            obtain ⟨ds4, h4, own4, z4, s4⟩ := p
            rw [z4]
            exact ih (i + 1) ds4 h4 e4 own4 (by omega) hil (s3.trans s4) q
          | _ => cases q
  exact core (xs.length + 1) 0 ds h1 e own rfl (Nat.zero_le _) (.refl (r.keep k1) (k.keep k1) n) q
def funX (ar n : Nat) (y : FX) (ts : List T) : Option Ex := if ts.length = ar then y (ts.map some ++ List.replicate (n - ts.length) none) else none
theorem srf_def {ar n : Nat} (hb : SR [] [] b x1) : SRF (runF ar n b) (funX ar n x1) := fun A xs ts h big v x q => by
  unfold funX at q
  by_cases c : ts.length = ar
  · rw [if_pos c] at q
    obtain ⟨ds', h', e1, k1⟩ := hb A _ _ _ h h _ (args_rel (n := n) big v) (fun m o _ z => z) (Nat.le_refl _) (fun p hp => nomatch hp) x q
    have kp : Keep h h' := fun m o z => k1 m o (by have := lt_of_get z; omega) z
    unfold runF runB
    rw [if_pos (by rw [v.length]; exact c), e1]
    exact ⟨h', rfl, kp⟩
  · rw [if_neg c] at q; cases q
def ofF : D → Option T
  | .non => some .non
  | .bl b => some (.bl b)
  | .int i => some (.int i)
  | .str s => some (.str s)
  | _ => none
def ofFs : List D → Option (List T)
  | [] => some []
  | x :: xs => (ofF x).bind fun t => (ofFs xs).map fun ts => t :: ts
def ofD : D → Option T
  | .tup xs => (ofFs xs).map .tup
  | d => ofF d
theorem ofF_val {A : Nat → Prop} {h : DH} {d : D} {t : T} (e : ofF d = some t) : Val A h t d := by
  cases d with
  | non => cases e; exact val_non.mpr rfl
  | bl b => cases e; exact val_bl.mpr rfl
  | int i => cases e; exact val_int.mpr rfl
  | str s => cases e; exact val_str.mpr rfl
  | _ => cases e
theorem ofFs_val {A : Nat → Prop} {h : DH} : ∀ {ds : List D} {ts : List T}, ofFs ds = some ts → Vals A h ts ds
  | [], ts, e => by cases e; simp only [Vals]
  | d :: ds, ts, e => by
    simp only [ofFs] at e
    obtain ⟨t, e1, e⟩ := bind_some e
    obtain ⟨us, e2, rfl⟩ := map_some e
    simp only [Vals]
    exact ⟨d, ds, rfl, ofF_val e1, ofFs_val e2⟩
theorem ofD_val {A : Nat → Prop} {h : DH} {d : D} {t : T} (e : ofD d = some t) : Val A h t d := by
  cases d with
  | tup xs =>
    simp only [ofD] at e
    obtain ⟨ts, e1, rfl⟩ := map_some e
    exact val_tup.mpr ⟨xs, rfl, ofFs_val e1⟩
  | _ => exact ofF_val e
/-- the first thing asked is what is raised -/
def fTry (cf : Nat → Option Bool) (i : Nat) (os : List Nat) (sb : FS) (y : FX) (su : DX → Option SuO) : FS := fun e => match y e with
  | none => sb e
  | some x => match cf x.c with
    | some true => if i < e.length then (match su (dxOf x) with
      | some (.ret d) => (ofD d).map fun t => .rt t e
      | some (.set j d) => if os.contains j then none else (ofD d).map fun t => .nx (((e.set i none).set j (some t)).set i none)
      | some .nx => some (.nx ((e.set i none).set i none))
      | none => none) else none
    | _ => none
theorem ss_try {cf : Nat → Option Bool} {su : DX → Option SuO} {os : List Nat} (hb : SS (.sh .s) wr w a sa wn wl) (hx : SRt w a x1) (hw : ∀ p ∈ wr, p ∈ w) (hn : ∀ p ∈ wn, p ∈ w) (hi : ∀ p ∈ w, p.1 ≠ i) (ho : ∀ p ∈ w, p.1 ∈ os) :
    SS (.sh .s) wr w (sTry cf i a su) (fTry cf i os sa x1 su) wn wl := fun A X own ds h0 h e r k l n o q => by
  unfold fTry at q
  cases qx : x1 e with
  | none =>
    rw [qx] at q
    have p := hb A X own ds h0 h e r k l n _ q
    unfold sTry
    cases o with
    | nx e' => obtain ⟨ds1, h1, own1, e1, s⟩ := p; rw [e1]; exact ⟨_, _, _, rfl, s⟩
    | ct e' => obtain ⟨ds1, h1, own1, e1, s⟩ := p; rw [e1]; exact ⟨_, _, _, rfl, s⟩
    | bk e' => obtain ⟨ds1, h1, own1, e1, s⟩ := p; rw [e1]; exact ⟨_, _, _, rfl, s⟩
    | rt t e' => obtain ⟨d, ds1, h1, own1, e1, s⟩ := p; rw [e1]; exact ⟨_, _, _, _, rfl, s⟩
  | some x =>
    rw [qx] at q
    simp only at q
    obtain ⟨h1, e1, k1⟩ := hx A X own ds h e r x qx
    unfold sTry
    rw [e1]
    have ec : (dxOf x).cls = x.c := rfl
    simp only [ec]
    cases qc : cf x.c with
    | none => rw [qc] at q; cases q
    | some bb =>
      rw [qc] at q
      cases bb with
      | false => cases q
      | true =>
        simp only at q ⊢
        by_cases hl : i < e.length
        · rw [if_pos hl] at q
          rw [if_pos (by rw [r.len]; exact hl)]
          have s0 : Stp A X h0 wr w own ds h w own ds h1 e := (Stp.refl (r.keep k1) (k.keep k1) n).pre k1
          cases qs : su (dxOf x) with
          | none => rw [qs] at q; cases q
          | some so =>
            rw [qs] at q
            cases so with
            | ret d =>
              obtain ⟨t, q2, rfl⟩ := map_some q
              exact ⟨d, ds, h1, own, rfl, s0.weak hw, ret_s.mpr (ofD_val q2)⟩
            | set j d =>
              simp only at q
              by_cases hc : os.contains j = true
              · rw [if_pos hc] at q; cases q
              · rw [if_neg hc] at q
                obtain ⟨t, q2, rfl⟩ := map_some q
                have hj : ∀ p ∈ w, p.1 ≠ j := fun p hp z => hc (by rw [← z]; simpa using ho p hp)
                have r2 := (((s0.rel.wipe hi).put hj (ofD_val q2)).wipe hi)
                exact ⟨_, h1, own, rfl, Stp.weak ⟨r2, s0.k0, s0.kin, s0.fresh, s0.le, s0.nw, fun p hp => by
                  rw [getD_set_ne (Ne.symm (hi p (hw p hp))), getD_set_ne (Ne.symm (hj p (hw p hp))), getD_set_ne (Ne.symm (hi p (hw p hp)))]⟩ hn⟩
            | nx =>
              cases q
              exact ⟨_, h1, own, rfl, Stp.weak ⟨(s0.rel.wipe hi).wipe hi, s0.k0, s0.kin, s0.fresh, s0.le, s0.nw, fun p hp => by
                rw [getD_set_ne (Ne.symm (hi p (hw p hp))), getD_set_ne (Ne.symm (hi p (hw p hp)))]⟩ hn⟩
        · rw [if_neg hl] at q; cases q
theorem sr_seq0 (h1 : SR wr w a x1) : SR wr w (sSeq a b) x1 := fun A X own ds h0 h e r k l n x q => by
  obtain ⟨ds1, h1', e1, k1⟩ := h1 A X own ds h0 h e r k l n x q
  exact ⟨ds1, h1', by unfold sSeq; rw [e1], k1⟩
theorem srf_enc {F : List D → DH → Res D} {G : List T → Option Ex} (h : SRF F G) : SRF F (fun ts => ((G ts).map encX).bind decX) := fun A xs ts h0 big v x q => by
  replace q : ((G ts).map encX).bind decX = some x := q
  cases q1 : G ts with
  | none => rw [q1] at q; cases q
  | some y =>
    rw [q1] at q
    have : decX (encX y) = some x := q
    rw [decX_enc] at this
    cases this
    exact h A xs ts h0 big v _ q1
end
def fDcp (fa : FE) : FE := fun e => (fa e).bind fun v => match v with
  | .dic ks => if pureTs (ks.map (·.2)) = true then some (.dic ks) else none
  | _ => none
theorem sx_dcp {w : Ws} {ma : EM} {fa : FE} (ha : SN w ma fa) : SX w (.d .s) (mCB dcpD (aCons ma aNil)) (fDcp fa) := fun A X own ds h e r t q => by
  obtain ⟨v, q1, q⟩ := bind_some q
  cases v with
  | dic ks =>
    obtain ⟨p, rfl⟩ := ite_some q
    obtain ⟨d, h1, e1, k1, vv⟩ := (ha A X own ds h e r _ q1).eq
    obtain ⟨n, ws, rfl, _, hn, vy⟩ := val_dic.mp vv
    obtain ⟨ek, vs⟩ := valsK_to vy
    have ed : mCB dcpD (aCons ma aNil) ds h = .ok (.ref h1.length) (h1 ++ [.dK ws]) := by
      unfold mCB aCons aNil
      rw [e1]
      show dcpD [.ref n] h1 = _
      unfold dcpD
      simp only [hn]
    rw [ed]
    refine ⟨k1.trans (Keep.app h1 _), [h1.length], ?_, by simp, fun x hx => by rw [List.mem_singleton.mp hx]; exact k1.len⟩
    simp only [Od]
    exact ⟨ks, h1.length, ws, [], rfl, rfl, rfl, by simp, ek, odl_pure (Keep.app h1 _) p vs⟩
  | _ => cases q
end Fu
namespace Mi
open PySem L2
instance (i j : Int) : Decidable (CMulX i j) := by unfold CMulX; infer_instance
instance (i j : Int) : Decidable (CDivW i j) := by unfold CDivW; infer_instance
def mulWD (x y : D) (h : DH) : Res D := match x, y with | .int i, .int j => if CMulX i j then .ok (.int (i * j)) h else .no | _, _ => .no
def fdivWD (x y : D) (h : DH) : Res D := match x, y with | .int i, .int j => if CDivW i j then .ok (.int (i / j)) h else .no | _, _ => .no
theorem s_mulX {G} : OpS G (rI CMulX fun i j => .int (i * j)) mulWD := s_int2C (g := fun i j => .int (i * j)) (fun _ _ _ _ => by simp only [RV]) fun x y h => by cases x <;> cases y <;> first | exact .inr rfl | exact .inl ⟨_, _, rfl, rfl, rfl⟩
theorem s_fdivW {G} : OpS G (rI CDivW fun i j => .int (i / j)) fdivWD := s_int2C (g := fun i j => .int (i / j)) (fun _ _ _ _ => by simp only [RV]) fun x y h => by cases x <;> cases y <;> first | exact .inr rfl | exact .inl ⟨_, _, rfl, rfl, rfl⟩
def sameF : D → D → Bool
  | .non, .non => true
  | .bl a, .bl b => a == b
  | .int a, .int b => a == b
  | .str a, .str b => a == b
  | _, _ => false
def eqDcD (ne : Bool) (x y : D) (h : DH) : Res D := match x, y with
  | .ref m, .ref n => (match h[m]?, h[n]? with
    | some (.dK ks), some (.dK ls) => if ks.length = ls.length ∧ (ks.all fun p => match lookK ls p.1 with | some d => sameF p.2 d | none => false) = true then .ok (.bl (!ne)) h else .no
    | _, _ => .no)
  | _, _ => .no
def rDc (ne : Bool) : R2 := fun x y H Q => ∃ a b ks ls, x = .ref a ∧ y = .ref b ∧ H a = some (.dK ks) ∧ H b = some (.dK ls) ∧ ks.length = ls.length ∧ (∀ p ∈ ks, valV ls p.1 = some p.2 ∧ flatB p.2 = true) ∧ Q (.bl (!ne)) H
section
variable {G : Cw}
theorem same_rv {μ : List Addr} {H : Hp} {c d : D} {u v : V} (e : sameF c d = true) (r1 : RV G μ H c u) (r2 : RV G μ H d v) : v = u ∧ L2.flatB u = true := by
  cases c <;> cases d <;> first | (cases e; done) | skip
  · simp only [RV] at r1 r2; exact ⟨r2.trans r1.symm, by rw [r1]; rfl⟩
  · have e := eq_of_beq e; simp only [RV] at r1 r2; subst e; exact ⟨r2.trans r1.symm, by rw [r1]; rfl⟩
  · have e := eq_of_beq e; simp only [RV] at r1 r2; subst e; exact ⟨r2.trans r1.symm, by rw [r1]; rfl⟩
  · have e := eq_of_beq e; simp only [RV] at r1 r2; subst e; exact ⟨r2.trans r1.symm, by rw [r1]; rfl⟩
theorem same_all {μ : List Addr} {H : Hp} {ls : List (Key × D)} {lv : List (Key × V)} (el : lv.map (·.1) = ls.map (·.1)) (rl : RVs G μ H (ls.map (·.2)) (lv.map (·.2))) : ∀ {ks : List (Key × D)} {kv : List (Key × V)}, kv.map (·.1) = ks.map (·.1) → RVs G μ H (ks.map (·.2)) (kv.map (·.2)) →
    (ks.all fun p => match lookK ls p.1 with | some d => sameF p.2 d | none => false) = true → ∀ p ∈ kv, valV lv p.1 = some p.2 ∧ L2.flatB p.2 = true
  | [], kv, e, r, q => by
    cases kv with
    | nil => exact fun p hp => nomatch hp
    | cons x y => cases e
  | (a, d) :: ks, [], e, r, q => by cases e
  | (a, d) :: ks, (b, v) :: kv, e, r, q => by
    simp only [List.map_cons, List.cons.injEq] at e
    obtain ⟨rfl, e⟩ := e
    obtain ⟨v', ws', e2, r1, r2⟩ := RVs.un r
    simp only [List.map_cons, List.cons.injEq] at e2
    obtain ⟨rfl, rfl⟩ := e2
    rw [List.all_cons, Bool.and_eq_true] at q
    obtain ⟨q1, q2⟩ := q
    have ih := same_all el rl e r2 q2
    intro p hp
    rcases List.mem_cons.mp hp with rfl | hp
    · have l := look_ok (k := b) el rl
      dsimp only at q1 ⊢
      cases c : lookK ls b with
      | none => rw [c] at q1; cases q1
      | some d' =>
        rw [c] at q1 l
        obtain ⟨z, l1, l2⟩ := l
        obtain ⟨rfl, f⟩ := same_rv q1 r1 l2
        exact ⟨l1, f⟩
    · exact ih p hp
theorem s_eqDc {ne : Bool} : OpS G (rDc ne) (eqDcD ne) := fun W ds μ h H x y v u Q w rx ry p => by
  unfold eqDcD at p
  split at p
  · rename_i m n
    split at p
    · rename_i ks ls q1 q2
      obtain ⟨a, kv, rfl, _, ha, h1, h2⟩ := dk_at w rx q1
      obtain ⟨b, lv, rfl, _, hb, h3, h4⟩ := dk_at w ry q2
      by_cases c : ks.length = ls.length ∧ (ks.all fun p => match lookK ls p.1 with | some d => sameF p.2 d | none => false) = true
      · rw [if_pos c] at p
        refine ⟨a, b, kv, lv, rfl, rfl, ha, hb, ?_, same_all h3 h4 h1 h2 c.2, post_ok p w (by simp only [RV])⟩
        have e1 := congrArg List.length h1
        have e2 := congrArg List.length h3
        simp only [List.length_map] at e1 e2
        have := c.1
        omega
      · rw [if_neg c] at p; exact p.elim
    · exact p.elim
  · exact p.elim
end
section
variable {X : Cx}
theorem op_neDc (hu : X.A.units + 150 < cLine) : OpR X (compareOp .NotEq) (rDc true) := op_ne_dictA (by omega)
end
end Mi
namespace Fu
open PySem L2 Mi
def mulWT := iiT fun i j => if CMulX i j then some (.int (i * j)) else none
def fdivWT := iiT fun i j => if CDivW i j then some (.int (i / j)) else none
theorem mulWD_ii {i j : Int} {h : DH} : mulWD (.int i) (.int j) h = if CMulX i j then .ok (.int (i * j)) h else .no := rfl
theorem fdivWD_ii {i j : Int} {h : DH} : fdivWD (.int i) (.int j) h = if CDivW i j then .ok (.int (i / j)) h else .no := rfl
theorem o_mulW : SOp mulWD mulWT := o_ii iiT_ok fun i j v h e => by obtain ⟨c, rfl⟩ := ite_some e; rw [mulWD_ii, if_pos c]; exact ⟨rfl, fun _ => val_int.mpr rfl⟩
theorem o_fdivW : SOp fdivWD fdivWT := o_ii iiT_ok fun i j v h e => by obtain ⟨c, rfl⟩ := ite_some e; rw [fdivWD_ii, if_pos c]; exact ⟨rfl, fun _ => val_int.mpr rfl⟩
theorem fr_mulW : FlatR mulWT := fr_ii fun i j v e => by obtain ⟨_, rfl⟩ := ite_some e; rfl
theorem fr_fdivW : FlatR fdivWT := fr_ii fun i j v e => by obtain ⟨_, rfl⟩ := ite_some e; rfl
theorem mulW_ok {i j : Int} {a b : Nat} (ha : i.natAbs < 2 ^ a) (hb : j.natAbs < 2 ^ b) (h : a + b ≤ 100000) : mulWT (.int i) (.int j) = some (.int (i * j)) := if_pos (mulx_ok ha hb (by omega))
theorem fdivW_ok {i j : Int} {b : Nat} (h : 0 < j) (hb : j.natAbs < 2 ^ b) (h0 : 0 < b) (h9 : b ≤ 9000) : fdivWT (.int i) (.int j) = some (.int (i / j)) := if_pos (wide_div h hb h0 h9)
def sameT : T → T → Bool
  | .non, .non => true
  | .bl a, .bl b => a == b
  | .int a, .int b => a == b
  | .str a, .str b => a == b
  | _, _ => false
def eqDcT (ne : Bool) (t u : T) : Option T := match t, u with
  | .dic ks, .dic ls => if ks.length = ls.length ∧ (ks.all fun p => match lookK ls p.1 with | some d => sameT p.2 d | none => false) = true then some (.bl (!ne)) else none
  | _, _ => none
theorem same_v {A : Nat → Prop} {h : DH} {t u : T} {x y : D} (e : sameT t u = true) (r1 : Val A h t x) (r2 : Val A h u y) : sameF x y = true := by
  cases t <;> cases u <;> first | (cases e; done) | skip
  · rw [val_non.mp r1, val_non.mp r2]; rfl
  · rw [val_bl.mp r1, val_bl.mp r2]; exact e
  · rw [val_int.mp r1, val_int.mp r2]; exact e
  · rw [val_str.mp r1, val_str.mp r2]; exact e
theorem same_vs {A : Nat → Prop} {h : DH} {ls : List (Key × T)} {lw : List (Key × D)} (rl : ValsK A h ls lw) : ∀ {ks : List (Key × T)} {kw : List (Key × D)}, ValsK A h ks kw →
    (ks.all fun p => match lookK ls p.1 with | some d => sameT p.2 d | none => false) = true → (kw.all fun p => match lookK lw p.1 with | some d => sameF p.2 d | none => false) = true
  | [], kw, r, q => by simp only [ValsK] at r; subst r; rfl
  | p :: ks, kw, r, q => by
    simp only [ValsK] at r
    obtain ⟨d, ds, rfl, r1, r2⟩ := r
    rw [List.all_cons, Bool.and_eq_true] at q ⊢
    refine ⟨?_, same_vs rl r2 q.2⟩
    have lk := look_vals (k := p.1) rl
    have q1 := q.1
    dsimp only
    cases c : lookK ls p.1 with
    | none => rw [c] at q1; cases q1
    | some t =>
      rw [c] at q1 lk
      obtain ⟨d', e1, e2⟩ := lk
      rw [e1]
      exact same_v q1 r1 e2
theorem o_eqDc {ne : Bool} : SOp (eqDcD ne) (eqDcT ne) := fun A h x y t u v big r1 r2 e => by
  unfold eqDcT at e
  split at e
  · rename_i ks ls
    obtain ⟨c, rfl⟩ := ite_some e
    obtain ⟨m, kw, rfl, q1, v1⟩ := r1
    obtain ⟨n, lw, rfl, q2, v2⟩ := r2
    unfold eqDcD
    simp only [q1, q2]
    rw [if_pos ⟨by rw [valsK_len v1, valsK_len v2]; exact c.1, same_vs v2 v1 c.2⟩]
    exact ⟨Keep.refl _, val_bl.mpr rfl⟩
  · cases e
theorem fr_eqDc {ne : Bool} : FlatR (eqDcT ne) := fun u t v e => by
  unfold eqDcT at e
  split at e
  · obtain ⟨c, rfl⟩ := ite_some e; rfl
  · cases e
end Fu
namespace LA
open PySem L2 Mi Fu
local macro_rules | `(tactic| walk_at "kw") => `(tactic| try simp (decide := true) only [Fu.k_c, Fu.k_var, Fu.k_op, Fu.k_un, Fu.k_nil, Fu.k_cons, Fu.k_star, Fu.k_tup, Fu.k_lst, Fu.k_cb, Fu.k_cbF, Fu.flatT_i, Fu.flatT_s, Fu.flatT_b, Fu.flatT_n, Fu.k_test, Fu.asB_bl, Fu.asI_int, Fu.k_not, Fu.k_and, Fu.k_or, Fu.k_yes, Fu.k_notV, Fu.k_andV, Fu.k_orV, Fu.k_if, Fu.k_oN, Fu.k_oS, Fu.k_sl, Fu.k_chain, Fu.k_isi, Fu.asS_str, Fu.k_kd, Fu.k_kin, Fu.k_lc, Fu.k_seq, Fu.k_r1, Fu.k_r2, Fu.s_next, Fu.s_seq, Fu.s_set, Fu.s_own, Fu.s_asg, Fu.s_drop, Fu.s_ret, Fu.s_retN, Fu.s_brk, Fu.s_cnt, Fu.s_if, Fu.s_aug, Fu.k_gNm, Fu.k_gNil, Fu.k_gCons, Fu.k_gTp, Fu.asL_lst, Fu.asTp_tup, Fu.p_var, Fu.k_pth, Fu.p_ix, Fu.p_cm, id, Fu.s_app, Fu.s_pop, Fu.s_popD, Fu.s_rev, Fu.s_clr, Fu.s_put, Fu.s_callP, Fu.s_mvP, Fu.k_cbP, Fu.asP_mk, Fu.k_lcP, Fu.k_en, Fu.k_rv, Fu.k_zp, Fu.lstO_l, Fu.lstO_f, Fu.bOpT_bb, Fu.k_fld, Fu.asO_obj, Fu.s_for, Fu.s_while, Fu.ok_some, Fu.ok_ite, Fu.wipeT,
  Fu.addT_ii, Fu.addT_ll, Fu.addT_ss, Fu.addT_tt, Fu.catT_ll, Fu.subT_ii, Fu.mulT_ii, Fu.mulT_li, Fu.repT_li, Fu.fdivT_ii, Fu.modT_ii, Fu.powT_ii, Fu.negT_i, Fu.ltT_ii, Fu.leT_ii, Fu.gtT_ii, Fu.geT_ii, Fu.eqST_ii, Fu.eqST_ss, Fu.eqST_bb, Fu.eqT_ii, Fu.eqT_ss, Fu.eqT_bb, Fu.ok_oBl, Fu.ok_oNb, Fu.isNT_n, Fu.isNT_i, Fu.isNT_l, Fu.isNT_t, Fu.isNT_b, Fu.isNT_s, Fu.lenT_l, Fu.lenT_t, Fu.lenT_f, Fu.itemsT_l, Fu.itemsT_t, Fu.itemsT_f, Fu.lstT_l, Fu.lstT_t, Fu.lstT_f, Fu.tupT_l, Fu.tupT_t, Fu.ixT_l, Fu.ixT_t, Fu.ixT_f, Fu.intT_i, Fu.absT_i, Fu.max2T_i, Fu.min2T_i, Fu.slT_l, Fu.slLT_l, Fu.tyT_i, Fu.tyT_s, Fu.tyT_b, Fu.tyT_t, Fu.tyT_l, Fu.tyT_f, Fu.tyT_n,
  List.getElem?_cons_zero, List.getElem?_cons_succ, List.getD_cons_zero, List.getD_cons_succ, List.set_cons_zero, List.set_cons_succ, List.map_cons, List.map_nil, List.replicate, List.append_nil, List.cons_append, List.nil_append, List.length_cons, List.length_nil, Nat.reduceAdd, Nat.reduceSub, Nat.reduceLT, Nat.reduceLeDiff, Nat.zero_add, Int.reduceToNat, Int.reducePow, Int.reduceNeg, Mi.mulC_r, Mi.atI_0, Mi.atI_1, Mi.atI_2,
  subTy, decide_true, decide_false, Bool.or_self, Bool.or_true, Bool.true_or, Bool.or_false, Bool.false_or, Bool.and_true, Bool.true_and, Bool.and_false, Bool.false_and, Bool.and_self, Bool.not_true, Bool.not_false, Bool.false_eq_true, Bool.true_eq_false, true_and, and_true, and_self, if_true, if_false, ite_true, ite_false])
local macro_rules | `(tactic| walk_at "k1") => `(tactic| try simp (decide := true) only [Fu.k_c, Fu.k_var, Fu.k_op, Fu.k_un, Fu.k_nil, Fu.k_cons, Fu.k_star, Fu.k_tup, Fu.k_lst, Fu.k_cb, Fu.k_cbF, Fu.flatT_i, Fu.flatT_s, Fu.flatT_b, Fu.flatT_n, Fu.k_test, Fu.asB_bl, Fu.asI_int, Fu.k_not, Fu.k_and, Fu.k_or, Fu.k_yes, Fu.k_notV, Fu.k_andV, Fu.k_orV, Fu.k_if, Fu.k_oN, Fu.k_oS, Fu.k_sl, Fu.k_chain, Fu.k_isi, Fu.asS_str, Fu.k_kd, Fu.k_kin, Fu.k_lc, Fu.k_seq, Fu.k_r1, Fu.k_r2, Fu.s_next, Fu.s_set, Fu.s_own, Fu.s_asg, Fu.s_drop, Fu.s_ret, Fu.s_retN, Fu.s_brk, Fu.s_cnt, Fu.s_if, Fu.s_aug, Fu.k_gNm, Fu.k_gNil, Fu.k_gCons, Fu.k_gTp, Fu.asL_lst, Fu.asTp_tup, Fu.p_var, Fu.k_pth, Fu.p_ix, Fu.p_cm, id, Fu.s_app, Fu.s_pop, Fu.s_popD, Fu.s_rev, Fu.s_clr, Fu.s_put, Fu.s_callP, Fu.s_mvP, Fu.k_cbP, Fu.asP_mk, Fu.k_lcP, Fu.k_en, Fu.k_rv, Fu.k_zp, Fu.lstO_l, Fu.lstO_f, Fu.bOpT_bb, Fu.k_fld, Fu.asO_obj, Fu.s_for, Fu.s_while, Fu.ok_some, Fu.ok_ite, Fu.wipeT,
  Fu.addT_ii, Fu.addT_ll, Fu.addT_ss, Fu.addT_tt, Fu.catT_ll, Fu.subT_ii, Fu.mulT_ii, Fu.mulT_li, Fu.repT_li, Fu.fdivT_ii, Fu.modT_ii, Fu.powT_ii, Fu.negT_i, Fu.ltT_ii, Fu.leT_ii, Fu.gtT_ii, Fu.geT_ii, Fu.eqST_ii, Fu.eqST_ss, Fu.eqST_bb, Fu.eqT_ii, Fu.eqT_ss, Fu.eqT_bb, Fu.ok_oBl, Fu.ok_oNb, Fu.isNT_n, Fu.isNT_i, Fu.isNT_l, Fu.isNT_t, Fu.isNT_b, Fu.isNT_s, Fu.lenT_l, Fu.lenT_t, Fu.lenT_f, Fu.itemsT_l, Fu.itemsT_t, Fu.itemsT_f, Fu.lstT_l, Fu.lstT_t, Fu.lstT_f, Fu.tupT_l, Fu.tupT_t, Fu.ixT_l, Fu.ixT_t, Fu.ixT_f, Fu.intT_i, Fu.absT_i, Fu.max2T_i, Fu.min2T_i, Fu.slT_l, Fu.slLT_l, Fu.tyT_i, Fu.tyT_s, Fu.tyT_b, Fu.tyT_t, Fu.tyT_l, Fu.tyT_f, Fu.tyT_n,
  List.getElem?_cons_zero, List.getElem?_cons_succ, List.getD_cons_zero, List.getD_cons_succ, List.set_cons_zero, List.set_cons_succ, List.map_cons, List.map_nil, List.replicate, List.append_nil, List.cons_append, List.nil_append, List.length_cons, List.length_nil, Nat.reduceAdd, Nat.reduceSub, Nat.reduceLT, Nat.reduceLeDiff, Nat.zero_add, Int.reduceToNat, Int.reducePow, Int.reduceNeg, Mi.mulC_r, Mi.atI_0, Mi.atI_1, Mi.atI_2,
  subTy, decide_true, decide_false, Bool.or_self, Bool.or_true, Bool.true_or, Bool.or_false, Bool.false_or, Bool.and_true, Bool.true_and, Bool.and_false, Bool.false_and, Bool.and_self, Bool.not_true, Bool.not_false, Bool.false_eq_true, Bool.true_eq_false, true_and, and_true, and_self, if_true, if_false, ite_true, ite_false])
local macro_rules | `(tactic| walk_at "ks") => `(tactic| (rw [Fu.s_seq]; walk_at "k1"))
theorem eq_ok {α : Type} {o : Option α} {v : α} (s : Ok o fun t => t = v) : o = some v := by
  cases o with
  | none => exact s.elim
  | some a => rw [show a = v from s]
theorem ok_eq {α : Type} {o : Option α} {v : α} {P : α → Prop} (q : o = some v) : Ok o P ↔ P v := by rw [q]; exact Iff.rfl
def celO (ns : List Int) (i : Int) : Int := ns.getD i.toNat 0
def scT (ns : List Int) : T := .fro (ns.map T.int)
theorem of_ok {α : Type} {o : Option α} {P : α → Prop} (s : Ok o P) : ∃ v, o = some v ∧ P v := s.eq
end LA
namespace SA
open PySem L2 Mi Fu LA
local macro_rules | `(tactic| walk_at "kw") => `(tactic| try simp (decide := true) only [Fu.k_c, Fu.k_var, Fu.k_op, Fu.k_un, Fu.k_nil, Fu.k_cons, Fu.k_star, Fu.k_tup, Fu.k_lst, Fu.k_cb, Fu.k_cbF, Fu.flatT_i, Fu.flatT_s, Fu.flatT_b, Fu.flatT_n, Fu.k_test, Fu.asB_bl, Fu.asI_int, Fu.k_not, Fu.k_and, Fu.k_or, Fu.k_yes, Fu.k_notV, Fu.k_andV, Fu.k_orV, Fu.k_if, Fu.k_oN, Fu.k_oS, Fu.k_sl, Fu.k_chain, Fu.k_isi, Fu.asS_str, Fu.k_kd, Fu.k_kin, Fu.k_lc, Fu.k_seq, Fu.k_r1, Fu.k_r2, Fu.s_next, Fu.s_seq, Fu.s_set, Fu.s_own, Fu.s_asg, Fu.s_drop, Fu.s_ret, Fu.s_retN, Fu.s_brk, Fu.s_cnt, Fu.s_if, Fu.s_aug, Fu.k_gNm, Fu.k_gNil, Fu.k_gCons, Fu.k_gTp, Fu.asL_lst, Fu.asTp_tup, Fu.p_var, Fu.k_pth, Fu.p_ix, Fu.p_cm, id, Fu.s_app, Fu.s_pop, Fu.s_popD, Fu.s_rev, Fu.s_clr, Fu.s_put, Fu.s_callP, Fu.s_mvP, Fu.k_cbP, Fu.asP_mk, Fu.k_lcP, Fu.k_en, Fu.k_rv, Fu.k_zp, Fu.lstO_l, Fu.lstO_f, Fu.bOpT_bb, Fu.k_fld, Fu.asO_obj, Fu.s_for, Fu.s_while, Fu.ok_some, Fu.ok_ite, Fu.wipeT,
  Fu.addT_ii, Fu.addT_ll, Fu.addT_ss, Fu.addT_tt, Fu.catT_ll, Fu.subT_ii, Fu.mulT_ii, Fu.mulT_li, Fu.repT_li, Fu.fdivT_ii, Fu.modT_ii, Fu.powT_ii, Fu.negT_i, Fu.ltT_ii, Fu.leT_ii, Fu.gtT_ii, Fu.geT_ii, Fu.eqST_ii, Fu.eqST_ss, Fu.eqST_bb, Fu.eqT_ii, Fu.eqT_ss, Fu.eqT_bb, Fu.ok_oBl, Fu.ok_oNb, Fu.isNT_n, Fu.isNT_i, Fu.isNT_l, Fu.isNT_t, Fu.isNT_b, Fu.isNT_s, Fu.lenT_l, Fu.lenT_t, Fu.lenT_f, Fu.itemsT_l, Fu.itemsT_t, Fu.itemsT_f, Fu.lstT_l, Fu.lstT_t, Fu.lstT_f, Fu.tupT_l, Fu.tupT_t, Fu.ixT_l, Fu.ixT_t, Fu.ixT_f, Fu.intT_i, Fu.absT_i, Fu.max2T_i, Fu.min2T_i, Fu.slT_l, Fu.slLT_l, Fu.tyT_i, Fu.tyT_s, Fu.tyT_b, Fu.tyT_t, Fu.tyT_l, Fu.tyT_f, Fu.tyT_n,
  List.getElem?_cons_zero, List.getElem?_cons_succ, List.getD_cons_zero, List.getD_cons_succ, List.set_cons_zero, List.set_cons_succ, List.map_cons, List.map_nil, List.replicate, List.append_nil, List.cons_append, List.nil_append, List.length_cons, List.length_nil, Nat.reduceAdd, Nat.reduceSub, Nat.reduceLT, Nat.reduceLeDiff, Nat.zero_add, Int.reduceToNat, Int.reducePow, Int.reduceNeg, Mi.mulC_r, Mi.atI_0, Mi.atI_1, Mi.atI_2,
  subTy, decide_true, decide_false, Bool.or_self, Bool.or_true, Bool.true_or, Bool.or_false, Bool.false_or, Bool.and_true, Bool.true_and, Bool.and_false, Bool.false_and, Bool.and_self, Bool.not_true, Bool.not_false, Bool.false_eq_true, Bool.true_eq_false, true_and, and_true, and_self, if_true, if_false, ite_true, ite_false])
local macro_rules | `(tactic| walk_at "k1") => `(tactic| try simp (decide := true) only [Fu.k_c, Fu.k_var, Fu.k_op, Fu.k_un, Fu.k_nil, Fu.k_cons, Fu.k_star, Fu.k_tup, Fu.k_lst, Fu.k_cb, Fu.k_cbF, Fu.flatT_i, Fu.flatT_s, Fu.flatT_b, Fu.flatT_n, Fu.k_test, Fu.asB_bl, Fu.asI_int, Fu.k_not, Fu.k_and, Fu.k_or, Fu.k_yes, Fu.k_notV, Fu.k_andV, Fu.k_orV, Fu.k_if, Fu.k_oN, Fu.k_oS, Fu.k_sl, Fu.k_chain, Fu.k_isi, Fu.asS_str, Fu.k_kd, Fu.k_kin, Fu.k_lc, Fu.k_seq, Fu.k_r1, Fu.k_r2, Fu.s_next, Fu.s_set, Fu.s_own, Fu.s_asg, Fu.s_drop, Fu.s_ret, Fu.s_retN, Fu.s_brk, Fu.s_cnt, Fu.s_if, Fu.s_aug, Fu.k_gNm, Fu.k_gNil, Fu.k_gCons, Fu.k_gTp, Fu.asL_lst, Fu.asTp_tup, Fu.p_var, Fu.k_pth, Fu.p_ix, Fu.p_cm, id, Fu.s_app, Fu.s_pop, Fu.s_popD, Fu.s_rev, Fu.s_clr, Fu.s_put, Fu.s_callP, Fu.s_mvP, Fu.k_cbP, Fu.asP_mk, Fu.k_lcP, Fu.k_en, Fu.k_rv, Fu.k_zp, Fu.lstO_l, Fu.lstO_f, Fu.bOpT_bb, Fu.k_fld, Fu.asO_obj, Fu.s_for, Fu.s_while, Fu.ok_some, Fu.ok_ite, Fu.wipeT,
  Fu.addT_ii, Fu.addT_ll, Fu.addT_ss, Fu.addT_tt, Fu.catT_ll, Fu.subT_ii, Fu.mulT_ii, Fu.mulT_li, Fu.repT_li, Fu.fdivT_ii, Fu.modT_ii, Fu.powT_ii, Fu.negT_i, Fu.ltT_ii, Fu.leT_ii, Fu.gtT_ii, Fu.geT_ii, Fu.eqST_ii, Fu.eqST_ss, Fu.eqST_bb, Fu.eqT_ii, Fu.eqT_ss, Fu.eqT_bb, Fu.ok_oBl, Fu.ok_oNb, Fu.isNT_n, Fu.isNT_i, Fu.isNT_l, Fu.isNT_t, Fu.isNT_b, Fu.isNT_s, Fu.lenT_l, Fu.lenT_t, Fu.lenT_f, Fu.itemsT_l, Fu.itemsT_t, Fu.itemsT_f, Fu.lstT_l, Fu.lstT_t, Fu.lstT_f, Fu.tupT_l, Fu.tupT_t, Fu.ixT_l, Fu.ixT_t, Fu.ixT_f, Fu.intT_i, Fu.absT_i, Fu.max2T_i, Fu.min2T_i, Fu.slT_l, Fu.slLT_l, Fu.tyT_i, Fu.tyT_s, Fu.tyT_b, Fu.tyT_t, Fu.tyT_l, Fu.tyT_f, Fu.tyT_n,
  List.getElem?_cons_zero, List.getElem?_cons_succ, List.getD_cons_zero, List.getD_cons_succ, List.set_cons_zero, List.set_cons_succ, List.map_cons, List.map_nil, List.replicate, List.append_nil, List.cons_append, List.nil_append, List.length_cons, List.length_nil, Nat.reduceAdd, Nat.reduceSub, Nat.reduceLT, Nat.reduceLeDiff, Nat.zero_add, Int.reduceToNat, Int.reducePow, Int.reduceNeg, Mi.mulC_r, Mi.atI_0, Mi.atI_1, Mi.atI_2,
  subTy, decide_true, decide_false, Bool.or_self, Bool.or_true, Bool.true_or, Bool.or_false, Bool.false_or, Bool.and_true, Bool.true_and, Bool.and_false, Bool.false_and, Bool.and_self, Bool.not_true, Bool.not_false, Bool.false_eq_true, Bool.true_eq_false, true_and, and_true, and_self, if_true, if_false, ite_true, ite_false])
local macro_rules | `(tactic| walk_at "ks") => `(tactic| (rw [Fu.s_seq]; walk_at "k1"))
local macro_rules | `(tactic| walk_at "k2") => `(tactic| try simp (decide := true) only [Fu.k_tru, Fu.truT_l, Fu.truT_d, Fu.s_ext, Fu.s_ddel, Fu.k_cbL, Fu.dgetT_d, Fu.dinT_d, Fu.keyT_i, Fu.asDc_d, Fu.k_dc, Fu.s_dput, Fu.dkeysT_d, Fu.k_c, Fu.k_var, Fu.k_op, Fu.k_un, Fu.k_nil, Fu.k_cons, Fu.k_star, Fu.k_tup, Fu.k_lst, Fu.k_cb, Fu.k_cbF, Fu.flatT_i, Fu.flatT_s, Fu.flatT_b, Fu.flatT_n, Fu.k_test, Fu.asB_bl, Fu.asI_int, Fu.k_not, Fu.k_and, Fu.k_or, Fu.k_yes, Fu.k_notV, Fu.k_andV, Fu.k_orV, Fu.k_if, Fu.k_oN, Fu.k_oS, Fu.k_sl, Fu.k_chain, Fu.k_isi, Fu.asS_str, Fu.k_kd, Fu.k_kin, Fu.k_lc, Fu.k_seq, Fu.k_r1, Fu.k_r2, Fu.s_next, Fu.s_set, Fu.s_own, Fu.s_asg, Fu.s_drop, Fu.s_ret, Fu.s_retN, Fu.s_brk, Fu.s_cnt, Fu.s_if, Fu.s_aug, Fu.k_gNm, Fu.k_gNil, Fu.k_gCons, Fu.k_gTp, Fu.asL_lst, Fu.asTp_tup, Fu.p_var, Fu.k_pth, Fu.p_ix, Fu.p_cm, id, Fu.s_app, Fu.s_pop, Fu.s_popD, Fu.s_rev, Fu.s_clr, Fu.s_put, Fu.s_callP, Fu.s_mvP, Fu.k_cbP, Fu.asP_mk, Fu.k_lcP, Fu.k_en, Fu.k_rv, Fu.k_zp, Fu.lstO_l, Fu.lstO_f, Fu.bOpT_bb, Fu.k_fld, Fu.asO_obj, Fu.s_for, Fu.s_while, Fu.ok_some, Fu.ok_ite, Fu.wipeT,
  Fu.addT_ii, Fu.addT_ll, Fu.addT_ss, Fu.addT_tt, Fu.catT_ll, Fu.subT_ii, Fu.mulT_ii, Fu.mulT_li, Fu.repT_li, Fu.fdivT_ii, Fu.modT_ii, Fu.powT_ii, Fu.negT_i, Fu.ltT_ii, Fu.leT_ii, Fu.gtT_ii, Fu.geT_ii, Fu.eqST_ii, Fu.eqST_ss, Fu.eqST_bb, Fu.eqT_ii, Fu.eqT_ss, Fu.eqT_bb, Fu.ok_oBl, Fu.ok_oNb, Fu.isNT_n, Fu.isNT_i, Fu.isNT_l, Fu.isNT_t, Fu.isNT_b, Fu.isNT_s, Fu.lenT_l, Fu.lenT_t, Fu.lenT_f, Fu.itemsT_l, Fu.itemsT_t, Fu.itemsT_f, Fu.lstT_l, Fu.lstT_t, Fu.lstT_f, Fu.tupT_l, Fu.tupT_t, Fu.ixT_l, Fu.ixT_t, Fu.ixT_f, Fu.intT_i, Fu.absT_i, Fu.max2T_i, Fu.min2T_i, Fu.slT_l, Fu.slLT_l, Fu.tyT_i, Fu.tyT_s, Fu.tyT_b, Fu.tyT_t, Fu.tyT_l, Fu.tyT_f, Fu.tyT_n,
  List.getElem?_cons_zero, List.getElem?_cons_succ, List.getD_cons_zero, List.getD_cons_succ, List.set_cons_zero, List.set_cons_succ, List.map_cons, List.map_nil, List.replicate, List.append_nil, List.cons_append, List.nil_append, List.length_cons, List.length_nil, Nat.reduceAdd, Nat.reduceSub, Nat.reduceLT, Nat.reduceLeDiff, Nat.zero_add, Int.reduceToNat, Int.reducePow, Int.reduceNeg, Mi.mulC_r, Mi.atI_0, Mi.atI_1, Mi.atI_2,
  subTy, decide_true, decide_false, Bool.or_self, Bool.or_true, Bool.true_or, Bool.or_false, Bool.false_or, Bool.and_true, Bool.true_and, Bool.and_false, Bool.false_and, Bool.and_self, Bool.not_true, Bool.not_false, Bool.false_eq_true, Bool.true_eq_false, true_and, and_true, and_self, if_true, if_false, ite_true, ite_false])
local macro_rules | `(tactic| walk_at "kt") => `(tactic| (rw [Fu.s_seq]; walk_at "k2"))
local macro_rules | `(tactic| walk_at "k3") => `(tactic| try simp (decide := true) only [Fu.k_let, Fu.atI_3, Fu.atI_4, Fu.atI_5, Fu.k_ho, Fu.k_he, Fu.k_testC, Fu.k_andC, Fu.k_orC, Fu.k_notC, Fu.s_setC, Fu.s_retC, Fu.s_dropC, Fu.s_ifC, Fu.s_forC, Fu.sp_retC, Fu.sp_ifC, Fu.sp_setC, Fu.sp_if, Fu.sp_ret, Fu.sp_next, Fu.asR_mk, Fu.s_callRi, Fu.mulT_si, Fu.lenT_s, Fu.strXT_i, Fu.strST_i, Fu.strXT_s, Fu.strST_s, Fu.k_dget2, Fu.splitT_ss, Fu.predT_s, Fu.k_js0, Fu.k_js1, Fu.fmtT_s, Fu.fmtT_i, Fu.k_fmt, Fu.k_kg, List.take_succ_cons, List.take_zero, List.take_nil, eq_self, Fu.k_tru, Fu.truT_l, Fu.truT_d, Fu.s_ext, Fu.s_ddel, Fu.k_cbL, Fu.dgetT_d, Fu.dinT_d, Fu.keyT_i, Fu.asDc_d, Fu.k_dc, Fu.s_dput, Fu.dkeysT_d, Fu.k_c, Fu.k_var, Fu.k_op, Fu.k_un, Fu.k_nil, Fu.k_cons, Fu.k_star, Fu.k_tup, Fu.k_lst, Fu.k_cb, Fu.k_cbF, Fu.flatT_i, Fu.flatT_s, Fu.flatT_b, Fu.flatT_n, Fu.k_test, Fu.asB_bl, Fu.asI_int, Fu.k_not, Fu.k_and, Fu.k_or, Fu.k_yes, Fu.k_notV, Fu.k_andV, Fu.k_orV, Fu.k_if, Fu.k_oN, Fu.k_oS, Fu.k_sl, Fu.k_chain, Fu.k_isi, Fu.asS_str, Fu.k_kd, Fu.k_kin, Fu.k_lc, Fu.k_seq, Fu.k_r1, Fu.k_r2, Fu.s_next, Fu.s_set, Fu.s_own, Fu.s_asg, Fu.s_drop, Fu.s_ret, Fu.s_retN, Fu.s_brk, Fu.s_cnt, Fu.s_if, Fu.s_aug, Fu.k_gNm, Fu.k_gNil, Fu.k_gCons, Fu.k_gTp, Fu.asL_lst, Fu.asTp_tup, Fu.p_var, Fu.k_pth, Fu.p_ix, Fu.p_cm, id, Fu.s_app, Fu.s_pop, Fu.s_popD, Fu.s_rev, Fu.s_clr, Fu.s_put, Fu.s_callP, Fu.s_mvP, Fu.k_cbP, Fu.asP_mk, Fu.k_lcP, Fu.k_en, Fu.k_rv, Fu.k_zp, Fu.lstO_l, Fu.lstO_f, Fu.bOpT_bb, Fu.k_fld, Fu.asO_obj, Fu.s_for, Fu.s_while, Fu.ok_some, Fu.ok_ite, Fu.wipeT,
  Fu.addT_ii, Fu.addT_ll, Fu.addT_ss, Fu.addT_tt, Fu.catT_ll, Fu.subT_ii, Fu.mulT_ii, Fu.mulT_li, Fu.repT_li, Fu.fdivT_ii, Fu.modT_ii, Fu.powT_ii, Fu.negT_i, Fu.ltT_ii, Fu.leT_ii, Fu.gtT_ii, Fu.geT_ii, Fu.eqST_ii, Fu.eqST_ss, Fu.eqST_bb, Fu.eqT_ii, Fu.eqT_ss, Fu.eqT_bb, Fu.ok_oBl, Fu.ok_oNb, Fu.isNT_n, Fu.isNT_i, Fu.isNT_l, Fu.isNT_t, Fu.isNT_b, Fu.isNT_s, Fu.lenT_l, Fu.lenT_t, Fu.lenT_f, Fu.itemsT_l, Fu.itemsT_t, Fu.itemsT_f, Fu.lstT_l, Fu.lstT_t, Fu.lstT_f, Fu.tupT_l, Fu.tupT_t, Fu.ixT_l, Fu.ixT_t, Fu.ixT_f, Fu.intT_i, Fu.absT_i, Fu.max2T_i, Fu.min2T_i, Fu.slT_l, Fu.slLT_l, Fu.tyT_i, Fu.tyT_s, Fu.tyT_b, Fu.tyT_t, Fu.tyT_l, Fu.tyT_f, Fu.tyT_n,
  List.getElem?_cons_zero, List.getElem?_cons_succ, List.getD_cons_zero, List.getD_cons_succ, List.set_cons_zero, List.set_cons_succ, List.map_cons, List.map_nil, List.replicate, List.append_nil, List.cons_append, List.nil_append, List.length_cons, List.length_nil, Nat.reduceAdd, Nat.reduceSub, Nat.reduceLT, Nat.reduceLeDiff, Nat.zero_add, Int.reduceToNat, Int.reducePow, Int.reduceNeg, Mi.mulC_r, Mi.atI_0, Mi.atI_1, Mi.atI_2,
  subTy, decide_true, decide_false, Bool.or_self, Bool.or_true, Bool.true_or, Bool.or_false, Bool.false_or, Bool.and_true, Bool.true_and, Bool.and_false, Bool.false_and, Bool.and_self, Bool.not_true, Bool.not_false, Bool.false_eq_true, Bool.true_eq_false, true_and, and_true, and_self, if_true, if_false, ite_true, ite_false])
local macro_rules | `(tactic| walk_at "kr") => `(tactic| (rw [Fu.s_seq]; walk_at "k3"))
def S_law_source : FS :=
  (fSeqS (fSet (fC (.int 7)) 1)
      (fSeqS (fFor (fSeq (fVar 0)) (gtNm 2)
      (fSet (fOp modT (fOp addT (fOp addT (fOp mulT (fVar 1) (fC (.int 48271))) (fOp modT (fCB intT (fCons (fVar 2) fNil)) (fC (.int 2147483629)))) (fC (.int 13))) (fC (.int 2147483647))) 1))
      (fRet (fLst (fCons (fCB lstT (fCons (fVar 0) fNil)) (fCons (fC (.int 0)) (fCons (fC (.int 0)) (fCons (fOp addT (fVar 1) (fC (.int 1))) (fCons (fOp addT (fOp mulT (fVar 1) (fC (.int 5))) (fC (.int 3))) fNil)))))))))
abbrev U_law_source : List T → Option T := funT true 1 3 (S_law_source)
def S_law_draw : FS :=
  (fSeqS (fIfS (fAnd (fTest (fOp (oBl eqST) (fOp ixT (fVar 0) (fC (.int 2))) (fC (.int 0)))) (fTest (fOp ltT (fOp ixT (fVar 0) (fC (.int 1))) (fCB lenT (fCons (fOp ixT (fVar 0) (fC (.int 0))) fNil)))))
      (fSeqS (fSet (fOp ixT (fOp ixT (fVar 0) (fC (.int 0))) (fOp ixT (fVar 0) (fC (.int 1)))) 2)
      (fSeqS (fPut 0 (pVar 0) (fC (.int 1)) (fOp addT (fOp ixT (fVar 0) (fC (.int 1))) (fC (.int 1))))
      (fSeqS (fIfS (fTest (fOp ltT (fCB absT (fCons (fVar 2) fNil)) (fOp powT (fC (.int 10)) (fC (.int 18)))))
      (fRet (fOp modT (fCB intT (fCons (fVar 2) fNil)) (fVar 1)))
      fNext)
      (fPut 0 (pVar 0) (fC (.int 2)) (fCB absT (fCons (fVar 2) fNil))))))
      fNext)
      (fSeqS (fIfS (fTest (fOp gtT (fOp ixT (fVar 0) (fC (.int 2))) (fC (.int 0))))
      (fSeqS (fSet (fOp modT (fCB intT (fCons (fOp ixT (fVar 0) (fC (.int 2))) fNil)) (fVar 1)) 3)
      (fSeqS (fPut 0 (pVar 0) (fC (.int 2)) (fOp fdivT (fOp ixT (fVar 0) (fC (.int 2))) (fVar 1)))
      (fRet (fVar 3))))
      fNext)
      (fSeqS (fPut 0 (pVar 0) (fC (.int 3)) (fOp modT (fCB intT (fCons (fOp mulT (fOp ixT (fVar 0) (fC (.int 3))) (fC (.int 48271))) fNil)) (fC (.int 2147483647))))
      (fSeqS (fPut 0 (pVar 0) (fC (.int 4)) (fOp modT (fCB intT (fCons (fOp addT (fOp mulT (fOp ixT (fVar 0) (fC (.int 4))) (fC (.int 69621))) (fC (.int 11))) fNil)) (fC (.int 2147483629))))
      (fRet (fOp modT (fCB intT (fCons (fOp addT (fOp fdivT (fOp ixT (fVar 0) (fC (.int 3))) (fC (.int 8))) (fOp fdivT (fOp ixT (fVar 0) (fC (.int 4))) (fC (.int 16)))) fNil)) (fVar 1)))))))
abbrev U_law_draw : List T → Option T := funP true 0 2 4 (S_law_draw)
def S_law_words : FS :=
  (fSeqS (fSet (fC (.str "true false not and or div mod min max X F G U R W M var in start process when do skip justice compassion")) 0)
      (fRet (fOp splitT (fVar 0) (fC (.str " ")))))
abbrev U_law_words : List T → Option T := funT true 0 1 (S_law_words)
def S_law_number (F_law_draw : List T → Option T) : FS :=
  (fSeqS (fCallR F_law_draw 0 0 (fCons (fC .non) (fCons (fC (.int 8)) fNil)) 1)
      (fSeqS (fIfS (fTest (fOp ltT (fVar 1) (fC (.int 5))))
      (fRetC (fHo F_law_draw 0 0 (fCons (fC .non) (fCons (fC (.int 10)) fNil)) 2 (fLet (fVar 2))))
      fNext)
      (fSeqS (fIfS (fTest (fOp (oBl eqST) (fVar 1) (fC (.int 5))))
      (fRetC (fHo F_law_draw 0 0 (fCons (fC .non) (fCons (fC (.int 18)) fNil)) 2 (fLet (fCB intST (fCons (fOp addT (fC (.str "1")) (fOp mulT (fC (.str "0")) (fVar 2))) fNil)))))
      fNext)
      (fSeqS (fIfS (fTest (fOp (oBl eqST) (fVar 1) (fC (.int 6))))
      (fRetC (fHo F_law_draw 0 0 (fCons (fC .non) (fCons (fC (.int 18)) fNil)) 2 (fLet (fCB intST (fCons (fOp mulT (fC (.str "9")) (fOp addT (fC (.int 1)) (fVar 2))) fNil)))))
      fNext)
      (fRetC (fHo F_law_draw 0 0 (fCons (fC .non) (fCons (fOp powT (fC (.int 10)) (fC (.int 9))) fNil)) 2 (fHe (fOp mulT (fVar 2) (fOp powT (fC (.int 10)) (fC (.int 9)))) 3 (fHo F_law_draw 0 0 (fCons (fC .non) (fCons (fOp powT (fC (.int 10)) (fC (.int 9))) fNil)) 4 (fLet (fOp addT (fVar 3) (fVar 4)))))))))))
abbrev U_law_number (F_law_draw : List T → Option T) : List T → Option T := funP true 0 1 2 (S_law_number F_law_draw)
def S_law_name (F_law_words F_law_draw : List T → Option T) : FS :=
  (fSeqS (fSet (fCB F_law_words fNil) 1)
      (fSeqS (fSet (fC (.str "abcdefghijklmnopqrstuvwxyz")) 2)
      (fSeqS (fSet (fOp addT (fVar 2) (fC (.str "ABCDEFGHIJKLMNOPQRSTUVWXYZ0123456789_"))) 3)
      (fSeqS (fSetC (fHo F_law_draw 0 0 (fCons (fC .non) (fCons (fC (.int 26)) fNil)) 9 (fLet (fOp ixT (fVar 2) (fVar 9)))) 4)
      (fSeqS (fCallR F_law_draw 0 0 (fCons (fC .non) (fCons (fC (.int 4)) fNil)) 5)
      (fSeqS (fIfC (fTestC (fHo F_law_draw 0 0 (fCons (fC .non) (fCons (fC (.int 16)) fNil)) 9 (fLet (fOp (oBl eqST) (fVar 9) (fC (.int 5))))))
      (fSet (fC (.int 40)) 5)
      fNext)
      (fSeqS (fIfC (fTestC (fHo F_law_draw 0 0 (fCons (fC .non) (fCons (fC (.int 4)) fNil)) 9 (fLet (fOp (oBl eqST) (fVar 9) (fC (.int 3))))))
      (fSeqS (fSet (fLc (fSeq (fVar 1)) 8 (fTest (fUn (predT Txt.islower) (fVar 8))) (fVar 8) [8]) 7)
      (fSeqS (fSetC (fHo F_law_draw 0 0 (fCons (fC .non) (fCons (fC (.int 18)) fNil)) 9 (fLet (fOp ixT (fVar 7) (fVar 9)))) 4)
      (fSetC (fHo F_law_draw 0 0 (fCons (fC .non) (fCons (fCB lenT (fCons (fVar 4) fNil)) fNil)) 9 (fLet (fSl slT (fVar 4) foNone (foSome (fOp addT (fC (.int 1)) (fVar 9)))))) 4)))
      fNext)
      (fSeqS (fFor (fR1 (fVar 5)) (gtNm 6)
      (fSetC (fHo F_law_draw 0 0 (fCons (fC .non) (fCons (fC (.int 63)) fNil)) 9 (fLet (fOp addT (fVar 4) (fOp ixT (fVar 3) (fVar 9))))) 4))
      (fSeqS (fIfS (fTest (fOp (memDT false) (fVar 4) (fVar 1)))
      (fSet (fOp addT (fVar 4) (fC (.str "_"))) 4)
      fNext)
      (fRet (fVar 4)))))))))))
abbrev U_law_name (F_law_words F_law_draw : List T → Option T) : List T → Option T := funP true 0 1 9 (S_law_name F_law_words F_law_draw)
def S_law_names (F_law_draw F_law_name : List T → Option T) : FS :=
  (fSeqS (fOwn (fLst fNil) 1)
      (fSeqS (fForC (fHo F_law_draw 0 0 (fCons (fC .non) (fCons (fC (.int 4)) fNil)) 4 (fLet (fOp addT (fC (.int 1)) (fVar 4)))) (gtNm 2)
      (fSeqS (fCallR F_law_name 0 0 (fCons (fC .non) fNil) 3)
      (fSeqS (fIfS (fTest (fOp (memDT false) (fVar 3) (fVar 1)))
      (fSet (fOp addT (fCB maxLenT (fCons (fVar 1) fNil)) (fC (.str "_z"))) 3)
      fNext)
      (fApp 1 (pVar 1) (fVar 3)))))
      (fRet (fVar 1))))
abbrev U_law_names (F_law_draw F_law_name : List T → Option T) : List T → Option T := funP true 0 1 4 (S_law_names F_law_draw F_law_name)
def S_law_term (F_law_draw F_law_number F_law_term : List T → Option T) : FS :=
  (fSeqS (fIfS (fTest (fOp (oBl eqST) (fVar 1) (fC (.int 0))))
      (fSeqS (fIfC (fTestC (fHo F_law_draw 0 0 (fCons (fC .non) (fCons (fC (.int 3)) fNil)) 7 (fLet (fOp (oBl eqST) (fVar 7) (fC (.int 0))))))
      (fRetC (fHo F_law_number 0 0 (fCons (fC .non) fNil) 7 (fLet (fTup (fCons (fC (.str "number")) (fCons (fVar 7) fNil))))))
      fNext)
      (fRetC (fHo F_law_draw 0 0 (fCons (fC .non) (fCons (fCB lenT (fCons (fVar 2) fNil)) fNil)) 7 (fLet (fTup (fCons (fC (.str "name")) (fCons (fOp ixT (fVar 2) (fVar 7)) fNil)))))))
      fNext)
      (fSeqS (fCallR F_law_draw 0 0 (fCons (fC .non) (fCons (fC (.int 8)) fNil)) 3)
      (fSeqS (fIfS (fTest (fOp (oBl eqST) (fVar 3) (fC (.int 5))))
      (fRetC (fHo F_law_term 0 0 (fCons (fC .non) (fCons (fOp subT (fVar 1) (fC (.int 1))) (fCons (fVar 2) fNil))) 7 (fLet (fTup (fCons (fC (.str "negative")) (fCons (fVar 7) fNil))))))
      fNext)
      (fSeqS (fIfS (fTest (fOp gtT (fVar 3) (fC (.int 5))))
      (fSeqS (fSet (fOp ixT (fLst (fCons (fC (.str "quotient")) (fCons (fC (.str "remainder")) fNil))) (fOp subT (fVar 3) (fC (.int 6)))) 6)
      (fRetC (fHo F_law_term 0 0 (fCons (fC .non) (fCons (fOp subT (fVar 1) (fC (.int 1))) (fCons (fVar 2) fNil))) 7 (fHo F_law_number 0 0 (fCons (fC .non) fNil) 8 (fLet (fTup (fCons (fVar 6) (fCons (fVar 7) (fCons (fCB max2T (fCons (fC (.int 1)) (fCons (fVar 8) fNil))) fNil)))))))))
      fNext)
      (fSeqS (fCallR F_law_draw 0 0 (fCons (fC .non) (fCons (fVar 1) fNil)) 4)
      (fSeqS (fCallR F_law_term 0 0 (fCons (fC .non) (fCons (fVar 4) (fCons (fVar 2) fNil))) 5)
      (fSeqS (fSet (fOp ixT (fLst (fCons (fC (.str "plus")) (fCons (fC (.str "minus")) (fCons (fC (.str "times")) (fCons (fC (.str "least")) (fCons (fC (.str "most")) fNil)))))) (fVar 3)) 6)
      (fRetC (fHo F_law_term 0 0 (fCons (fC .non) (fCons (fOp subT (fOp subT (fVar 1) (fC (.int 1))) (fVar 4)) (fCons (fVar 2) fNil))) 7 (fLet (fTup (fCons (fVar 6) (fCons (fVar 5) (fCons (fVar 7) fNil))))))))))))))
abbrev U_law_term (F_law_draw F_law_number F_law_term : List T → Option T) : List T → Option T := funP true 0 3 7 (S_law_term F_law_draw F_law_number F_law_term)
def srcT (xs : List Int) (a r m1 m2 : Int) : T := .lst [.lst (xs.map T.int), .int a, .int r, .int m1, .int m2]
inductive Src : T → Prop where
  | mk (xs : List Int) (a r m1 m2 : Int) (hl : xs.length ≤ 1000) (ha : 0 ≤ a) (hr : 0 ≤ r) (h1 : 0 ≤ m1) (h2 : 0 ≤ m2) : Src (srcT xs a r m1 m2)
def SrcF (F : List T → Option T) : Prop := ∀ ns : List Int, ns.length ≤ 1000 → ∃ s, F [scT ns] = some s ∧ Src s
theorem src_F : SrcF SA.U_law_source := fun ns hl => by
  refine of_ok (k_fun rfl ?_)
  unfold SA.S_law_source scT
  walk_at "kr"
  refine n_cutF (fun e' => ∃ (m : Int) (o : Option T), 0 ≤ m ∧ e' = [some (.fro (ns.map T.int)), some (.int m), o]) ?_ ?_
  · walk_at "k3"
    refine for_inv (fun i e' => ∃ (m : Int) (o : Option T), 0 ≤ m ∧ e' = [some (.fro (ns.map T.int)), some (.int m), o]) ⟨7, none, by decide, rfl⟩ ?_ ?_
    · rintro i x _ hx ⟨m, o, h0, rfl⟩
      rw [List.getElem?_map] at hx
      obtain ⟨v, _, rfl⟩ := Option.map_eq_some_iff.mp hx
      walk_at "k3"
      exact ⟨_, _, by omega, rfl⟩
    · rintro _ ⟨m, o, h0, rfl⟩
      exact ⟨m, o, h0, rfl⟩
  rintro _ ⟨m, o, h0, rfl⟩
  walk_at "k3"
  exact .mk ns 0 0 _ _ hl (by omega) (by omega) (by omega) (by omega)
theorem at_int {zs : List Int} {z : Int} (h0 : 0 ≤ z) (h : z < zs.length) : atI (zs.map T.int) z = some (.int (celO zs z)) := by
  refine atI_ge h0 ?_
  unfold celO
  rw [List.getElem?_map, List.getElem?_eq_getElem (by omega), List.getD_eq_getElem?_getD, List.getElem?_eq_getElem (by omega)]; rfl
def DrwF (F : List T → Option T) : Prop := ∀ (s : T) (many : Int), Src s → 0 < many → many < 1073741824 → ∃ (x : Int) (s' : T), F [s, .int many] = some (.tup [.int x, s']) ∧ Src s' ∧ 0 ≤ x ∧ x < many
theorem drw_F : DrwF SA.U_law_draw := fun s many hs h0 hm => by
  have key : Ok (SA.U_law_draw [s, .int many]) fun v => ∃ (x : Int) (s' : T), v = .tup [.int x, s'] ∧ Src s' ∧ 0 ≤ x ∧ x < many := by
    obtain ⟨xs, a, r, m1, m2, hl, ha, hr, h1, h2⟩ := hs
    refine k_funP rfl ?_
    unfold SA.S_law_draw srcT
    have md : ∀ z : Int, 0 ≤ z % many ∧ z % many < many := fun z => ⟨Int.emod_nonneg _ (by omega), Int.emod_lt_of_pos _ h0⟩
    have len5 : ∀ a r m1 m2 : T, ([.lst (xs.map T.int), a, r, m1, m2] : List T).length = 5 := fun _ _ _ _ => rfl
    refine sp_seqR (fun e' => ∃ (a r : Int) (o2 : Option T), 0 ≤ a ∧ 0 ≤ r ∧ e' = [some (srcT xs a r m1 m2), some (.int many), o2, none]) ?_ ?_
    · rw [sp_if]
      walk_at "k3"
      refine w_ifE (fun c1 => ?_) fun c1 => ⟨a, r, none, ha, hr, rfl⟩
      refine w_ifE (fun c2 => ?_) fun c2 => ⟨a, r, none, ha, hr, rfl⟩
      have c2 := of_decide_eq_true c2
      rw [List.length_map] at c2
      have eA := at_int (zs := xs) ha c2
      generalize celO xs a = v at eA
      refine sp_seqR (fun e' => e' = [some (srcT xs a r m1 m2), some (.int many), some (.int v), none]) (sp_of ?_) ?_
      · walk_at "k3"
        rw [ok_eq eA]
        rfl
      rintro _ rfl
      unfold srcT
      refine sp_seqR (fun e' => e' = [some (srcT xs (a + 1) r m1 m2), some (.int many), some (.int v), none]) (sp_of ?_) ?_
      · walk_at "k3"
        rfl
      rintro _ rfl
      unfold srcT
      refine sp_seqR (fun e' => e' = [some (srcT xs (a + 1) r m1 m2), some (.int many), some (.int v), none]) ?_ ?_
      · rw [sp_if]
        walk_at "k3"
        refine w_ifE (fun c3 => ?_) fun c3 => rfl
        refine ⟨h0, ?_⟩
        exact ⟨_, _, rfl, .mk xs (a + 1) r m1 m2 hl (by omega) hr h1 h2, md _⟩
      rintro _ rfl
      unfold srcT
      refine sp_of ?_
      walk_at "k3"
      exact ⟨a + 1, _, _, by omega, by omega, rfl⟩
    · clear ha hr
      rintro _ ⟨a, r, o2, ha, hr, rfl⟩
      unfold srcT
      refine sp_seqR (fun e' => e' = [some (srcT xs a r m1 m2), some (.int many), o2, none]) ?_ ?_
      · rw [sp_if]
        walk_at "k3"
        refine w_ifE (fun c3 => ?_) fun c3 => rfl
        refine sp_seqR (fun e' => e' = [some (srcT xs a r m1 m2), some (.int many), o2, some (.int (r % many))]) (sp_of ?_) ?_
        · walk_at "k3"
          exact ⟨h0, rfl⟩
        rintro _ rfl
        unfold srcT
        refine sp_seqR (fun e' => e' = [some (srcT xs a (r / many) m1 m2), some (.int many), o2, some (.int (r % many))]) (sp_of ?_) ?_
        · walk_at "k3"
          exact ⟨⟨h0, hm⟩, rfl⟩
        rintro _ rfl
        unfold srcT
        rw [sp_ret]
        walk_at "k3"
        exact ⟨_, _, rfl, .mk xs a _ m1 m2 hl ha (Int.ediv_nonneg hr (by omega)) h1 h2, md _⟩
      rintro _ rfl
      unfold srcT
      refine sp_seqR (fun e' => e' = [some (srcT xs a r (m1 * 48271 % 2147483647) m2), some (.int many), o2, none]) (sp_of ?_) ?_
      · walk_at "k3"
        rfl
      rintro _ rfl
      unfold srcT
      refine sp_seqR (fun e' => e' = [some (srcT xs a r (m1 * 48271 % 2147483647) ((m2 * 69621 + 11) % 2147483629)), some (.int many), o2, none]) (sp_of ?_) ?_
      · walk_at "k3"
        rfl
      rintro _ rfl
      unfold srcT
      rw [sp_ret]
      walk_at "k3"
      exact ⟨h0, _, _, rfl, .mk xs a r _ _ hl ha hr (by omega) (by omega), md _⟩
  obtain ⟨v, q, x, s', rfl, h⟩ := key.eq
  exact ⟨x, s', q, h⟩
def kWords : List Str := ["true", "false", "not", "and", "or", "div", "mod", "min", "max", "X", "F", "G", "U", "R", "W", "M", "var", "in", "start", "process", "when", "do", "skip", "justice", "compassion"]
theorem split_words : Txt.split "true false not and or div mod min max X F G U R W M var in start process when do skip justice compassion" " " = kWords := by decide +kernel
def WrdF (F : List T → Option T) : Prop := F [] = some (.lst (kWords.map T.str))
theorem wrd_F : WrdF SA.U_law_words := by
  refine eq_ok ?_
  refine k_fun rfl ?_
  unfold SA.S_law_words
  walk_at "kr"
  rw [split_words]
theorem num_1 : ∀ d, d < 18 → ∃ n : Int, PySem.intText? (("1" : Str) ++ strRep "0" d) = some n ∧ 0 ≤ n ∧ n < 1000000000000000000 := by
  have : ∀ d, d < 18 → (match PySem.intText? (("1" : Str) ++ strRep "0" d) with | some n => decide (0 ≤ n ∧ n < 1000000000000000000) | none => false) = true := by decide +kernel
  intro d hd
  have h := this d hd
  split at h
  · rename_i n q; exact ⟨n, q, of_decide_eq_true h⟩
  · cases h
theorem num_9 : ∀ d, d < 18 → ∃ n : Int, PySem.intText? (strRep "9" (1 + d)) = some n ∧ 0 ≤ n ∧ n < 1000000000000000000 := by
  have : ∀ d, d < 18 → (match PySem.intText? (strRep "9" (1 + d)) with | some n => decide (0 ≤ n ∧ n < 1000000000000000000) | none => false) = true := by decide +kernel
  intro d hd
  have h := this d hd
  split at h
  · rename_i n q; exact ⟨n, q, of_decide_eq_true h⟩
  · cases h
theorem rep_len (a : Str) (n : Nat) : (strRep a n).length = a.length * n := by
  unfold strRep Str.length
  simp [List.length_flatten, List.sum_replicate_nat, Nat.mul_comm]
theorem app_len (a b : Str) : (a ++ b).length = a.length + b.length := Str.length_append a b
theorem len_0 : (Str.ofString "0").length = 1 := by decide
theorem len_1 : (Str.ofString "1").length = 1 := by decide
theorem len_9 : (Str.ofString "9").length = 1 := by decide
theorem intS_of {a : Str} {n : Int} (h : PySem.intText? a = some n) (hl : a.length ≤ 640) : intST [.str a] = some (.int n) := by
  unfold intST
  simp only [h, Option.bind, if_pos hl]
def NumF (F : List T → Option T) : Prop := ∀ s : T, Src s → ∃ (x : Int) (s' : T), F [s] = some (.tup [.int x, s']) ∧ Src s' ∧ 0 ≤ x ∧ x < 1000000000000000000
theorem num_F {FD : List T → Option T} (dF : DrwF FD) : NumF (SA.U_law_number FD) := fun s hs => by
  have key : Ok (SA.U_law_number FD [s]) fun v => ∃ (x : Int) (s' : T), v = .tup [.int x, s'] ∧ Src s' ∧ 0 ≤ x ∧ x < 1000000000000000000 := by
    refine k_funP rfl ?_
    unfold SA.S_law_number
    obtain ⟨p, s1, q1, hs1, p0, p1⟩ := dF s 8 hs (by decide) (by decide)
    refine sp_seq (fun e' => e' = [some s1, some (.int p)]) ?_ ?_
    · walk_at "k3"
      rw [ok_eq q1]
      rfl
    rintro _ rfl
    refine sp_seqR (fun e' => e' = [some s1, some (.int p)]) ?_ ?_
    · rw [sp_if]
      walk_at "k3"
      refine w_ifE (fun c3 => ?_) fun c3 => (by trivial)
      obtain ⟨x, s2, q2, hs2, x0, x1⟩ := dF s1 10 hs1 (by decide) (by decide)
      rw [ok_eq q2]
      walk_at "k3"
      exact ⟨_, _, rfl, hs2, x0, by omega⟩
    rintro _ rfl
    refine sp_seqR (fun e' => e' = [some s1, some (.int p)]) ?_ ?_
    · rw [sp_if]
      walk_at "k3"
      refine w_ifE (fun c3 => ?_) fun c3 => (by trivial)
      obtain ⟨x, s2, q2, hs2, x0, x1⟩ := dF s1 18 hs1 (by decide) (by decide)
      rw [ok_eq q2]
      walk_at "k3"
      refine ⟨⟨x0, by omega⟩, by rw [rep_len, len_1, len_0]; omega, ?_⟩
      obtain ⟨n, e, n0, n1⟩ := num_1 x.toNat (by omega)
      rw [ok_eq (intS_of e (by rw [app_len, rep_len, len_1, len_0]; omega))]
      exact ⟨_, _, rfl, hs2, n0, n1⟩
    rintro _ rfl
    refine sp_seqR (fun e' => e' = [some s1, some (.int p)]) ?_ ?_
    · rw [sp_if]
      walk_at "k3"
      refine w_ifE (fun c3 => ?_) fun c3 => (by trivial)
      obtain ⟨x, s2, q2, hs2, x0, x1⟩ := dF s1 18 hs1 (by decide) (by decide)
      rw [ok_eq q2]
      walk_at "k3"
      refine ⟨⟨by omega, by omega⟩, ?_⟩
      obtain ⟨n, e, n0, n1⟩ := num_9 x.toNat (by omega)
      rw [show (1 + x).toNat = 1 + x.toNat from by omega, ok_eq (intS_of e (by rw [rep_len, len_9]; omega))]
      exact ⟨_, _, rfl, hs2, n0, n1⟩
    rintro _ rfl
    rw [sp_retC]
    walk_at "k3"
    obtain ⟨x, s2, q2, hs2, x0, x1⟩ := dF s1 1000000000 hs1 (by decide) (by decide)
    rw [ok_eq q2]
    walk_at "k3"
    obtain ⟨y, s3, q3, hs3, y0, y1⟩ := dF s2 1000000000 hs2 (by decide) (by decide)
    rw [ok_eq q3]
    walk_at "k3"
    exact ⟨_, _, rfl, hs3, by omega, by omega⟩
  obtain ⟨v, q, x, s', rfl, h⟩ := key.eq
  exact ⟨x, s', q, h⟩
def lowC (c : Nat) : Bool := decide (97 ≤ c) && decide (c ≤ 122)
def nameC (c : Nat) : Bool := lowC c || (decide (65 ≤ c) && decide (c ≤ 90)) || (decide (48 ≤ c) && decide (c ≤ 57)) || decide (c = 95)
def NameS (nm : Str) : Prop := ∃ c cs, nm.cps.toList = c :: cs ∧ lowC c = true ∧ ∀ d ∈ cs, nameC d = true
structure NameOk (nm : Str) : Prop where
  chars : NameS nm
  free : nm ∉ kWords
theorem tls (a b : Str) : (a ++ b).cps.toList = a.cps.toList ++ b.cps.toList := TL.tl_append a b
theorem nameS_app {a b : Str} (h : NameS a) (hb : ∀ d ∈ b.cps.toList, nameC d = true) : NameS (a ++ b) := by
  obtain ⟨c, cs, e, h1, h2⟩ := h
  refine ⟨c, cs ++ b.cps.toList, by rw [tls, e]; rfl, h1, fun d hd => ?_⟩
  rcases List.mem_append.mp hd with hd | hd
  · exact h2 d hd
  · exact hb d hd
theorem words_us : ∀ w ∈ kWords, (95 : Nat) ∉ w.cps.toList := by decide +kernel
theorem us_free {a b : Str} (h : 95 ∈ b.cps.toList) : (a ++ b) ∉ kWords := fun z => words_us _ z (by rw [tls]; exact List.mem_append_right _ h)
theorem ixS {z : Str} {i : Int} (h0 : 0 ≤ i) (h1 : i < z.length) (hz : z.length ≤ 16777216) : ∃ c, c ∈ z.cps.toList ∧ ixT (.str z) (.int i) = some (.str ⟨#[c]⟩) := by
  have l : i.toNat < z.cps.toList.length := by
    have : z.length = z.cps.toList.length := by simp [Str.length]
    omega
  have e : z.cps.toList[i.toNat]? = some (z.cps.toList[i.toNat]'l) := List.getElem?_eq_getElem l
  refine ⟨_, List.getElem_mem l, ?_⟩
  unfold ixT
  simp only [if_pos hz, atI_ge h0 e, Option.map_some]
def smallS : Str := "abcdefghijklmnopqrstuvwxyz"
def charsS : Str := smallS ++ ("ABCDEFGHIJKLMNOPQRSTUVWXYZ0123456789_" : Str)
theorem small_low : ∀ c ∈ smallS.cps.toList, lowC c = true := by decide +kernel
theorem chars_name : ∀ c ∈ charsS.cps.toList, nameC c = true := by decide +kernel
theorem small_len : smallS.length = 26 := by decide +kernel
theorem chars_len : charsS.length = 63 := by decide +kernel
def lowWords : List Str := kWords.filter Txt.islower
theorem low_len : lowWords.length = 18 := by decide +kernel
theorem low_ok : ∀ w ∈ lowWords, (∀ c ∈ w.cps.toList, lowC c = true) ∧ 0 < w.length ∧ w.length ≤ 10 := by decide +kernel
theorem one_len (c : Nat) : (⟨#[c]⟩ : Str).length = 1 := rfl
theorem low_name {c : Nat} (h : lowC c = true) : nameC c = true := by unfold nameC; rw [h]; rfl
theorem cut_pre {w : Str} (hw : ∀ c ∈ w.cps.toList, lowC c = true) {k : Int} (h1 : 1 ≤ k) (h2 : k ≤ w.length) : NameS (cutS w none (some k)) ∧ ((cutS w none (some k)).length : Int) ≤ k := by
  have hl : w.length = w.cps.toList.length := by simp [Str.length]
  have e : (cutS w none (some k)).cps.toList = w.cps.toList.take k.toNat := by
    unfold cutS
    have e0 : HT.sIx w.length 0 none = 0 := rfl
    have e1 : HT.sIx w.length w.length (some k) = k.toNat := by
      rw [show k = ((k.toNat : Nat) : Int) from by omega, HT.sIx_nat]
      omega
    rw [e0, e1]
    simp
  constructor
  · cases q : w.cps.toList with
    | nil => rw [q] at hl; simp at hl; omega
    | cons c cs =>
      refine ⟨c, cs.take (k.toNat - 1), ?_, hw c (by rw [q]; exact List.mem_cons_self), fun d hd => low_name (hw d (by rw [q]; exact List.mem_cons_of_mem _ (List.mem_of_mem_take hd)))⟩
      rw [e, q, show k.toNat = (k.toNat - 1) + 1 from by omega, List.take_succ_cons]
      rfl
  · have : (cutS w none (some k)).length = (cutS w none (some k)).cps.toList.length := by simp [Str.length]
    rw [this, e, List.length_take]
    omega
def NamF (F : List T → Option T) : Prop := ∀ s : T, Src s → ∃ (nm : Str) (s' : T), F [s] = some (.tup [.str nm, s']) ∧ Src s' ∧ NameOk nm ∧ nm.length ≤ 51
theorem nam_F {FW FD : List T → Option T} (wF : WrdF FW) (dF : DrwF FD) : NamF (SA.U_law_name FW FD) := fun s hs => by
  have key : Ok (SA.U_law_name FW FD [s]) fun v => ∃ (nm : Str) (s' : T), v = .tup [.str nm, s'] ∧ Src s' ∧ NameOk nm ∧ nm.length ≤ 51 := by
    refine k_funP rfl ?_
    unfold SA.S_law_name
    refine sp_seq (fun e' => e' = [some s, some (.lst (kWords.map T.str)), none, none, none, none, none, none, none]) ?_ ?_
    · walk_at "k3"
      rw [ok_eq wF]
    rintro _ rfl
    obtain ⟨KW, eKW⟩ : ∃ KW, KW = T.lst (kWords.map T.str) := ⟨_, rfl⟩
    rw [← eKW]
    refine sp_seq (fun e' => e' = [some s, some KW, some (.str smallS), none, none, none, none, none, none]) ?_ ?_
    · walk_at "k3"
      rfl
    rintro _ rfl
    refine sp_seq (fun e' => e' = [some s, some KW, some (.str smallS), some (.str charsS), none, none, none, none, none]) ?_ ?_
    · walk_at "k3"
      rfl
    rintro _ rfl
    obtain ⟨x1, s1, q1, hs1, x10, x11⟩ := dF s 26 hs (by decide) (by decide)
    refine sp_seq (fun e' => ∃ nm : Str, e' = [some s1, some KW, some (.str smallS), some (.str charsS), some (.str nm), none, none, none, none] ∧ NameS nm ∧ nm.length ≤ 10) ?_ ?_
    · walk_at "k3"
      rw [ok_eq q1]
      walk_at "k3"
      obtain ⟨c, hc, e⟩ := ixS (z := smallS) x10 (by rw [small_len]; exact x11) (by rw [small_len]; decide)
      rw [ok_eq e]
      walk_at "k3"
      exact ⟨_, rfl, ⟨c, [], rfl, small_low c hc, fun d h => nomatch h⟩, by rw [one_len]; decide⟩
    rintro _ ⟨nm, rfl, hn1, hn2⟩
    obtain ⟨x2, s2, q2, hs2, x20, x21⟩ := dF s1 4 hs1 (by decide) (by decide)
    refine sp_seq (fun e' => e' = [some s2, some KW, some (.str smallS), some (.str charsS), some (.str nm), some (.int x2), none, none, none]) ?_ ?_
    · walk_at "k3"
      rw [ok_eq q2]
      walk_at "k3"
    rintro _ rfl
    obtain ⟨x3, s3, q3, hs3, x30, x31⟩ := dF s2 16 hs2 (by decide) (by decide)
    refine sp_seq (fun e' => ∃ sz : Int, 0 ≤ sz ∧ sz ≤ 40 ∧ e' = [some s3, some KW, some (.str smallS), some (.str charsS), some (.str nm), some (.int sz), none, none, none]) ?_ ?_
    · walk_at "k3"
      rw [ok_eq q3]
      walk_at "k3"
      refine w_ifE (fun c => ⟨40, by decide, by decide, rfl⟩) fun c => ⟨x2, x20, by omega, rfl⟩
    rintro _ ⟨sz, z0, z1, rfl⟩
    refine sp_seq (fun e' => ∃ (s4 : T) (nm : Str) (o7 : Option T), e' = [some s4, some KW, some (.str smallS), some (.str charsS), some (.str nm), some (.int sz), none, o7, none] ∧ Src s4 ∧ NameS nm ∧ nm.length ≤ 10) ?_ ?_
    · obtain ⟨x4, s4, q4, hs4, x40, x41⟩ := dF s3 4 hs3 (by decide) (by decide)
      walk_at "k3"
      rw [ok_eq q4]
      walk_at "k3"
      refine w_ifE (fun c => ?_) fun c => ⟨s4, nm, none, rfl, hs4, hn1, hn2⟩
      subst eKW
      rw [s_seq]
      walk_at "k3"
      rw [ok_eq (lc_ok (fun x => match x with | .str a => Txt.islower a | _ => false) id _ (fun x hx => ?_) fun x hx _ => rfl)]
      rotate_left
      · obtain ⟨a, ha, rfl⟩ := List.mem_map.mp hx
        refine eq_ok ?_
        walk_at "k3"
      rw [List.map_id, List.filter_map]
      rw [show (kWords.filter ((fun x => match x with | .str a => Txt.islower a | _ => false) ∘ T.str)) = lowWords from rfl]
      obtain ⟨KW, eKW⟩ : ∃ KW, KW = T.lst (kWords.map T.str) := ⟨_, rfl⟩
      rw [← eKW]
      obtain ⟨x5, s5, q5, hs5, x50, x51⟩ := dF s4 18 hs4 (by decide) (by decide)
      rw [s_seq]
      walk_at "k3"
      rw [ok_eq q5]
      walk_at "k3"
      refine ok_at x50 (by rw [List.length_map, low_len]; exact x51) fun t ht => ?_
      rw [List.getElem?_map] at ht
      obtain ⟨wd, hw, rfl⟩ := Option.map_eq_some_iff.mp ht
      obtain ⟨w1, w2, w3⟩ := low_ok wd (List.mem_of_getElem? hw)
      walk_at "k3"
      obtain ⟨x6, s6, q6, hs6, x60, x61⟩ := dF s5 wd.length hs5 (by omega) (by omega)
      refine ⟨by omega, ?_⟩
      rw [ok_eq q6]
      walk_at "k3"
      obtain ⟨n1, n2⟩ := cut_pre w1 (k := 1 + x6) (by omega) (by omega)
      rw [ok_eq (show slT (.str wd) none (some (1 + x6)) = some (.str (cutS wd none (some (1 + x6)))) from if_pos (by omega))]
      exact ⟨s6, _, _, rfl, hs6, n1, by omega⟩
    rintro _ ⟨s4, nm, o7, rfl, hs4, hn1, hn2⟩
    refine sp_seq (fun e' => ∃ (s5 : T) (nm : Str) (o6 : Option T), e' = [some s5, some KW, some (.str smallS), some (.str charsS), some (.str nm), some (.int sz), o6, o7, none] ∧ Src s5 ∧ NameS nm ∧ nm.length ≤ 50) ?_ ?_
    · walk_at "k3"
      refine ⟨by omega, ?_⟩
      refine for_inv (fun i e' => ∃ (s5 : T) (nm : Str) (o6 : Option T), e' = [some s5, some KW, some (.str smallS), some (.str charsS), some (.str nm), some (.int sz), o6, o7, none] ∧ Src s5 ∧ NameS nm ∧ nm.length ≤ 10 + i) ⟨s4, nm, none, rfl, hs4, hn1, hn2⟩ ?_ ?_
      · rintro i x _ hx ⟨s5, nm, o6, rfl, hs5, n1, n2⟩
        obtain ⟨il, rfl⟩ := rngT_get hx
        obtain ⟨x6, s6, q6, hs6, x60, x61⟩ := dF s5 63 hs5 (by decide) (by decide)
        walk_at "k3"
        rw [ok_eq q6]
        walk_at "k3"
        obtain ⟨c, hc, e⟩ := ixS (z := charsS) x60 (by rw [chars_len]; exact x61) (by rw [chars_len]; decide)
        rw [ok_eq e]
        walk_at "k3"
        rw [one_len]
        refine ⟨by omega, s6, _, _, rfl, hs6, nameS_app n1 fun d hd => ?_, by rw [app_len, one_len]; omega⟩
        have : d = c := by simpa using hd
        rw [this]
        exact chars_name c hc
      · rintro _ ⟨s5, nm, o6, rfl, hs5, n1, n2⟩
        rw [rngT_len] at n2
        exact ⟨s5, nm, o6, rfl, hs5, n1, by omega⟩
    rintro _ ⟨s5, nm, o6, rfl, hs5, n1, n2⟩
    refine sp_seq (fun e' => ∃ (nm : Str), e' = [some s5, some KW, some (.str smallS), some (.str charsS), some (.str nm), some (.int sz), o6, o7, none] ∧ NameOk nm ∧ nm.length ≤ 51) ?_ ?_
    · walk_at "k3"
      rw [eKW, ok_eq mem_strs]
      walk_at "k3"
      have l1 : (Str.ofString "_").length = 1 := by decide
      refine w_ifE (fun c => ?_) fun c => ⟨nm, rfl, ⟨n1, of_decide_eq_false (by simpa using c)⟩, by omega⟩
      refine ⟨by rw [l1]; omega, _, rfl, ⟨nameS_app n1 (by decide +kernel), us_free (by decide +kernel)⟩, by rw [app_len, l1]; omega⟩
    rintro _ ⟨nm, rfl, n1, n2⟩
    rw [sp_ret]
    walk_at "k3"
    exact ⟨_, _, rfl, hs5, n1, n2⟩
  obtain ⟨v, q, x, s', rfl, h⟩ := key.eq
  exact ⟨x, s', q, h⟩
def NmsF (F : List T → Option T) : Prop := ∀ s : T, Src s → ∃ (ns : List Str) (s' : T), F [s] = some (.tup [.lst (ns.map T.str), s']) ∧ Src s' ∧ 1 ≤ ns.length ∧ ns.length ≤ 4 ∧ ns.Nodup ∧ ∀ nm ∈ ns, NameOk nm ∧ nm.length ≤ 60
theorem nms_F {FD FN : List T → Option T} (dF : DrwF FD) (nF : NamF FN) : NmsF (SA.U_law_names FD FN) := fun s hs => by
  have key : Ok (SA.U_law_names FD FN [s]) fun v => ∃ (ns : List Str) (s' : T), v = .tup [.lst (ns.map T.str), s'] ∧ Src s' ∧ 1 ≤ ns.length ∧ ns.length ≤ 4 ∧ ns.Nodup ∧ ∀ nm ∈ ns, NameOk nm ∧ nm.length ≤ 60 := by
    refine k_funP rfl ?_
    unfold SA.S_law_names
    refine sp_seq (fun e' => e' = [some s, some (.lst []), none, none]) ?_ ?_
    · walk_at "k3"
    rintro _ rfl
    obtain ⟨x, s1, q1, hs1, x0, x1⟩ := dF s 4 hs (by decide) (by decide)
    refine sp_seq (fun e' => ∃ (s2 : T) (ns : List Str) (o2 o3 : Option T), e' = [some s2, some (.lst (ns.map T.str)), o2, o3] ∧ Src s2 ∧ 1 ≤ ns.length ∧ ns.length ≤ 4 ∧ ns.Nodup ∧ ∀ nm ∈ ns, NameOk nm ∧ nm.length ≤ 60) ?_ ?_
    · walk_at "k3"
      rw [ok_eq q1]
      walk_at "k3"
      refine ⟨by omega, ?_⟩
      refine for_inv (fun i e' => ∃ (s2 : T) (ns : List Str) (o2 o3 : Option T), e' = [some s2, some (.lst (ns.map T.str)), o2, o3] ∧ Src s2 ∧ ns.length = i ∧ ns.Nodup ∧ ∀ nm ∈ ns, NameOk nm ∧ nm.length ≤ 51 + 2 * i) ⟨s1, [], none, none, rfl, hs1, rfl, List.nodup_nil, fun nm h => nomatch h⟩ ?_ ?_
      · rintro i x _ hx ⟨s2, ns, o2, o3, rfl, hs2, hl, nd, hn⟩
        obtain ⟨il, rfl⟩ := rngT_get hx
        obtain ⟨nm, s3, q3, hs3, n1, n2⟩ := nF s2 hs2
        walk_at "k3"
        walk_at "kr"
        rw [ok_eq q3]
        walk_at "k3"
        refine n_cutF (fun e' => ∃ nm : Str, e' = [some s3, some (.lst (ns.map T.str)), some (.int (0 + (i : Int))), some (.str nm)] ∧ nm ∉ ns ∧ NameOk nm ∧ nm.length ≤ 51 + 2 * (i + 1)) ?_ ?_
        · walk_at "k3"
          rw [ok_eq mem_strs]
          walk_at "k3"
          refine w_ifE (fun c => ?_) fun c => ⟨nm, rfl, of_decide_eq_false (by simpa using c), n1, by omega⟩
          have c : nm ∈ ns := of_decide_eq_true (by simpa using c)
          have hp : 0 < ns.length := List.length_pos_of_mem c
          obtain ⟨l1, l2⟩ := MxL.long_spec hp
          have e1 : maxLenT [.lst (ns.map T.str)] = some (.str (MxL.longS ns)) := by
            unfold maxLenT
            simp only [strsT_map, Option.bind, if_pos (show 0 < ns.length ∧ ∀ y ∈ ns, y.length ≤ 16777216 from ⟨hp, fun y hy => by have := (hn y hy).2; omega⟩)]
          rw [ok_eq e1]
          walk_at "k3"
          have z2 : (Str.ofString "_z").length = 2 := by decide
          have := (hn _ l1).2
          refine ⟨by rw [z2]; omega, _, rfl, fun z => ?_, ⟨nameS_app (hn _ l1).1.chars (by decide +kernel), us_free (by decide +kernel)⟩, by rw [app_len, z2]; omega⟩
          have := l2 _ z
          rw [app_len, z2] at this
          omega
        rintro _ ⟨nm, rfl, m1, m2, m3⟩
        walk_at "k3"
        refine ⟨by rw [List.length_map]; omega, s3, ns ++ [nm], _, _, by rw [List.map_append]; rfl, hs3, by rw [List.length_append, hl]; rfl, ?_, fun y hy => ?_⟩
        · rw [List.nodup_append]
          exact ⟨nd, by simp, fun a ha b hb e => m1 (by rw [List.mem_singleton.mp hb] at e; rw [← e]; exact ha)⟩
        · rcases List.mem_append.mp hy with hy | hy
          · have := hn y hy; exact ⟨this.1, by omega⟩
          · rw [List.mem_singleton.mp hy]; exact ⟨m2, m3⟩
      · rintro _ ⟨s2, ns, o2, o3, rfl, hs2, hl, nd, hn⟩
        rw [rngT_len] at hl hn
        exact ⟨s2, ns, o2, o3, rfl, hs2, by omega, by omega, nd, fun nm h => by have := hn nm h; exact ⟨this.1, by omega⟩⟩
    rintro _ ⟨s2, ns, o2, o3, rfl, hs2, hl⟩
    rw [sp_ret]
    walk_at "k3"
    exact ⟨_, _, rfl, hs2, hl⟩
  obtain ⟨v, q, x, s', rfl, h⟩ := key.eq
  exact ⟨x, s', q, h⟩
abbrev namT (s : Str) : T := .tup [.str "name", .str s]
abbrev numT (v : Int) : T := .tup [.str "number", .int v]
def wDivs : List Str := ["quotient", "remainder"]
def wArith : List Str := ["plus", "minus", "times", "least", "most"]
def wCmps : List Str := ["equal", "below", "upto"]
def wCons : List Str := ["true", "false"]
def wOnes : List Str := ["not", "next", "eventually", "always"]
def wTwos : List Str := ["and", "or", "implies", "same", "until", "release", "unless", "strong"]
def ten18 : Int := 1000000000000000000
/-- terms with so many operators -/
inductive Tm (ns : List Str) : Nat → T → Prop where
  | num {v : Int} (h0 : 0 ≤ v) (h1 : v < ten18) : Tm ns 0 (numT v)
  | nam {s : Str} (h : s ∈ ns) : Tm ns 0 (namT s)
  | neg {k : Nat} {t : T} (h : Tm ns k t) : Tm ns (k + 1) (.tup [.str "negative", t])
  | div {k : Nat} {w : Str} {t : T} {v : Int} (hw : w ∈ wDivs) (h : Tm ns k t) (h0 : 1 ≤ v) (h1 : v < ten18) : Tm ns (k + 1) (.tup [.str w, t, .int v])
  | bin {a b : Nat} {w : Str} {t u : T} (hw : w ∈ wArith) (h : Tm ns a t) (h2 : Tm ns b u) : Tm ns (a + b + 1) (.tup [.str w, t, u])
/-- formulas -/
inductive Fm (ns : List Str) : Nat → T → Prop where
  | con {w : Str} (hw : w ∈ wCons) : Fm ns 0 (.tup [.str w])
  | cmp {a b : Nat} {w : Str} {t u : T} (hw : w ∈ wCmps) (h : Tm ns a t) (h2 : Tm ns b u) : Fm ns (a + b + 1) (.tup [.str w, t, u])
  | one {k : Nat} {w : Str} {t : T} (hw : w ∈ wOnes) (h : Fm ns k t) : Fm ns (k + 1) (.tup [.str w, t])
  | two {a b : Nat} {w : Str} {t u : T} (hw : w ∈ wTwos) (h : Fm ns a t) (h2 : Fm ns b u) : Fm ns (a + b + 1) (.tup [.str w, t, u])
theorem at_words {ws : List Str} {x : Int} (h0 : 0 ≤ x) (h1 : x < ws.length) : ∃ w ∈ ws, atI (ws.map T.str) x = some (.str w) := by
  have e : ws[x.toNat]? = some (ws[x.toNat]'(by omega)) := List.getElem?_eq_getElem _
  exact ⟨_, List.getElem_mem _, atI_ge h0 (by rw [List.getElem?_map, e]; rfl)⟩
def TermF (F : List T → Option T) (n : Nat) : Prop := ∀ (ns : List Str) (s : T), Src s → 1 ≤ ns.length → ns.length ≤ 1000 → ∃ (t s' : T), F [s, .int (n : Int), .lst (ns.map T.str)] = some (.tup [t, s']) ∧ Src s' ∧ Tm ns n t
theorem term_step {FD FN FT : List T → Option T} {n : Nat} (hn : n ≤ 1000) (dF : DrwF FD) (nF : NumF FN) (tF : ∀ m, m < n → TermF FT m) : TermF (SA.U_law_term FD FN FT) n := fun ns s hs hl hl2 => by
  have key : Ok (SA.U_law_term FD FN FT [s, .int (n : Int), .lst (ns.map T.str)]) fun v => ∃ (t s' : T), v = .tup [t, s'] ∧ Src s' ∧ Tm ns n t := by
    obtain ⟨NS, eNS⟩ : ∃ NS, NS = ns.map T.str := ⟨_, rfl⟩
    rw [← eNS]
    have lNS : NS.length = ns.length := by rw [eNS, List.length_map]
    have tF : ∀ (m : Nat) (s : T), m < n → Src s → ∃ (t s' : T), FT [s, .int (m : Int), .lst NS] = some (.tup [t, s']) ∧ Src s' ∧ Tm ns m t := fun m s hm hs => by rw [eNS]; exact tF m hm ns s hs hl hl2
    refine k_funP rfl ?_
    unfold SA.S_law_term
    by_cases c0 : n = 0
    · subst c0
      refine sp_seqR (fun _ => False) ?_ (fun _ h => h.elim)
      rw [sp_if]
      walk_at "k3"
      obtain ⟨x, s1, q1, hs1, x0, x1⟩ := dF s 3 hs (by decide) (by decide)
      refine sp_seqR (fun e' => e' = [some s1, some (.int 0), some (.lst NS), none, none, none, none]) ?_ ?_
      · rw [sp_ifC]
        walk_at "k3"
        rw [ok_eq q1]
        walk_at "k3"
        refine w_ifE (fun c => ?_) fun c => (by trivial)
        obtain ⟨v, s2, q2, hs2, v0, v1⟩ := nF s1 hs1
        rw [ok_eq q2]
        walk_at "k3"
        exact ⟨_, _, rfl, hs2, .num v0 v1⟩
      rintro _ rfl
      rw [sp_retC]
      walk_at "k3"
      obtain ⟨x, s2, q2, hs2, x0, x1⟩ := dF s1 NS.length hs1 (by omega) (by omega)
      rw [ok_eq q2]
      walk_at "k3"
      obtain ⟨nm, hm, e⟩ := at_words (ws := ns) x0 (by omega)
      rw [eNS, ok_eq e]
      walk_at "k3"
      exact ⟨_, _, rfl, hs2, .nam hm⟩
    obtain ⟨m, rfl⟩ : ∃ m, n = m + 1 := ⟨n - 1, by omega⟩
    obtain ⟨SZ, eSZ⟩ : ∃ SZ : Int, SZ = ((m + 1 : Nat) : Int) := ⟨_, rfl⟩
    rw [← eSZ]
    refine sp_seqR (fun e' => e' = [some s, some (.int SZ), some (.lst NS), none, none, none, none]) ?_ ?_
    · rw [sp_if]
      walk_at "k3"
      rw [decide_eq_false (show ¬ SZ = 0 by omega)]
      walk_at "k3"
    rintro _ rfl
    obtain ⟨p, s1, q1, hs1, p0, p1⟩ := dF s 8 hs (by decide) (by decide)
    refine sp_seq (fun e' => e' = [some s1, some (.int SZ), some (.lst NS), some (.int p), none, none, none]) ?_ ?_
    · walk_at "k3"
      rw [ok_eq q1]
      walk_at "k3"
    rintro _ rfl
    have eM : SZ - 1 = (m : Int) := by omega
    refine sp_seqR (fun e' => e' = [some s1, some (.int SZ), some (.lst NS), some (.int p), none, none, none] ∧ p ≠ 5) ?_ ?_
    · rw [sp_if]
      walk_at "k3"
      refine w_ifE (fun c => ?_) fun c => of_decide_eq_false c
      rw [eM]
      obtain ⟨t, s2, q2, hs2, ht⟩ := tF m s1 (by omega) hs1
      rw [ok_eq q2]
      walk_at "k3"
      exact ⟨_, _, rfl, hs2, .neg ht⟩
    rintro _ ⟨rfl, n5⟩
    by_cases c5 : p > 5
    · refine sp_seqR (fun _ => False) ?_ (fun _ h => h.elim)
      rw [sp_if]
      walk_at "k3"
      rw [if_pos (decide_eq_true c5)]
      obtain ⟨w, hw, e⟩ := at_words (ws := wDivs) (x := p - 6) (by omega) (by show p - 6 < 2; omega)
      refine sp_seq (fun e' => e' = [some s1, some (.int SZ), some (.lst NS), some (.int p), none, none, some (.str w)]) ?_ ?_
      · walk_at "k3"
        have e : atI [T.str "quotient", T.str "remainder"] (p - 6) = some (.str w) := e
        rw [ok_eq e]
      rintro _ rfl
      rw [sp_retC]
      walk_at "k3"
      rw [eM]
      obtain ⟨t, s2, q2, hs2, ht⟩ := tF m s1 (by omega) hs1
      rw [ok_eq q2]
      walk_at "k3"
      obtain ⟨v, s3, q3, hs3, v0, v1⟩ := nF s2 hs2
      rw [ok_eq q3]
      walk_at "k3"
      refine ⟨_, _, rfl, hs3, .div hw ht ?_ ?_⟩
      · split
        · omega
        · omega
      · unfold ten18; split
        · omega
        · omega
    refine sp_seqR (fun e' => e' = [some s1, some (.int SZ), some (.lst NS), some (.int p), none, none, none]) ?_ ?_
    · rw [sp_if]
      walk_at "k3"
      rw [if_neg (by rw [decide_eq_false c5]; decide)]
      trivial
    rintro _ rfl
    obtain ⟨l, s2, q2, hs2, l0, l1⟩ := dF s1 SZ hs1 (by omega) (by omega)
    refine sp_seq (fun e' => e' = [some s2, some (.int SZ), some (.lst NS), some (.int p), some (.int l), none, none]) ?_ ?_
    · walk_at "k3"
      rw [ok_eq q2]
      walk_at "k3"
    rintro _ rfl
    obtain ⟨a, rfl⟩ : ∃ a : Nat, l = (a : Int) := ⟨l.toNat, by omega⟩
    obtain ⟨t, s3, q3, hs3, ht⟩ := tF a s2 (by omega) hs2
    refine sp_seq (fun e' => e' = [some s3, some (.int SZ), some (.lst NS), some (.int p), some (.int (a : Int)), some t, none]) ?_ ?_
    · walk_at "k3"
      rw [ok_eq q3]
      walk_at "k3"
    rintro _ rfl
    obtain ⟨w, hw, e⟩ := at_words (ws := wArith) (x := p) p0 (by show p < 5; omega)
    refine sp_seq (fun e' => e' = [some s3, some (.int SZ), some (.lst NS), some (.int p), some (.int (a : Int)), some t, some (.str w)]) ?_ ?_
    · walk_at "k3"
      have e : atI [T.str "plus", T.str "minus", T.str "times", T.str "least", T.str "most"] p = some (.str w) := e
      rw [ok_eq e]
    rintro _ rfl
    rw [sp_retC]
    walk_at "k3"
    obtain ⟨u, s4, q4, hs4, hu⟩ := tF (m - a) s3 (by omega) hs3
    rw [show SZ - 1 - (a : Int) = ((m - a : Nat) : Int) from by omega, ok_eq q4]
    walk_at "k3"
    have hb := Tm.bin hw ht hu
    rw [show a + (m - a) + 1 = m + 1 from by omega] at hb
    exact ⟨_, _, rfl, hs4, hb⟩
  obtain ⟨v, q, x, s', rfl, h⟩ := key.eq
  exact ⟨x, s', q, h⟩
theorem term_F {F : Nat → List T → Option T} {FD FN : Nat → List T → Option T} (dF : ∀ k, DrwF (FD (k + 1))) (nF : ∀ k, NumF (FN (k + 2))) (hF : ∀ k xs, F (k + 1) xs = SA.U_law_term (FD k) (FN k) (F k) xs) : ∀ (n k : Nat), n ≤ 1000 → TermF (F (k + n + 3)) n := by
  intro n
  induction n using Nat.strongRecOn with
  | ind n ih =>
    intro k hn ns s hs hl hl2
    rw [show k + n + 3 = (k + n + 2) + 1 from rfl, hF]
    refine term_step hn (dF (k + n + 1)) (nF (k + n)) (fun m hm => ?_) ns s hs hl hl2
    have := ih m hm (k + (n - m) - 1) (by omega)
    rwa [show k + (n - m) - 1 + m + 3 = k + n + 2 from by omega] at this
end SA
namespace FA
open PySem L2 Mi Fu LA
local macro_rules | `(tactic| walk_at "kw") => `(tactic| try simp (decide := true) only [Fu.k_c, Fu.k_var, Fu.k_op, Fu.k_un, Fu.k_nil, Fu.k_cons, Fu.k_star, Fu.k_tup, Fu.k_lst, Fu.k_cb, Fu.k_cbF, Fu.flatT_i, Fu.flatT_s, Fu.flatT_b, Fu.flatT_n, Fu.k_test, Fu.asB_bl, Fu.asI_int, Fu.k_not, Fu.k_and, Fu.k_or, Fu.k_yes, Fu.k_notV, Fu.k_andV, Fu.k_orV, Fu.k_if, Fu.k_oN, Fu.k_oS, Fu.k_sl, Fu.k_chain, Fu.k_isi, Fu.asS_str, Fu.k_kd, Fu.k_kin, Fu.k_lc, Fu.k_seq, Fu.k_r1, Fu.k_r2, Fu.s_next, Fu.s_seq, Fu.s_set, Fu.s_own, Fu.s_asg, Fu.s_drop, Fu.s_ret, Fu.s_retN, Fu.s_brk, Fu.s_cnt, Fu.s_if, Fu.s_aug, Fu.k_gNm, Fu.k_gNil, Fu.k_gCons, Fu.k_gTp, Fu.asL_lst, Fu.asTp_tup, Fu.p_var, Fu.k_pth, Fu.p_ix, Fu.p_cm, id, Fu.s_app, Fu.s_pop, Fu.s_popD, Fu.s_rev, Fu.s_clr, Fu.s_put, Fu.s_callP, Fu.s_mvP, Fu.k_cbP, Fu.asP_mk, Fu.k_lcP, Fu.k_en, Fu.k_rv, Fu.k_zp, Fu.lstO_l, Fu.lstO_f, Fu.bOpT_bb, Fu.k_fld, Fu.asO_obj, Fu.s_for, Fu.s_while, Fu.ok_some, Fu.ok_ite, Fu.wipeT,
  Fu.addT_ii, Fu.addT_ll, Fu.addT_ss, Fu.addT_tt, Fu.catT_ll, Fu.subT_ii, Fu.mulT_ii, Fu.mulT_li, Fu.repT_li, Fu.fdivT_ii, Fu.modT_ii, Fu.powT_ii, Fu.negT_i, Fu.ltT_ii, Fu.leT_ii, Fu.gtT_ii, Fu.geT_ii, Fu.eqST_ii, Fu.eqST_ss, Fu.eqST_bb, Fu.eqT_ii, Fu.eqT_ss, Fu.eqT_bb, Fu.ok_oBl, Fu.ok_oNb, Fu.isNT_n, Fu.isNT_i, Fu.isNT_l, Fu.isNT_t, Fu.isNT_b, Fu.isNT_s, Fu.lenT_l, Fu.lenT_t, Fu.lenT_f, Fu.itemsT_l, Fu.itemsT_t, Fu.itemsT_f, Fu.lstT_l, Fu.lstT_t, Fu.lstT_f, Fu.tupT_l, Fu.tupT_t, Fu.ixT_l, Fu.ixT_t, Fu.ixT_f, Fu.intT_i, Fu.absT_i, Fu.max2T_i, Fu.min2T_i, Fu.slT_l, Fu.slLT_l, Fu.tyT_i, Fu.tyT_s, Fu.tyT_b, Fu.tyT_t, Fu.tyT_l, Fu.tyT_f, Fu.tyT_n,
  List.getElem?_cons_zero, List.getElem?_cons_succ, List.getD_cons_zero, List.getD_cons_succ, List.set_cons_zero, List.set_cons_succ, List.map_cons, List.map_nil, List.replicate, List.append_nil, List.cons_append, List.nil_append, List.length_cons, List.length_nil, Nat.reduceAdd, Nat.reduceSub, Nat.reduceLT, Nat.reduceLeDiff, Nat.zero_add, Int.reduceToNat, Int.reducePow, Int.reduceNeg, Mi.mulC_r, Mi.atI_0, Mi.atI_1, Mi.atI_2,
  subTy, decide_true, decide_false, Bool.or_self, Bool.or_true, Bool.true_or, Bool.or_false, Bool.false_or, Bool.and_true, Bool.true_and, Bool.and_false, Bool.false_and, Bool.and_self, Bool.not_true, Bool.not_false, Bool.false_eq_true, Bool.true_eq_false, true_and, and_true, and_self, if_true, if_false, ite_true, ite_false])
local macro_rules | `(tactic| walk_at "k1") => `(tactic| try simp (decide := true) only [Fu.k_c, Fu.k_var, Fu.k_op, Fu.k_un, Fu.k_nil, Fu.k_cons, Fu.k_star, Fu.k_tup, Fu.k_lst, Fu.k_cb, Fu.k_cbF, Fu.flatT_i, Fu.flatT_s, Fu.flatT_b, Fu.flatT_n, Fu.k_test, Fu.asB_bl, Fu.asI_int, Fu.k_not, Fu.k_and, Fu.k_or, Fu.k_yes, Fu.k_notV, Fu.k_andV, Fu.k_orV, Fu.k_if, Fu.k_oN, Fu.k_oS, Fu.k_sl, Fu.k_chain, Fu.k_isi, Fu.asS_str, Fu.k_kd, Fu.k_kin, Fu.k_lc, Fu.k_seq, Fu.k_r1, Fu.k_r2, Fu.s_next, Fu.s_set, Fu.s_own, Fu.s_asg, Fu.s_drop, Fu.s_ret, Fu.s_retN, Fu.s_brk, Fu.s_cnt, Fu.s_if, Fu.s_aug, Fu.k_gNm, Fu.k_gNil, Fu.k_gCons, Fu.k_gTp, Fu.asL_lst, Fu.asTp_tup, Fu.p_var, Fu.k_pth, Fu.p_ix, Fu.p_cm, id, Fu.s_app, Fu.s_pop, Fu.s_popD, Fu.s_rev, Fu.s_clr, Fu.s_put, Fu.s_callP, Fu.s_mvP, Fu.k_cbP, Fu.asP_mk, Fu.k_lcP, Fu.k_en, Fu.k_rv, Fu.k_zp, Fu.lstO_l, Fu.lstO_f, Fu.bOpT_bb, Fu.k_fld, Fu.asO_obj, Fu.s_for, Fu.s_while, Fu.ok_some, Fu.ok_ite, Fu.wipeT,
  Fu.addT_ii, Fu.addT_ll, Fu.addT_ss, Fu.addT_tt, Fu.catT_ll, Fu.subT_ii, Fu.mulT_ii, Fu.mulT_li, Fu.repT_li, Fu.fdivT_ii, Fu.modT_ii, Fu.powT_ii, Fu.negT_i, Fu.ltT_ii, Fu.leT_ii, Fu.gtT_ii, Fu.geT_ii, Fu.eqST_ii, Fu.eqST_ss, Fu.eqST_bb, Fu.eqT_ii, Fu.eqT_ss, Fu.eqT_bb, Fu.ok_oBl, Fu.ok_oNb, Fu.isNT_n, Fu.isNT_i, Fu.isNT_l, Fu.isNT_t, Fu.isNT_b, Fu.isNT_s, Fu.lenT_l, Fu.lenT_t, Fu.lenT_f, Fu.itemsT_l, Fu.itemsT_t, Fu.itemsT_f, Fu.lstT_l, Fu.lstT_t, Fu.lstT_f, Fu.tupT_l, Fu.tupT_t, Fu.ixT_l, Fu.ixT_t, Fu.ixT_f, Fu.intT_i, Fu.absT_i, Fu.max2T_i, Fu.min2T_i, Fu.slT_l, Fu.slLT_l, Fu.tyT_i, Fu.tyT_s, Fu.tyT_b, Fu.tyT_t, Fu.tyT_l, Fu.tyT_f, Fu.tyT_n,
  List.getElem?_cons_zero, List.getElem?_cons_succ, List.getD_cons_zero, List.getD_cons_succ, List.set_cons_zero, List.set_cons_succ, List.map_cons, List.map_nil, List.replicate, List.append_nil, List.cons_append, List.nil_append, List.length_cons, List.length_nil, Nat.reduceAdd, Nat.reduceSub, Nat.reduceLT, Nat.reduceLeDiff, Nat.zero_add, Int.reduceToNat, Int.reducePow, Int.reduceNeg, Mi.mulC_r, Mi.atI_0, Mi.atI_1, Mi.atI_2,
  subTy, decide_true, decide_false, Bool.or_self, Bool.or_true, Bool.true_or, Bool.or_false, Bool.false_or, Bool.and_true, Bool.true_and, Bool.and_false, Bool.false_and, Bool.and_self, Bool.not_true, Bool.not_false, Bool.false_eq_true, Bool.true_eq_false, true_and, and_true, and_self, if_true, if_false, ite_true, ite_false])
local macro_rules | `(tactic| walk_at "ks") => `(tactic| (rw [Fu.s_seq]; walk_at "k1"))
local macro_rules | `(tactic| walk_at "k2") => `(tactic| try simp (decide := true) only [Fu.k_tru, Fu.truT_l, Fu.truT_d, Fu.s_ext, Fu.s_ddel, Fu.k_cbL, Fu.dgetT_d, Fu.dinT_d, Fu.keyT_i, Fu.asDc_d, Fu.k_dc, Fu.s_dput, Fu.dkeysT_d, Fu.k_c, Fu.k_var, Fu.k_op, Fu.k_un, Fu.k_nil, Fu.k_cons, Fu.k_star, Fu.k_tup, Fu.k_lst, Fu.k_cb, Fu.k_cbF, Fu.flatT_i, Fu.flatT_s, Fu.flatT_b, Fu.flatT_n, Fu.k_test, Fu.asB_bl, Fu.asI_int, Fu.k_not, Fu.k_and, Fu.k_or, Fu.k_yes, Fu.k_notV, Fu.k_andV, Fu.k_orV, Fu.k_if, Fu.k_oN, Fu.k_oS, Fu.k_sl, Fu.k_chain, Fu.k_isi, Fu.asS_str, Fu.k_kd, Fu.k_kin, Fu.k_lc, Fu.k_seq, Fu.k_r1, Fu.k_r2, Fu.s_next, Fu.s_set, Fu.s_own, Fu.s_asg, Fu.s_drop, Fu.s_ret, Fu.s_retN, Fu.s_brk, Fu.s_cnt, Fu.s_if, Fu.s_aug, Fu.k_gNm, Fu.k_gNil, Fu.k_gCons, Fu.k_gTp, Fu.asL_lst, Fu.asTp_tup, Fu.p_var, Fu.k_pth, Fu.p_ix, Fu.p_cm, id, Fu.s_app, Fu.s_pop, Fu.s_popD, Fu.s_rev, Fu.s_clr, Fu.s_put, Fu.s_callP, Fu.s_mvP, Fu.k_cbP, Fu.asP_mk, Fu.k_lcP, Fu.k_en, Fu.k_rv, Fu.k_zp, Fu.lstO_l, Fu.lstO_f, Fu.bOpT_bb, Fu.k_fld, Fu.asO_obj, Fu.s_for, Fu.s_while, Fu.ok_some, Fu.ok_ite, Fu.wipeT,
  Fu.addT_ii, Fu.addT_ll, Fu.addT_ss, Fu.addT_tt, Fu.catT_ll, Fu.subT_ii, Fu.mulT_ii, Fu.mulT_li, Fu.repT_li, Fu.fdivT_ii, Fu.modT_ii, Fu.powT_ii, Fu.negT_i, Fu.ltT_ii, Fu.leT_ii, Fu.gtT_ii, Fu.geT_ii, Fu.eqST_ii, Fu.eqST_ss, Fu.eqST_bb, Fu.eqT_ii, Fu.eqT_ss, Fu.eqT_bb, Fu.ok_oBl, Fu.ok_oNb, Fu.isNT_n, Fu.isNT_i, Fu.isNT_l, Fu.isNT_t, Fu.isNT_b, Fu.isNT_s, Fu.lenT_l, Fu.lenT_t, Fu.lenT_f, Fu.itemsT_l, Fu.itemsT_t, Fu.itemsT_f, Fu.lstT_l, Fu.lstT_t, Fu.lstT_f, Fu.tupT_l, Fu.tupT_t, Fu.ixT_l, Fu.ixT_t, Fu.ixT_f, Fu.intT_i, Fu.absT_i, Fu.max2T_i, Fu.min2T_i, Fu.slT_l, Fu.slLT_l, Fu.tyT_i, Fu.tyT_s, Fu.tyT_b, Fu.tyT_t, Fu.tyT_l, Fu.tyT_f, Fu.tyT_n,
  List.getElem?_cons_zero, List.getElem?_cons_succ, List.getD_cons_zero, List.getD_cons_succ, List.set_cons_zero, List.set_cons_succ, List.map_cons, List.map_nil, List.replicate, List.append_nil, List.cons_append, List.nil_append, List.length_cons, List.length_nil, Nat.reduceAdd, Nat.reduceSub, Nat.reduceLT, Nat.reduceLeDiff, Nat.zero_add, Int.reduceToNat, Int.reducePow, Int.reduceNeg, Mi.mulC_r, Mi.atI_0, Mi.atI_1, Mi.atI_2,
  subTy, decide_true, decide_false, Bool.or_self, Bool.or_true, Bool.true_or, Bool.or_false, Bool.false_or, Bool.and_true, Bool.true_and, Bool.and_false, Bool.false_and, Bool.and_self, Bool.not_true, Bool.not_false, Bool.false_eq_true, Bool.true_eq_false, true_and, and_true, and_self, if_true, if_false, ite_true, ite_false])
local macro_rules | `(tactic| walk_at "kt") => `(tactic| (rw [Fu.s_seq]; walk_at "k2"))
local macro_rules | `(tactic| walk_at "k3") => `(tactic| try simp (decide := true) only [Fu.k_let, Fu.atI_3, Fu.atI_4, Fu.atI_5, Fu.k_ho, Fu.k_he, Fu.k_testC, Fu.k_andC, Fu.k_orC, Fu.k_notC, Fu.s_setC, Fu.s_retC, Fu.s_dropC, Fu.s_ifC, Fu.s_forC, Fu.sp_retC, Fu.sp_ifC, Fu.sp_setC, Fu.sp_if, Fu.sp_ret, Fu.sp_next, Fu.asR_mk, Fu.s_callRi, Fu.mulT_si, Fu.lenT_s, Fu.strXT_i, Fu.strST_i, Fu.strXT_s, Fu.strST_s, Fu.k_dget2, Fu.splitT_ss, Fu.predT_s, Fu.k_js0, Fu.k_js1, Fu.fmtT_s, Fu.fmtT_i, Fu.k_fmt, Fu.k_kg, List.take_succ_cons, List.take_zero, List.take_nil, eq_self, Fu.k_tru, Fu.truT_l, Fu.truT_d, Fu.s_ext, Fu.s_ddel, Fu.k_cbL, Fu.dgetT_d, Fu.dinT_d, Fu.keyT_i, Fu.asDc_d, Fu.k_dc, Fu.s_dput, Fu.dkeysT_d, Fu.k_c, Fu.k_var, Fu.k_op, Fu.k_un, Fu.k_nil, Fu.k_cons, Fu.k_star, Fu.k_tup, Fu.k_lst, Fu.k_cb, Fu.k_cbF, Fu.flatT_i, Fu.flatT_s, Fu.flatT_b, Fu.flatT_n, Fu.k_test, Fu.asB_bl, Fu.asI_int, Fu.k_not, Fu.k_and, Fu.k_or, Fu.k_yes, Fu.k_notV, Fu.k_andV, Fu.k_orV, Fu.k_if, Fu.k_oN, Fu.k_oS, Fu.k_sl, Fu.k_chain, Fu.k_isi, Fu.asS_str, Fu.k_kd, Fu.k_kin, Fu.k_lc, Fu.k_seq, Fu.k_r1, Fu.k_r2, Fu.s_next, Fu.s_set, Fu.s_own, Fu.s_asg, Fu.s_drop, Fu.s_ret, Fu.s_retN, Fu.s_brk, Fu.s_cnt, Fu.s_if, Fu.s_aug, Fu.k_gNm, Fu.k_gNil, Fu.k_gCons, Fu.k_gTp, Fu.asL_lst, Fu.asTp_tup, Fu.p_var, Fu.k_pth, Fu.p_ix, Fu.p_cm, id, Fu.s_app, Fu.s_pop, Fu.s_popD, Fu.s_rev, Fu.s_clr, Fu.s_put, Fu.s_callP, Fu.s_mvP, Fu.k_cbP, Fu.asP_mk, Fu.k_lcP, Fu.k_en, Fu.k_rv, Fu.k_zp, Fu.lstO_l, Fu.lstO_f, Fu.bOpT_bb, Fu.k_fld, Fu.asO_obj, Fu.s_for, Fu.s_while, Fu.ok_some, Fu.ok_ite, Fu.wipeT,
  Fu.addT_ii, Fu.addT_ll, Fu.addT_ss, Fu.addT_tt, Fu.catT_ll, Fu.subT_ii, Fu.mulT_ii, Fu.mulT_li, Fu.repT_li, Fu.fdivT_ii, Fu.modT_ii, Fu.powT_ii, Fu.negT_i, Fu.ltT_ii, Fu.leT_ii, Fu.gtT_ii, Fu.geT_ii, Fu.eqST_ii, Fu.eqST_ss, Fu.eqST_bb, Fu.eqT_ii, Fu.eqT_ss, Fu.eqT_bb, Fu.ok_oBl, Fu.ok_oNb, Fu.isNT_n, Fu.isNT_i, Fu.isNT_l, Fu.isNT_t, Fu.isNT_b, Fu.isNT_s, Fu.lenT_l, Fu.lenT_t, Fu.lenT_f, Fu.itemsT_l, Fu.itemsT_t, Fu.itemsT_f, Fu.lstT_l, Fu.lstT_t, Fu.lstT_f, Fu.tupT_l, Fu.tupT_t, Fu.ixT_l, Fu.ixT_t, Fu.ixT_f, Fu.intT_i, Fu.absT_i, Fu.max2T_i, Fu.min2T_i, Fu.slT_l, Fu.slLT_l, Fu.tyT_i, Fu.tyT_s, Fu.tyT_b, Fu.tyT_t, Fu.tyT_l, Fu.tyT_f, Fu.tyT_n,
  List.getElem?_cons_zero, List.getElem?_cons_succ, List.getD_cons_zero, List.getD_cons_succ, List.set_cons_zero, List.set_cons_succ, List.map_cons, List.map_nil, List.replicate, List.append_nil, List.cons_append, List.nil_append, List.length_cons, List.length_nil, Nat.reduceAdd, Nat.reduceSub, Nat.reduceLT, Nat.reduceLeDiff, Nat.zero_add, Int.reduceToNat, Int.reducePow, Int.reduceNeg, Mi.mulC_r, Mi.atI_0, Mi.atI_1, Mi.atI_2,
  subTy, decide_true, decide_false, Bool.or_self, Bool.or_true, Bool.true_or, Bool.or_false, Bool.false_or, Bool.and_true, Bool.true_and, Bool.and_false, Bool.false_and, Bool.and_self, Bool.not_true, Bool.not_false, Bool.false_eq_true, Bool.true_eq_false, true_and, and_true, and_self, if_true, if_false, ite_true, ite_false])
local macro_rules | `(tactic| walk_at "kr") => `(tactic| (rw [Fu.s_seq]; walk_at "k3"))
def k_COMPARISONS : List D := [("equal" : Str), ("below" : Str), ("upto" : Str)].map D.str
def S_law_names : FS :=
  (fSeqS (fSet (fOp ixT (fC (.str "abcdefghijklmnopqrstuvwxyz")) (fOp modT (fCB intT (fCons (fVar 0) fNil)) (fC (.int 26)))) 2)
      (fSeqS (fSet (fOp modT (fOp fdivT (fCB intT (fCons (fVar 0) fNil)) (fC (.int 26))) (fC (.int 4))) 3)
      (fSeqS (fOwn (fLst fNil) 4)
      (fSeqS (fFor (fR1 (fVar 1)) (gtNm 5)
      (fIfS (fTest (fOp (oBl eqST) (fVar 3) (fC (.int 0))))
      (fApp 4 (pVar 4) (fOp addT (fVar 2) (fOp mulT (fC (.str "0")) (fVar 5))))
      (fIfS (fTest (fOp (oBl eqST) (fVar 3) (fC (.int 1))))
      (fApp 4 (pVar 4) (fOp addT (fOp addT (fVar 2) (fC (.str "_"))) (fOp ixT (fC (.str "zyxw")) (fVar 5))))
      (fIfS (fTest (fOp (oBl eqST) (fVar 3) (fC (.int 2))))
      (fApp 4 (pVar 4) (fOp addT (fOp addT (fOp ixT (fC (.str "dcba")) (fVar 5)) (fVar 2)) (fC (.str "7"))))
      (fApp 4 (pVar 4) (fOp addT (fOp addT (fVar 2) (fC (.str "Q"))) (fOp ixT (fC (.str "DBCA")) (fVar 5))))))))
      (fRet (fVar 4))))))
abbrev U_law_names : List T → Option T := funT true 2 6 (S_law_names)
def S_law_term : FS :=
  (fSeqS (fSet (fTup (fCons (fC (.str "name")) (fCons (fOp ixT (fVar 1) (fOp modT (fOp fdivT (fCB intT (fCons (fVar 0) fNil)) (fC (.int 16))) (fCB lenT (fCons (fVar 1) fNil)))) fNil))) 3)
      (fSeqS (fSet (fTup (fCons (fC (.str "name")) (fCons (fOp ixT (fVar 1) (fOp modT (fOp fdivT (fCB intT (fCons (fVar 0) fNil)) (fC (.int 48))) (fCB lenT (fCons (fVar 1) fNil)))) fNil))) 4)
      (fSeqS (fSet (fTup (fCons (fC (.str "number")) (fCons (fOp modT (fOp fdivT (fCB intT (fCons (fVar 0) fNil)) (fC (.int 48))) (fC (.int 5))) fNil))) 5)
      (fSeqS (fSet (fOp addT (fC (.int 1)) (fOp modT (fOp fdivT (fCB intT (fCons (fVar 0) fNil)) (fC (.int 48))) (fC (.int 5)))) 6)
      (fSeqS (fSet (fLst (fCons (fVar 3) (fCons (fVar 3) (fCons (fVar 3) (fCons (fVar 3) (fCons (fVar 5) (fCons (fVar 5) (fCons (fVar 5) (fCons (fTup (fCons (fC (.str "number")) (fCons (fVar 2) fNil))) (fCons (fTup (fCons (fC (.str "plus")) (fCons (fVar 3) (fCons (fVar 5) fNil)))) fNil)))))))))) 7)
      (fSeqS (fSet (fOp addT (fVar 7) (fLst (fCons (fTup (fCons (fC (.str "minus")) (fCons (fVar 3) (fCons (fVar 4) fNil)))) (fCons (fTup (fCons (fC (.str "times")) (fCons (fVar 3) (fCons (fVar 4) fNil)))) (fCons (fTup (fCons (fC (.str "negative")) (fCons (fVar 3) fNil))) (fCons (fTup (fCons (fC (.str "quotient")) (fCons (fVar 3) (fCons (fVar 6) fNil)))) fNil)))))) 7)
      (fSeqS (fSet (fOp addT (fVar 7) (fLst (fCons (fTup (fCons (fC (.str "remainder")) (fCons (fVar 4) (fCons (fVar 6) fNil)))) (fCons (fTup (fCons (fC (.str "least")) (fCons (fVar 3) (fCons (fVar 5) fNil)))) (fCons (fTup (fCons (fC (.str "most")) (fCons (fTup (fCons (fC (.str "negative")) (fCons (fVar 3) fNil))) (fCons (fVar 4) fNil)))) fNil))))) 7)
      (fRet (fOp ixT (fVar 7) (fOp modT (fCB intT (fCons (fVar 0) fNil)) (fC (.int 16))))))))))))
abbrev U_law_term : List T → Option T := funT false 3 8 (S_law_term)
def Snames_in (Fnote_names : List T → Option T) : FS :=
  (fSeqS (fOwn fDNew 1)
      (fSeqS (fCallP Fnote_names 1 1 (fCons (fVar 0) (fCons (fC .non) fNil)))
      (fRet (fCB dkeysT (fCons (fVar 1) fNil)))))
abbrev Unames_in (Fnote_names : List T → Option T) : List T → Option T := funT true 1 2 (Snames_in Fnote_names)
def Snote_names (Fparts_of Fnote_names : List T → Option T) : FS :=
  (fSeqS (fIfS (fTest (fOp (oBl eqST) (fOp ixT (fVar 0) (fC (.int 0))) (fC (.str "name"))))
      (fSeqS (fDPut 1 (pVar 1) (fOp ixT (fVar 0) (fC (.int 1))) (fC (.bl true)))
      fRetN)
      fNext)
      (fFor (fSeq (fCB Fparts_of (fCons (fVar 0) fNil))) (gtNm 2)
      (fCallP Fnote_names 1 1 (fCons (fVar 2) (fCons (fC .non) fNil)))))
abbrev Unote_names (Fparts_of Fnote_names : List T → Option T) : List T → Option T := funP false 1 2 3 (Snote_names Fparts_of Fnote_names)
def Sparts_of : FS :=
  (fRet (fLc (fSeq (fSl slT (fVar 0) (foSome (fC (.int 1))) foNone)) 1 (fTest (fIsi Ty.tuple (fVar 1))) (fVar 1) [1]))
abbrev Uparts_of : List T → Option T := funT true 1 2 (Sparts_of)
def Snumber_of (Fnumber_of Fcombined : List T → Option T) : FS :=
  (fSeqS (fSet (fOp ixT (fVar 0) (fC (.int 0))) 2)
      (fSeqS (fIfS (fTest (fOp (oBl eqST) (fVar 2) (fC (.str "number"))))
      (fRet (fOp ixT (fVar 0) (fC (.int 1))))
      fNext)
      (fSeqS (fIfS (fTest (fOp (oBl eqST) (fVar 2) (fC (.str "name"))))
      (fRet (fOp dgetT (fVar 1) (fOp ixT (fVar 0) (fC (.int 1)))))
      fNext)
      (fSeqS (fSet (fCB Fnumber_of (fCons (fOp ixT (fVar 0) (fC (.int 1))) (fCons (fVar 1) fNil))) 3)
      (fSeqS (fIfS (fTest (fOp (oBl eqST) (fVar 2) (fC (.str "negative"))))
      (fRet (fUn negT (fVar 3)))
      fNext)
      (fSeqS (fIfS (fTest (fOp (oBl eqST) (fVar 2) (fC (.str "quotient"))))
      (fRet (fOp fdivT (fVar 3) (fOp ixT (fVar 0) (fC (.int 2)))))
      fNext)
      (fSeqS (fIfS (fTest (fOp (oBl eqST) (fVar 2) (fC (.str "remainder"))))
      (fRet (fOp modT (fVar 3) (fOp ixT (fVar 0) (fC (.int 2)))))
      fNext)
      (fRet (fCB Fcombined (fCons (fVar 2) (fCons (fVar 3) (fCons (fCB Fnumber_of (fCons (fOp ixT (fVar 0) (fC (.int 2))) (fCons (fVar 1) fNil))) fNil))))))))))))
abbrev Unumber_of (Fnumber_of Fcombined : List T → Option T) : List T → Option T := funT false 2 4 (Snumber_of Fnumber_of Fcombined)
def Scombined : FS :=
  (fSeqS (fIfS (fTest (fOp (oBl eqST) (fVar 0) (fC (.str "plus"))))
      (fRet (fOp addT (fVar 1) (fVar 2)))
      fNext)
      (fSeqS (fIfS (fTest (fOp (oBl eqST) (fVar 0) (fC (.str "minus"))))
      (fRet (fOp subT (fVar 1) (fVar 2)))
      fNext)
      (fSeqS (fIfS (fTest (fOp (oBl eqST) (fVar 0) (fC (.str "times"))))
      (fRet (fOp mulT (fVar 1) (fVar 2)))
      fNext)
      (fSeqS (fIfS (fTest (fOp (oBl eqST) (fVar 0) (fC (.str "least"))))
      (fRet (fCB min2T (fCons (fVar 1) (fCons (fVar 2) fNil))))
      fNext)
      (fRet (fCB max2T (fCons (fVar 1) (fCons (fVar 2) fNil))))))))
abbrev Ucombined : List T → Option T := funT false 3 3 (Scombined)
def Sholds (Fnumber_of Fholds Fconnected : List T → Option T) : FS :=
  (fSeqS (fSet (fOp ixT (fVar 0) (fC (.int 0))) 2)
      (fSeqS (fIfS (fOr (fTest (fOp (oBl eqST) (fVar 2) (fC (.str "true")))) (fTest (fOp (oBl eqST) (fVar 2) (fC (.str "false")))))
      (fRet (fOp (oBl eqST) (fVar 2) (fC (.str "true"))))
      fNext)
      (fSeqS (fIfS (fTest (fOp (oBl eqST) (fVar 2) (fC (.str "equal"))))
      (fRet (fOp (oBl eqT) (fCB Fnumber_of (fCons (fOp ixT (fVar 0) (fC (.int 1))) (fCons (fVar 1) fNil))) (fCB Fnumber_of (fCons (fOp ixT (fVar 0) (fC (.int 2))) (fCons (fVar 1) fNil)))))
      fNext)
      (fSeqS (fIfS (fTest (fOp (oBl eqST) (fVar 2) (fC (.str "below"))))
      (fRet (fOp ltT (fCB Fnumber_of (fCons (fOp ixT (fVar 0) (fC (.int 1))) (fCons (fVar 1) fNil))) (fCB Fnumber_of (fCons (fOp ixT (fVar 0) (fC (.int 2))) (fCons (fVar 1) fNil)))))
      fNext)
      (fSeqS (fIfS (fTest (fOp (oBl eqST) (fVar 2) (fC (.str "upto"))))
      (fRet (fOp leT (fCB Fnumber_of (fCons (fOp ixT (fVar 0) (fC (.int 1))) (fCons (fVar 1) fNil))) (fCB Fnumber_of (fCons (fOp ixT (fVar 0) (fC (.int 2))) (fCons (fVar 1) fNil)))))
      fNext)
      (fSeqS (fSet (fCB Fholds (fCons (fOp ixT (fVar 0) (fC (.int 1))) (fCons (fVar 1) fNil))) 3)
      (fSeqS (fIfS (fTest (fOp (oBl eqST) (fVar 2) (fC (.str "not"))))
      (fRet (fNotV (fVar 3)))
      fNext)
      (fRet (fCB Fconnected (fDef (fCons (fVar 2) (fCons (fVar 3) (fCons (fCB Fholds (fCons (fOp ixT (fVar 0) (fC (.int 2))) (fCons (fVar 1) fNil))) fNil))) [.bl true]))))))))))
abbrev Uholds (Fnumber_of Fholds Fconnected : List T → Option T) : List T → Option T := funT false 2 4 (Sholds Fnumber_of Fholds Fconnected)
inductive CmpW where | equal | below | upto
  deriving DecidableEq
inductive UnW where | not | next | eventually | always
  deriving DecidableEq
inductive BiW where | and | or | implies | same | until | release | unless | strong
  deriving DecidableEq
inductive TmW where | plus | minus | times | least | most
  deriving DecidableEq
inductive DvW where | quotient | remainder
  deriving DecidableEq
def CmpW.s : CmpW → Str
  | .equal => "equal" | .below => "below" | .upto => "upto"
def UnW.s : UnW → Str
  | .not => "not" | .next => "next" | .eventually => "eventually" | .always => "always"
def BiW.s : BiW → Str
  | .and => "and" | .or => "or" | .implies => "implies" | .same => "same" | .until => "until" | .release => "release" | .unless => "unless" | .strong => "strong"
def TmW.s : TmW → Str
  | .plus => "plus" | .minus => "minus" | .times => "times" | .least => "least" | .most => "most"
def DvW.s : DvW → Str
  | .quotient => "quotient" | .remainder => "remainder"
inductive Tm where
  | num (n : Int) | nam (x : Str) | bi (w : TmW) (t u : Tm) | neg (t : Tm) | dv (w : DvW) (t : Tm) (k : Int)
  deriving DecidableEq
inductive Fm where
  | tt | ff | cmp (w : CmpW) (t u : Tm) | un (w : UnW) (f : Fm) | bi (w : BiW) (f g : Fm)
  deriving DecidableEq
def Tm.t : Tm → T
  | .num n => .tup [.str "number", .int n]
  | .nam x => .tup [.str "name", .str x]
  | .bi w t u => .tup [.str w.s, t.t, u.t]
  | .neg t => .tup [.str "negative", t.t]
  | .dv w t k => .tup [.str w.s, t.t, .int k]
def Fm.t : Fm → T
  | .tt => .tup [.str "true"]
  | .ff => .tup [.str "false"]
  | .cmp w t u => .tup [.str w.s, t.t, u.t]
  | .un w f => .tup [.str w.s, f.t]
  | .bi w f g => .tup [.str w.s, f.t, g.t]
/-- numbers, names from a list, a depth -/
def Tm.Good (zs : List Str) : Tm → Nat → Prop
  | .num n, k => 1 ≤ k ∧ 0 ≤ n ∧ n < 10 ^ 18
  | .nam x, k => 1 ≤ k ∧ x ∈ zs
  | .bi w t u, k + 1 => t.Good zs k ∧ u.Good zs k ∧ (w = .times → ∃ x, t = .nam x)
  | .neg t, k + 1 => t.Good zs k
  | .dv _ t j, k + 1 => t.Good zs k ∧ 1 ≤ j ∧ j ≤ 100
  | _, 0 => False
/-- the nodes of a formula, its comparisons as one each -/
def Fm.sz : Fm → Nat
  | .tt => 1
  | .ff => 1
  | .cmp _ _ _ => 1
  | .un _ f => f.sz + 1
  | .bi _ f g => f.sz + g.sz + 1
/-- all terms are good -/
def Fm.Ok (zs : List Str) : Fm → Prop
  | .cmp _ t u => t.Good zs 3 ∧ u.Good zs 3
  | .un _ f => f.Ok zs
  | .bi _ f g => f.Ok zs ∧ g.Ok zs
  | _ => True
def Fm.Good (zs : List Str) (f : Fm) (k : Nat) : Prop := f.Ok zs ∧ f.sz ≤ k
theorem Fm.Good.mono {zs : List Str} {f : Fm} {j k : Nat} (g : f.Good zs j) (l : j ≤ k) : f.Good zs k := ⟨g.1, Nat.le_trans g.2 l⟩
def Fm.dep : Fm → Nat
  | .tt => 1
  | .ff => 1
  | .cmp _ _ _ => 1
  | .un _ f => f.dep + 1
  | .bi _ f g => max f.dep g.dep + 1
theorem Fm.dep_pos : ∀ f : Fm, 1 ≤ f.dep
  | .tt => Nat.le_refl _
  | .ff => Nat.le_refl _
  | .cmp _ _ _ => Nat.le_refl _
  | .un _ f => Nat.le_add_left _ _
  | .bi _ f g => Nat.le_add_left _ _
def Fm.hd : Fm → Str
  | .tt => "true"
  | .ff => "false"
  | .cmp w _ _ => w.s
  | .un w _ => w.s
  | .bi w _ _ => w.s
def Fm.parts : Fm → List Fm
  | .un _ f => [f]
  | .bi _ f g => [f, g]
  | _ => []
def Fm.isCmp : Fm → Bool
  | .cmp _ _ _ => true
  | _ => false
theorem t_hd (f : Fm) (h : f.isCmp = false) : f.t = .tup (.str f.hd :: f.parts.map Fm.t) := by
  cases f <;> first | rfl | cases h
theorem t_hd' (f : Fm) : ∃ r, f.t = .tup (.str f.hd :: r) := by cases f <;> exact ⟨_, rfl⟩
def nxt (m b i : Nat) : Nat := if i + 1 < m then i + 1 else b
def wk (m b : Nat) (p q : Nat → Bool) (e : Bool) : Nat → Nat → Bool
  | 0, _ => e
  | s + 1, i => if q i then true else if p i then wk m b p q e s (nxt m b i) else false
/-- the truth of a formula at the places -/
def Fm.al (m b : Nat) (cv : Fm → Nat → Bool) : Fm → Nat → Bool
  | .tt => fun _ => true
  | .ff => fun _ => false
  | .cmp w t u => cv (.cmp w t u)
  | .un .not f => fun i => !(f.al m b cv i)
  | .un .next f => fun i => f.al m b cv (nxt m b i)
  | .un .eventually f => fun i => wk m b (fun _ => true) (f.al m b cv) false m i
  | .un .always f => fun i => wk m b (f.al m b cv) (fun _ => false) true m i
  | .bi .and f g => fun i => f.al m b cv i && g.al m b cv i
  | .bi .or f g => fun i => f.al m b cv i || g.al m b cv i
  | .bi .implies f g => fun i => !(f.al m b cv i) || g.al m b cv i
  | .bi .same f g => fun i => decide (f.al m b cv i = g.al m b cv i)
  | .bi .until f g => fun i => wk m b (f.al m b cv) (g.al m b cv) false m i
  | .bi .unless f g => fun i => wk m b (f.al m b cv) (g.al m b cv) true m i
  | .bi .strong f g => fun i => wk m b (g.al m b cv) (fun i => f.al m b cv i && g.al m b cv i) false m i
  | .bi .release f g => fun i => !(wk m b (fun i => !(f.al m b cv i)) (fun i => !(g.al m b cv i)) false m i)
inductive Rst where | part | t | f | nt | ev | alw
def Rst.s : Rst → Str
  | .part => "part" | .t => "true" | .f => "false" | .nt => "not" | .ev => "eventually" | .alw => "always"
def BiW.lt : BiW → Rst
  | .and => .part | .or => .t | .implies => .part | .same => .part | .until => .ev | .release => .part | .unless => .t | .strong => .part
def BiW.rt : BiW → Rst
  | .and => .part | .or => .t | .implies => .t | .same => .part | .until => .t | .release => .t | .unless => .t | .strong => .ev
theorem hd_t (f : Fm) : ixT f.t (.int 0) = some (.str f.hd) := by
  obtain ⟨r, e⟩ := t_hd' f
  rw [e, ixT_t, Mi.atI_0]
theorem cut_one {x : T} {xs : List T} : cutD (x :: xs) (some 1) none = xs := by
  have := cut_from (zs := x :: xs) (n := 1)
  rw [List.drop_one, List.tail_cons] at this
  exact this
theorem sl_tail {x : T} {xs : List T} : slT (.tup (x :: xs)) (some 1) none = some (.tup xs) := by
  show (if HT.sIx (x :: xs).length 0 (some 1) = 0 ∧ HT.sIx (x :: xs).length (x :: xs).length none = (x :: xs).length then none else some (T.tup (cutD (x :: xs) (some 1) none))) = some (.tup xs)
  have e : HT.sIx (x :: xs).length 0 (some 1) = 1 := by
    rw [show (1 : Int) = ((1 : Nat) : Int) from rfl, HT.sIx_nat, List.length_cons]; omega
  rw [if_neg (by rw [e]; omega), cut_one]
def isTp : T → Bool
  | .tup _ => true
  | _ => false
/-- trees of tuples, that deep -/
inductive Tp : Nat → T → Prop where
  | mk {k : Nat} {w : Str} {xs : List T} (h : ∀ x ∈ xs, isTp x = true → Tp k x) (l : xs.length ≤ 100) (p : ∀ x ∈ xs, isTp x = true ∨ (∃ i, x = .int i) ∨ ∃ s, x = .str s) : Tp (k + 1) (.tup (.str w :: xs))
theorem Tp.mono : ∀ {j k : Nat} {t : T}, Tp j t → j ≤ k → Tp k t
  | j + 1, k, _, .mk h l p, lk => match k, lk with
    | k + 1, lk => .mk (fun x hx q => (h x hx q).mono (Nat.le_of_succ_le_succ lk)) l p
def Tm.val (v : Str → Int) : Tm → Int
  | .num n => n
  | .nam x => v x
  | .bi .plus t u => t.val v + u.val v
  | .bi .minus t u => t.val v - u.val v
  | .bi .times t u => t.val v * u.val v
  | .bi .least t u => if u.val v < t.val v then u.val v else t.val v
  | .bi .most t u => if u.val v > t.val v then u.val v else t.val v
  | .neg t => -(t.val v)
  | .dv .quotient t k => t.val v / k
  | .dv .remainder t k => t.val v % k
def Fm.hol (v : Str → Int) : Fm → Bool
  | .cmp .equal t u => decide (t.val v = u.val v)
  | .cmp .below t u => decide (t.val v < u.val v)
  | .cmp .upto t u => decide (t.val v ≤ u.val v)
  | _ => false
def Small (zs : List Str) (v : Str → Int) : Prop := ∀ x ∈ zs, -(10 ^ 18) ≤ v x ∧ v x ≤ 10 ^ 18
theorem small_mul {zs : List Str} {v : Str → Int} (h : Small zs v) {x : Str} (hx : x ∈ zs) (j : Int) : mulC (v x) j := by
  have := h x hx
  exact .inl ⟨by omega, by omega⟩
theorem nam_in {zs : List Str} {x : Str} : ∀ {k : Nat}, (Tm.nam x).Good zs k → x ∈ zs
  | 0, h => h.2
  | k + 1, h => h.2
theorem good0 {zs : List Str} : ∀ t : Tm, t.Good zs 0 → (∃ n, t = .num n) ∨ ∃ x, t = .nam x
  | .num n, _ => .inl ⟨n, rfl⟩
  | .nam x, _ => .inr ⟨x, rfl⟩
  | .bi _ _ _, h => h.elim
  | .neg _, h => h.elim
  | .dv _ _ _, h => h.elim
def Vals (DC : List (Key × T)) (zs : List Str) (v : Str → Int) : Prop := ∀ x ∈ zs, lookK DC (.inr x) = some (.int (v x))
def CombF (F : List T → Option T) : Prop := ∀ (w : TmW) (i j : Int), (w = .times → mulC i j) → F [.str w.s, .int i, .int j] = some (.int (match w with | .plus => i + j | .minus => i - j | .times => i * j | .least => if j < i then j else i | .most => if j > i then j else i))
theorem comb_F : CombF FA.Ucombined := fun w i j h => by
  refine eq_ok (k_fun rfl ?_)
  unfold FA.Scombined
  cases w with
  | plus => rw [show TmW.plus.s = Str.ofString "plus" from rfl]; walk_at "ks"
  | minus => rw [show TmW.minus.s = Str.ofString "minus" from rfl]; walk_at "ks"; walk_at "ks"
  | times => rw [show TmW.times.s = Str.ofString "times" from rfl]; walk_at "ks"; walk_at "ks"; walk_at "ks"; exact h rfl
  | least => rw [show TmW.least.s = Str.ofString "least" from rfl]; walk_at "ks"; walk_at "ks"; walk_at "ks"; walk_at "ks"
  | most => rw [show TmW.most.s = Str.ofString "most" from rfl]; walk_at "ks"; walk_at "ks"; walk_at "ks"; walk_at "ks"
def NumF (F : Nat → List T → Option T) (zs : List Str) (v : Str → Int) (DC : List (Key × T)) : Prop := ∀ (j : Nat) (t : Tm) (k : Nat), t.Good zs j → F (k + j + 1) [t.t, .dic DC] = some (.int (t.val v))
theorem num_F {F Fc : Nat → List T → Option T} {zs : List Str} {v : Str → Int} {DC : List (Key × T)} (hs : Small zs v) (hv : Vals DC zs v) (comb : ∀ k, CombF (Fc (k + 1))) (hF : ∀ k xs, F (k + 1) xs = FA.Unumber_of (F k) (Fc k) xs) : NumF F zs v DC := by
  intro j
  induction j with
  | zero =>
    intro t k h
    rcases good0 t h with ⟨n, rfl⟩ | ⟨x, rfl⟩
    · have := h.1; omega
    · have := h.1; omega
  | succ j ih =>
    intro t k h
    rw [show k + (j + 1) + 1 = (k + j + 1) + 1 from by omega, hF]
    refine eq_ok (k_fun rfl ?_)
    unfold FA.Snumber_of
    cases t with
    | num n =>
      simp only [Tm.t]
      walk_at "ks"
      walk_at "ks"
      rfl
    | nam x =>
      simp only [Tm.t]
      walk_at "ks"
      walk_at "ks"
      walk_at "ks"
      rw [ok_eq (show dgetT (.dic DC) (.str x) = some (.int (v x)) from hv x h.2)]
      rfl
    | bi w t u =>
      have q1 := ih t k h.1
      have q2 := ih u k h.2.1
      have q3 : w = .times → mulC (t.val v) (u.val v) := fun e => by
        obtain ⟨x, rfl⟩ := h.2.2 e
        exact small_mul hs (nam_in h.1) _
      have c := comb (k + j) w (t.val v) (u.val v) q3
      simp only [Tm.t]
      cases w
      all_goals
        walk_at "ks"
        walk_at "ks"
        walk_at "ks"
        walk_at "ks"
        rw [ok_eq q1]
        walk_at "ks"
        walk_at "ks"
        walk_at "ks"
        rw [ok_eq q2]
        rw [ok_eq c]
        rfl
    | neg t =>
      have q1 := ih t k h
      simp only [Tm.t]
      walk_at "ks"
      walk_at "ks"
      walk_at "ks"
      walk_at "ks"
      rw [ok_eq q1]
      walk_at "ks"
      rfl
    | dv w t i =>
      have q1 := ih t k h.1
      have := h.2
      simp only [Tm.t]
      cases w with
      | quotient =>
        rw [show DvW.quotient.s = Str.ofString "quotient" from rfl]
        walk_at "ks"
        walk_at "ks"
        walk_at "ks"
        walk_at "ks"
        rw [ok_eq q1]
        walk_at "ks"
        walk_at "ks"
        exact ⟨by omega, rfl⟩
      | remainder =>
        rw [show DvW.remainder.s = Str.ofString "remainder" from rfl]
        walk_at "ks"
        walk_at "ks"
        walk_at "ks"
        walk_at "ks"
        rw [ok_eq q1]
        walk_at "ks"
        walk_at "ks"
        walk_at "ks"
        exact ⟨by omega, rfl⟩
def HoldsF (F : Nat → List T → Option T) (zs : List Str) (v : Str → Int) (DC : List (Key × T)) : Prop := ∀ (c : Fm) (k : Nat), c.Ok zs → c.isCmp = true → F (k + 5) [c.t, .dic DC] = some (.bl (c.hol v))
theorem holds_F {F Fn Fc : Nat → List T → Option T} {zs : List Str} {v : Str → Int} {DC : List (Key × T)} (num : NumF Fn zs v DC) (hF : ∀ k xs, F (k + 1) xs = FA.Uholds (Fn k) (F k) (Fc k) xs) : HoldsF F zs v DC := fun c k ok hc => by
  cases c with
  | cmp w t u =>
    rw [show k + 5 = (k + 4) + 1 from rfl, hF]
    refine eq_ok (k_fun rfl ?_)
    unfold FA.Sholds
    have q1 := num 3 t k ok.1
    have q2 := num 3 u k ok.2
    simp only [Fm.t]
    cases w with
    | equal =>
      rw [show CmpW.equal.s = Str.ofString "equal" from rfl]
      walk_at "ks"
      walk_at "ks"
      walk_at "ks"
      rw [ok_eq q1, ok_eq q2]
      walk_at "k1"
      rfl
    | below =>
      rw [show CmpW.below.s = Str.ofString "below" from rfl]
      walk_at "ks"
      walk_at "ks"
      walk_at "ks"
      walk_at "ks"
      rw [ok_eq q1, ok_eq q2]
      walk_at "k1"
      rfl
    | upto =>
      rw [show CmpW.upto.s = Str.ofString "upto" from rfl]
      walk_at "ks"
      walk_at "ks"
      walk_at "ks"
      walk_at "ks"
      walk_at "ks"
      rw [ok_eq q1, ok_eq q2]
      walk_at "k1"
      rfl
  | _ => cases hc
def KeysIn (zs : List Str) (DC : List (Key × T)) : Prop := (DC.map (·.1)).Nodup ∧ ∀ kv ∈ DC, ∃ x ∈ zs, kv.1 = .inr x
theorem nodup_le {α : Type} [DecidableEq α] : ∀ (xs C : List α), xs.Nodup → (∀ x ∈ xs, x ∈ C) → xs.length ≤ C.length
  | [], C, _, _ => Nat.zero_le _
  | x :: xs, C, nd, h => by
    rw [List.nodup_cons] at nd
    have hx := h x List.mem_cons_self
    have := nodup_le xs (C.erase x) nd.2 fun y hy => (List.mem_erase_of_ne fun e => nd.1 (by rw [← e]; exact hy)).mpr (h y (List.mem_cons_of_mem _ hy))
    rw [List.length_erase_of_mem hx] at this
    have := List.length_pos_of_mem hx
    rw [List.length_cons]
    omega
theorem keys_len {zs : List Str} {DC : List (Key × T)} (h : KeysIn zs DC) : DC.length ≤ zs.length := by
  have := nodup_le (DC.map (·.1)) (zs.map Sum.inr) h.1 fun k hk => by
    obtain ⟨kv, hkv, rfl⟩ := List.mem_map.mp hk
    obtain ⟨x, hx, e⟩ := h.2 kv hkv
    rw [e]
    exact List.mem_map.mpr ⟨x, hx, rfl⟩
  rwa [List.length_map, List.length_map] at this
theorem sp_retN {e : FSt} {N : FSt → Prop} {R : T → FSt → Prop} : SkP (fRetN e) N R ↔ R .non e := Iff.rfl
theorem parts_of_F {w : Str} {xs : List T} (l : xs.length ≤ 100) (p : ∀ x ∈ xs, isTp x = true ∨ (∃ i, x = .int i) ∨ ∃ s, x = .str s) : FA.Uparts_of [.tup (.str w :: xs)] = some (.lst (xs.filter isTp)) := by
  refine eq_ok (k_fun rfl ?_)
  unfold FA.Sparts_of
  walk_at "k1"
  rw [ok_eq sl_tail]
  walk_at "k1"
  refine ⟨by omega, ?_⟩
  rw [ok_eq (lc_ok isTp id _ (fun x hx => ?_) fun x hx _ => rfl)]
  · rw [List.map_id]
  · rcases p x hx with q | ⟨i, rfl⟩ | ⟨i, rfl⟩
    · cases x with
      | tup ys => rfl
      | _ => cases q
    · rfl
    · rfl
theorem mem_strs {neg : Bool} {w : Str} {zs : List Str} : memDT neg (.str w) (.lst (zs.map T.str)) = some (.bl (if neg then !decide (w ∈ zs) else decide (w ∈ zs))) := by
  have ha : (zs.map T.str).all flatT = true := by
    rw [List.all_eq_true]; intro x hx; obtain ⟨z, _, rfl⟩ := List.mem_map.mp hx; rfl
  have hb : ((zs.map T.str).any fun z => eqFT z (.str w)) = decide (w ∈ zs) := by
    rw [List.any_map]
    apply Bool.eq_iff_iff.mpr
    rw [List.any_eq_true, decide_eq_true_iff]
    constructor
    · rintro ⟨z, m, e⟩
      have : decide (z = w) = true := by rw [← eqFT_ss]; exact e
      rw [← of_decide_eq_true this]; exact m
    · intro m; exact ⟨w, m, by show eqFT (.str w) (.str w) = true; rw [eqFT_ss]; simp⟩
  unfold memDT flatInT
  simp only [itemsT_l, Option.bind, ha, flatT_s, Bool.and_self, if_true, hb]
end FA
namespace FB
open PySem L2 Mi Fu LA FA
local macro_rules | `(tactic| walk_at "kw") => `(tactic| try simp (decide := true) only [Fu.k_c, Fu.k_var, Fu.k_op, Fu.k_un, Fu.k_nil, Fu.k_cons, Fu.k_star, Fu.k_tup, Fu.k_lst, Fu.k_cb, Fu.k_cbF, Fu.flatT_i, Fu.flatT_s, Fu.flatT_b, Fu.flatT_n, Fu.k_test, Fu.asB_bl, Fu.asI_int, Fu.k_not, Fu.k_and, Fu.k_or, Fu.k_yes, Fu.k_notV, Fu.k_andV, Fu.k_orV, Fu.k_if, Fu.k_oN, Fu.k_oS, Fu.k_sl, Fu.k_chain, Fu.k_isi, Fu.asS_str, Fu.k_kd, Fu.k_kin, Fu.k_lc, Fu.k_seq, Fu.k_r1, Fu.k_r2, Fu.s_next, Fu.s_seq, Fu.s_set, Fu.s_own, Fu.s_asg, Fu.s_drop, Fu.s_ret, Fu.s_retN, Fu.s_brk, Fu.s_cnt, Fu.s_if, Fu.s_aug, Fu.k_gNm, Fu.k_gNil, Fu.k_gCons, Fu.k_gTp, Fu.asL_lst, Fu.asTp_tup, Fu.p_var, Fu.k_pth, Fu.p_ix, Fu.p_cm, id, Fu.s_app, Fu.s_pop, Fu.s_popD, Fu.s_rev, Fu.s_clr, Fu.s_put, Fu.s_callP, Fu.s_mvP, Fu.k_cbP, Fu.asP_mk, Fu.k_lcP, Fu.k_en, Fu.k_rv, Fu.k_zp, Fu.lstO_l, Fu.lstO_f, Fu.bOpT_bb, Fu.k_fld, Fu.asO_obj, Fu.s_for, Fu.s_while, Fu.ok_some, Fu.ok_ite, Fu.wipeT,
  Fu.addT_ii, Fu.addT_ll, Fu.addT_ss, Fu.addT_tt, Fu.catT_ll, Fu.subT_ii, Fu.mulT_ii, Fu.mulT_li, Fu.repT_li, Fu.fdivT_ii, Fu.modT_ii, Fu.powT_ii, Fu.negT_i, Fu.ltT_ii, Fu.leT_ii, Fu.gtT_ii, Fu.geT_ii, Fu.eqST_ii, Fu.eqST_ss, Fu.eqST_bb, Fu.eqT_ii, Fu.eqT_ss, Fu.eqT_bb, Fu.ok_oBl, Fu.ok_oNb, Fu.isNT_n, Fu.isNT_i, Fu.isNT_l, Fu.isNT_t, Fu.isNT_b, Fu.isNT_s, Fu.lenT_l, Fu.lenT_t, Fu.lenT_f, Fu.itemsT_l, Fu.itemsT_t, Fu.itemsT_f, Fu.lstT_l, Fu.lstT_t, Fu.lstT_f, Fu.tupT_l, Fu.tupT_t, Fu.ixT_l, Fu.ixT_t, Fu.ixT_f, Fu.intT_i, Fu.absT_i, Fu.max2T_i, Fu.min2T_i, Fu.slT_l, Fu.slLT_l, Fu.tyT_i, Fu.tyT_s, Fu.tyT_b, Fu.tyT_t, Fu.tyT_l, Fu.tyT_f, Fu.tyT_n,
  List.getElem?_cons_zero, List.getElem?_cons_succ, List.getD_cons_zero, List.getD_cons_succ, List.set_cons_zero, List.set_cons_succ, List.map_cons, List.map_nil, List.replicate, List.append_nil, List.cons_append, List.nil_append, List.length_cons, List.length_nil, Nat.reduceAdd, Nat.reduceSub, Nat.reduceLT, Nat.reduceLeDiff, Nat.zero_add, Int.reduceToNat, Int.reducePow, Int.reduceNeg, Mi.mulC_r, Mi.atI_0, Mi.atI_1, Mi.atI_2,
  subTy, decide_true, decide_false, Bool.or_self, Bool.or_true, Bool.true_or, Bool.or_false, Bool.false_or, Bool.and_true, Bool.true_and, Bool.and_false, Bool.false_and, Bool.and_self, Bool.not_true, Bool.not_false, Bool.false_eq_true, Bool.true_eq_false, true_and, and_true, and_self, if_true, if_false, ite_true, ite_false])
local macro_rules | `(tactic| walk_at "k1") => `(tactic| try simp (decide := true) only [Fu.k_c, Fu.k_var, Fu.k_op, Fu.k_un, Fu.k_nil, Fu.k_cons, Fu.k_star, Fu.k_tup, Fu.k_lst, Fu.k_cb, Fu.k_cbF, Fu.flatT_i, Fu.flatT_s, Fu.flatT_b, Fu.flatT_n, Fu.k_test, Fu.asB_bl, Fu.asI_int, Fu.k_not, Fu.k_and, Fu.k_or, Fu.k_yes, Fu.k_notV, Fu.k_andV, Fu.k_orV, Fu.k_if, Fu.k_oN, Fu.k_oS, Fu.k_sl, Fu.k_chain, Fu.k_isi, Fu.asS_str, Fu.k_kd, Fu.k_kin, Fu.k_lc, Fu.k_seq, Fu.k_r1, Fu.k_r2, Fu.s_next, Fu.s_set, Fu.s_own, Fu.s_asg, Fu.s_drop, Fu.s_ret, Fu.s_retN, Fu.s_brk, Fu.s_cnt, Fu.s_if, Fu.s_aug, Fu.k_gNm, Fu.k_gNil, Fu.k_gCons, Fu.k_gTp, Fu.asL_lst, Fu.asTp_tup, Fu.p_var, Fu.k_pth, Fu.p_ix, Fu.p_cm, id, Fu.s_app, Fu.s_pop, Fu.s_popD, Fu.s_rev, Fu.s_clr, Fu.s_put, Fu.s_callP, Fu.s_mvP, Fu.k_cbP, Fu.asP_mk, Fu.k_lcP, Fu.k_en, Fu.k_rv, Fu.k_zp, Fu.lstO_l, Fu.lstO_f, Fu.bOpT_bb, Fu.k_fld, Fu.asO_obj, Fu.s_for, Fu.s_while, Fu.ok_some, Fu.ok_ite, Fu.wipeT,
  Fu.addT_ii, Fu.addT_ll, Fu.addT_ss, Fu.addT_tt, Fu.catT_ll, Fu.subT_ii, Fu.mulT_ii, Fu.mulT_li, Fu.repT_li, Fu.fdivT_ii, Fu.modT_ii, Fu.powT_ii, Fu.negT_i, Fu.ltT_ii, Fu.leT_ii, Fu.gtT_ii, Fu.geT_ii, Fu.eqST_ii, Fu.eqST_ss, Fu.eqST_bb, Fu.eqT_ii, Fu.eqT_ss, Fu.eqT_bb, Fu.ok_oBl, Fu.ok_oNb, Fu.isNT_n, Fu.isNT_i, Fu.isNT_l, Fu.isNT_t, Fu.isNT_b, Fu.isNT_s, Fu.lenT_l, Fu.lenT_t, Fu.lenT_f, Fu.itemsT_l, Fu.itemsT_t, Fu.itemsT_f, Fu.lstT_l, Fu.lstT_t, Fu.lstT_f, Fu.tupT_l, Fu.tupT_t, Fu.ixT_l, Fu.ixT_t, Fu.ixT_f, Fu.intT_i, Fu.absT_i, Fu.max2T_i, Fu.min2T_i, Fu.slT_l, Fu.slLT_l, Fu.tyT_i, Fu.tyT_s, Fu.tyT_b, Fu.tyT_t, Fu.tyT_l, Fu.tyT_f, Fu.tyT_n,
  List.getElem?_cons_zero, List.getElem?_cons_succ, List.getD_cons_zero, List.getD_cons_succ, List.set_cons_zero, List.set_cons_succ, List.map_cons, List.map_nil, List.replicate, List.append_nil, List.cons_append, List.nil_append, List.length_cons, List.length_nil, Nat.reduceAdd, Nat.reduceSub, Nat.reduceLT, Nat.reduceLeDiff, Nat.zero_add, Int.reduceToNat, Int.reducePow, Int.reduceNeg, Mi.mulC_r, Mi.atI_0, Mi.atI_1, Mi.atI_2,
  subTy, decide_true, decide_false, Bool.or_self, Bool.or_true, Bool.true_or, Bool.or_false, Bool.false_or, Bool.and_true, Bool.true_and, Bool.and_false, Bool.false_and, Bool.and_self, Bool.not_true, Bool.not_false, Bool.false_eq_true, Bool.true_eq_false, true_and, and_true, and_self, if_true, if_false, ite_true, ite_false])
local macro_rules | `(tactic| walk_at "ks") => `(tactic| (rw [Fu.s_seq]; walk_at "k1"))
local macro_rules | `(tactic| walk_at "k2") => `(tactic| try simp (decide := true) only [Fu.k_tru, Fu.truT_l, Fu.truT_d, Fu.s_ext, Fu.s_ddel, Fu.k_cbL, Fu.dgetT_d, Fu.dinT_d, Fu.keyT_i, Fu.asDc_d, Fu.k_dc, Fu.s_dput, Fu.dkeysT_d, Fu.k_c, Fu.k_var, Fu.k_op, Fu.k_un, Fu.k_nil, Fu.k_cons, Fu.k_star, Fu.k_tup, Fu.k_lst, Fu.k_cb, Fu.k_cbF, Fu.flatT_i, Fu.flatT_s, Fu.flatT_b, Fu.flatT_n, Fu.k_test, Fu.asB_bl, Fu.asI_int, Fu.k_not, Fu.k_and, Fu.k_or, Fu.k_yes, Fu.k_notV, Fu.k_andV, Fu.k_orV, Fu.k_if, Fu.k_oN, Fu.k_oS, Fu.k_sl, Fu.k_chain, Fu.k_isi, Fu.asS_str, Fu.k_kd, Fu.k_kin, Fu.k_lc, Fu.k_seq, Fu.k_r1, Fu.k_r2, Fu.s_next, Fu.s_set, Fu.s_own, Fu.s_asg, Fu.s_drop, Fu.s_ret, Fu.s_retN, Fu.s_brk, Fu.s_cnt, Fu.s_if, Fu.s_aug, Fu.k_gNm, Fu.k_gNil, Fu.k_gCons, Fu.k_gTp, Fu.asL_lst, Fu.asTp_tup, Fu.p_var, Fu.k_pth, Fu.p_ix, Fu.p_cm, id, Fu.s_app, Fu.s_pop, Fu.s_popD, Fu.s_rev, Fu.s_clr, Fu.s_put, Fu.s_callP, Fu.s_mvP, Fu.k_cbP, Fu.asP_mk, Fu.k_lcP, Fu.k_en, Fu.k_rv, Fu.k_zp, Fu.lstO_l, Fu.lstO_f, Fu.bOpT_bb, Fu.k_fld, Fu.asO_obj, Fu.s_for, Fu.s_while, Fu.ok_some, Fu.ok_ite, Fu.wipeT,
  Fu.addT_ii, Fu.addT_ll, Fu.addT_ss, Fu.addT_tt, Fu.catT_ll, Fu.subT_ii, Fu.mulT_ii, Fu.mulT_li, Fu.repT_li, Fu.fdivT_ii, Fu.modT_ii, Fu.powT_ii, Fu.negT_i, Fu.ltT_ii, Fu.leT_ii, Fu.gtT_ii, Fu.geT_ii, Fu.eqST_ii, Fu.eqST_ss, Fu.eqST_bb, Fu.eqT_ii, Fu.eqT_ss, Fu.eqT_bb, Fu.ok_oBl, Fu.ok_oNb, Fu.isNT_n, Fu.isNT_i, Fu.isNT_l, Fu.isNT_t, Fu.isNT_b, Fu.isNT_s, Fu.lenT_l, Fu.lenT_t, Fu.lenT_f, Fu.itemsT_l, Fu.itemsT_t, Fu.itemsT_f, Fu.lstT_l, Fu.lstT_t, Fu.lstT_f, Fu.tupT_l, Fu.tupT_t, Fu.ixT_l, Fu.ixT_t, Fu.ixT_f, Fu.intT_i, Fu.absT_i, Fu.max2T_i, Fu.min2T_i, Fu.slT_l, Fu.slLT_l, Fu.tyT_i, Fu.tyT_s, Fu.tyT_b, Fu.tyT_t, Fu.tyT_l, Fu.tyT_f, Fu.tyT_n,
  List.getElem?_cons_zero, List.getElem?_cons_succ, List.getD_cons_zero, List.getD_cons_succ, List.set_cons_zero, List.set_cons_succ, List.map_cons, List.map_nil, List.replicate, List.append_nil, List.cons_append, List.nil_append, List.length_cons, List.length_nil, Nat.reduceAdd, Nat.reduceSub, Nat.reduceLT, Nat.reduceLeDiff, Nat.zero_add, Int.reduceToNat, Int.reducePow, Int.reduceNeg, Mi.mulC_r, Mi.atI_0, Mi.atI_1, Mi.atI_2,
  subTy, decide_true, decide_false, Bool.or_self, Bool.or_true, Bool.true_or, Bool.or_false, Bool.false_or, Bool.and_true, Bool.true_and, Bool.and_false, Bool.false_and, Bool.and_self, Bool.not_true, Bool.not_false, Bool.false_eq_true, Bool.true_eq_false, true_and, and_true, and_self, if_true, if_false, ite_true, ite_false])
local macro_rules | `(tactic| walk_at "kt") => `(tactic| (rw [Fu.s_seq]; walk_at "k2"))
local macro_rules | `(tactic| walk_at "k3") => `(tactic| try simp (decide := true) only [Fu.k_let, Fu.atI_3, Fu.atI_4, Fu.atI_5, Fu.k_ho, Fu.k_he, Fu.k_testC, Fu.k_andC, Fu.k_orC, Fu.k_notC, Fu.s_setC, Fu.s_retC, Fu.s_dropC, Fu.s_ifC, Fu.s_forC, Fu.sp_retC, Fu.sp_ifC, Fu.sp_setC, Fu.sp_if, Fu.sp_ret, Fu.sp_next, Fu.asR_mk, Fu.s_callRi, Fu.mulT_si, Fu.lenT_s, Fu.strXT_i, Fu.strST_i, Fu.strXT_s, Fu.strST_s, Fu.k_dget2, Fu.splitT_ss, Fu.predT_s, Fu.k_js0, Fu.k_js1, Fu.fmtT_s, Fu.fmtT_i, Fu.k_fmt, Fu.k_kg, List.take_succ_cons, List.take_zero, List.take_nil, eq_self, Fu.k_tru, Fu.truT_l, Fu.truT_d, Fu.s_ext, Fu.s_ddel, Fu.k_cbL, Fu.dgetT_d, Fu.dinT_d, Fu.keyT_i, Fu.asDc_d, Fu.k_dc, Fu.s_dput, Fu.dkeysT_d, Fu.k_c, Fu.k_var, Fu.k_op, Fu.k_un, Fu.k_nil, Fu.k_cons, Fu.k_star, Fu.k_tup, Fu.k_lst, Fu.k_cb, Fu.k_cbF, Fu.flatT_i, Fu.flatT_s, Fu.flatT_b, Fu.flatT_n, Fu.k_test, Fu.asB_bl, Fu.asI_int, Fu.k_not, Fu.k_and, Fu.k_or, Fu.k_yes, Fu.k_notV, Fu.k_andV, Fu.k_orV, Fu.k_if, Fu.k_oN, Fu.k_oS, Fu.k_sl, Fu.k_chain, Fu.k_isi, Fu.asS_str, Fu.k_kd, Fu.k_kin, Fu.k_lc, Fu.k_seq, Fu.k_r1, Fu.k_r2, Fu.s_next, Fu.s_set, Fu.s_own, Fu.s_asg, Fu.s_drop, Fu.s_ret, Fu.s_retN, Fu.s_brk, Fu.s_cnt, Fu.s_if, Fu.s_aug, Fu.k_gNm, Fu.k_gNil, Fu.k_gCons, Fu.k_gTp, Fu.asL_lst, Fu.asTp_tup, Fu.p_var, Fu.k_pth, Fu.p_ix, Fu.p_cm, id, Fu.s_app, Fu.s_pop, Fu.s_popD, Fu.s_rev, Fu.s_clr, Fu.s_put, Fu.s_callP, Fu.s_mvP, Fu.k_cbP, Fu.asP_mk, Fu.k_lcP, Fu.k_en, Fu.k_rv, Fu.k_zp, Fu.lstO_l, Fu.lstO_f, Fu.bOpT_bb, Fu.k_fld, Fu.asO_obj, Fu.s_for, Fu.s_while, Fu.ok_some, Fu.ok_ite, Fu.wipeT,
  Fu.addT_ii, Fu.addT_ll, Fu.addT_ss, Fu.addT_tt, Fu.catT_ll, Fu.subT_ii, Fu.mulT_ii, Fu.mulT_li, Fu.repT_li, Fu.fdivT_ii, Fu.modT_ii, Fu.powT_ii, Fu.negT_i, Fu.ltT_ii, Fu.leT_ii, Fu.gtT_ii, Fu.geT_ii, Fu.eqST_ii, Fu.eqST_ss, Fu.eqST_bb, Fu.eqT_ii, Fu.eqT_ss, Fu.eqT_bb, Fu.ok_oBl, Fu.ok_oNb, Fu.isNT_n, Fu.isNT_i, Fu.isNT_l, Fu.isNT_t, Fu.isNT_b, Fu.isNT_s, Fu.lenT_l, Fu.lenT_t, Fu.lenT_f, Fu.itemsT_l, Fu.itemsT_t, Fu.itemsT_f, Fu.lstT_l, Fu.lstT_t, Fu.lstT_f, Fu.tupT_l, Fu.tupT_t, Fu.ixT_l, Fu.ixT_t, Fu.ixT_f, Fu.intT_i, Fu.absT_i, Fu.max2T_i, Fu.min2T_i, Fu.slT_l, Fu.slLT_l, Fu.tyT_i, Fu.tyT_s, Fu.tyT_b, Fu.tyT_t, Fu.tyT_l, Fu.tyT_f, Fu.tyT_n,
  List.getElem?_cons_zero, List.getElem?_cons_succ, List.getD_cons_zero, List.getD_cons_succ, List.set_cons_zero, List.set_cons_succ, List.map_cons, List.map_nil, List.replicate, List.append_nil, List.cons_append, List.nil_append, List.length_cons, List.length_nil, Nat.reduceAdd, Nat.reduceSub, Nat.reduceLT, Nat.reduceLeDiff, Nat.zero_add, Int.reduceToNat, Int.reducePow, Int.reduceNeg, Mi.mulC_r, Mi.atI_0, Mi.atI_1, Mi.atI_2,
  subTy, decide_true, decide_false, Bool.or_self, Bool.or_true, Bool.true_or, Bool.or_false, Bool.false_or, Bool.and_true, Bool.true_and, Bool.and_false, Bool.false_and, Bool.and_self, Bool.not_true, Bool.not_false, Bool.false_eq_true, Bool.true_eq_false, true_and, and_true, and_self, if_true, if_false, ite_true, ite_false])
local macro_rules | `(tactic| walk_at "kr") => `(tactic| (rw [Fu.s_seq]; walk_at "k3"))
def SNumbering_number_of_formula (FNumbering_number_of_fact FNumbering_number_of_row FNumbering_number_of_formula : List T → Option T) : FS :=
  (fSeqS (fIfS (fTest (fOp (memFT false) (fOp ixT (fVar 1) (fC (.int 0))) (fC (dT (.tup k_COMPARISONS)))))
      (fRetC (fHo FNumbering_number_of_fact 0 0 (fCons (fC .non) (fCons (fVar 1) fNil)) 6 (fHo FNumbering_number_of_row 0 0 (fCons (fC .non) (fCons (fTup (fCons (fC (.str "fact")) (fCons (fVar 6) (fCons (fUn negT (fC (.int 1))) fNil)))) fNil)) 7 (fLet (fVar 7)))))
      fNext)
      (fSeqS (fSetLcI (fSeq (fSl slT (fVar 1) (foSome (fC (.int 1))) foNone)) FNumbering_number_of_formula 0 0 (fCons (fC .non) (fCons (fVar 5) fNil)) 5 [5] 2)
      (fSeqS (fAsg (fSl slT (fOp addT (fVar 2) (fLst (fCons (fUn negT (fC (.int 1))) (fCons (fUn negT (fC (.int 1))) fNil)))) foNone (foSome (fC (.int 2)))) (gtLs (gtCons (gtNm 3) (gtCons (gtNm 4) gtNil))))
      (fRetC (fHo FNumbering_number_of_row 0 0 (fCons (fC .non) (fCons (fTup (fCons (fOp ixT (fVar 1) (fC (.int 0))) (fCons (fVar 3) (fCons (fVar 4) fNil)))) fNil)) 6 (fLet (fVar 6)))))))
abbrev UNumbering_number_of_formula (FNumbering_number_of_fact FNumbering_number_of_row FNumbering_number_of_formula : List T → Option T) : List T → Option T := funP true 0 2 6 (SNumbering_number_of_formula FNumbering_number_of_fact FNumbering_number_of_row FNumbering_number_of_formula)
def lowC (c : Nat) : Bool := decide (97 ≤ c) && decide (c ≤ 122)
def nameC (c : Nat) : Bool := lowC c || (decide (65 ≤ c) && decide (c ≤ 90)) || (decide (48 ≤ c) && decide (c ≤ 57)) || decide (c = 95)
inductive TmD (zs : List Str) : Tm → Prop where
  | nam {x : Str} : x ∈ zs → TmD zs (.nam x)
  | num {n : Int} : 0 ≤ n → n < 10 ^ 18 → TmD zs (.num n)
  | plus {x : Str} {n : Int} : x ∈ zs → 0 ≤ n → n < 10 ^ 18 → TmD zs (.bi .plus (.nam x) (.num n))
  | minus {x y : Str} : x ∈ zs → y ∈ zs → TmD zs (.bi .minus (.nam x) (.nam y))
  | times {x y : Str} : x ∈ zs → y ∈ zs → TmD zs (.bi .times (.nam x) (.nam y))
  | neg {x : Str} : x ∈ zs → TmD zs (.neg (.nam x))
  | negn {n : Int} : 0 ≤ n → n < 100 → TmD zs (.neg (.num n))
  | quot {x : Str} {n : Int} : x ∈ zs → 0 < n → n ≤ 100 → TmD zs (.dv .quotient (.nam x) n)
  | rem {x : Str} {n : Int} : x ∈ zs → 0 < n → n ≤ 100 → TmD zs (.dv .remainder (.nam x) n)
  | least {x : Str} {n : Int} : x ∈ zs → 0 ≤ n → n < 10 ^ 18 → TmD zs (.bi .least (.nam x) (.num n))
  | most {x y : Str} : x ∈ zs → y ∈ zs → TmD zs (.bi .most (.neg (.nam x)) (.nam y))
def _root_.FA.Fm.K (zs : List Str) : Fm → Prop
  | .cmp _ t u => TmD zs t ∧ TmD zs u
  | .un _ f => f.K zs
  | .bi _ f g => f.K zs ∧ g.K zs
  | _ => True
theorem ixStr {zs : List Str} {i : Int} (h0 : 0 ≤ i) (h1 : i < zs.length) : ∃ z ∈ zs, atI (zs.map T.str) i = some (.str z) := by
  have e : zs[i.toNat]? = some (zs[i.toNat]'(by omega)) := List.getElem?_eq_getElem _
  exact ⟨_, List.getElem_mem _, atI_ge h0 (by rw [List.getElem?_map, e]; rfl)⟩
def TermF (F : List T → Option T) : Prop := ∀ (d g : Int) (zs : List Str), 0 ≤ d → 0 ≤ g ∧ g < 10 ^ 18 → 0 < zs.length → zs.length ≤ 1000 → ∃ t : Tm, F [.int d, .lst (zs.map T.str), .int g] = some t.t ∧ TmD zs t
theorem term_F : TermF FA.U_law_term := fun d g zs hd hg hz hz2 => by
  have key : Ok (FA.U_law_term [.int d, .lst (zs.map T.str), .int g]) fun v => ∃ t : Tm, v = t.t ∧ TmD zs t := by
    refine k_fun rfl ?_
    unfold FA.S_law_term
    obtain ⟨L, eL⟩ : ∃ L, L = zs.map T.str := ⟨_, rfl⟩
    have lL : L.length = zs.length := by rw [eL, List.length_map]
    rw [← eL]
    have hz3 : (0 : Int) < zs.length := by omega
    obtain ⟨x, hx, e1⟩ := ixStr (zs := zs) (i := d / 16 % zs.length) (Int.emod_nonneg _ (by omega)) (Int.emod_lt_of_pos _ hz3)
    obtain ⟨y, hy, e2⟩ := ixStr (zs := zs) (i := d / 48 % zs.length) (Int.emod_nonneg _ (by omega)) (Int.emod_lt_of_pos _ hz3)
    rw [← eL] at e1 e2
    rw [s_seq]
    walk_at "k3"
    rw [lL]
    refine ⟨hz3, ?_⟩
    rw [ok_eq e1, s_seq]
    walk_at "k3"
    rw [lL]
    refine ⟨hz3, ?_⟩
    rw [ok_eq e2, s_seq]
    walk_at "k3"
    rw [s_seq]
    walk_at "k3"
    rw [s_seq]
    walk_at "k3"
    rw [s_seq]
    walk_at "k3"
    rw [s_seq]
    walk_at "k3"
    obtain ⟨s, es⟩ : ∃ s, s = d / 48 % 5 := ⟨_, rfl⟩
    have hs : 0 ≤ s ∧ s < 5 := by omega
    rw [← es]
    obtain ⟨r, er⟩ : ∃ r, r = d % 16 := ⟨_, rfl⟩
    have hr : 0 ≤ r ∧ r < 16 := by omega
    rw [← er]
    rcases (by omega : r = 0 ∨ r = 1 ∨ r = 2 ∨ r = 3 ∨ r = 4 ∨ r = 5 ∨ r = 6 ∨ r = 7 ∨ r = 8 ∨ r = 9 ∨ r = 10 ∨ r = 11 ∨ r = 12 ∨ r = 13 ∨ r = 14 ∨ r = 15) with h | h | h | h | h | h | h | h | h | h | h | h | h | h | h | h
    · rw [h, ok_eq (show atI _ 0 = some (Tm.t (.nam x)) from rfl)]
      exact ⟨.nam x, rfl, .nam hx⟩
    · rw [h, ok_eq (show atI _ 1 = some (Tm.t (.nam x)) from rfl)]
      exact ⟨.nam x, rfl, .nam hx⟩
    · rw [h, ok_eq (show atI _ 2 = some (Tm.t (.nam x)) from rfl)]
      exact ⟨.nam x, rfl, .nam hx⟩
    · rw [h, ok_eq (show atI _ 3 = some (Tm.t (.nam x)) from rfl)]
      exact ⟨.nam x, rfl, .nam hx⟩
    · rw [h, ok_eq (show atI _ 4 = some (Tm.t (.num s)) from rfl)]
      exact ⟨.num s, rfl, .num hs.1 (by omega)⟩
    · rw [h, ok_eq (show atI _ 5 = some (Tm.t (.num s)) from rfl)]
      exact ⟨.num s, rfl, .num hs.1 (by omega)⟩
    · rw [h, ok_eq (show atI _ 6 = some (Tm.t (.num s)) from rfl)]
      exact ⟨.num s, rfl, .num hs.1 (by omega)⟩
    · rw [h, ok_eq (show atI _ 7 = some (Tm.t (.num g)) from rfl)]
      exact ⟨.num g, rfl, .num hg.1 hg.2⟩
    · rw [h, ok_eq (show atI _ 8 = some (Tm.t (.bi .plus (.nam x) (.num s))) from rfl)]
      exact ⟨.bi .plus (.nam x) (.num s), rfl, .plus hx hs.1 (by omega)⟩
    · rw [h, ok_eq (show atI _ 9 = some (Tm.t (.bi .minus (.nam x) (.nam y))) from rfl)]
      exact ⟨.bi .minus (.nam x) (.nam y), rfl, .minus hx hy⟩
    · rw [h, ok_eq (show atI _ 10 = some (Tm.t (.bi .times (.nam x) (.nam y))) from rfl)]
      exact ⟨.bi .times (.nam x) (.nam y), rfl, .times hx hy⟩
    · rw [h, ok_eq (show atI _ 11 = some (Tm.t (.neg (.nam x))) from rfl)]
      exact ⟨.neg (.nam x), rfl, .neg hx⟩
    · rw [h, ok_eq (show atI _ 12 = some (Tm.t (.dv .quotient (.nam x) (1 + s))) from rfl)]
      exact ⟨.dv .quotient (.nam x) (1 + s), rfl, .quot hx (by omega) (by omega)⟩
    · rw [h, ok_eq (show atI _ 13 = some (Tm.t (.dv .remainder (.nam y) (1 + s))) from rfl)]
      exact ⟨.dv .remainder (.nam y) (1 + s), rfl, .rem hy (by omega) (by omega)⟩
    · rw [h, ok_eq (show atI _ 14 = some (Tm.t (.bi .least (.nam x) (.num s))) from rfl)]
      exact ⟨.bi .least (.nam x) (.num s), rfl, .least hx hs.1 (by omega)⟩
    · rw [h, ok_eq (show atI _ 15 = some (Tm.t (.bi .most (.neg (.nam x)) (.nam y))) from rfl)]
      exact ⟨.bi .most (.neg (.nam x)) (.nam y), rfl, .most hx hy⟩
  obtain ⟨v, q, t, rfl, h⟩ := key.eq
  exact ⟨t, q, h⟩
end FB
namespace FC
open PySem L2 Mi Fu LA FA FB
local macro_rules | `(tactic| walk_at "kw") => `(tactic| try simp (decide := true) only [Fu.k_c, Fu.k_var, Fu.k_op, Fu.k_un, Fu.k_nil, Fu.k_cons, Fu.k_star, Fu.k_tup, Fu.k_lst, Fu.k_cb, Fu.k_cbF, Fu.flatT_i, Fu.flatT_s, Fu.flatT_b, Fu.flatT_n, Fu.k_test, Fu.asB_bl, Fu.asI_int, Fu.k_not, Fu.k_and, Fu.k_or, Fu.k_yes, Fu.k_notV, Fu.k_andV, Fu.k_orV, Fu.k_if, Fu.k_oN, Fu.k_oS, Fu.k_sl, Fu.k_chain, Fu.k_isi, Fu.asS_str, Fu.k_kd, Fu.k_kin, Fu.k_lc, Fu.k_seq, Fu.k_r1, Fu.k_r2, Fu.s_next, Fu.s_seq, Fu.s_set, Fu.s_own, Fu.s_asg, Fu.s_drop, Fu.s_ret, Fu.s_retN, Fu.s_brk, Fu.s_cnt, Fu.s_if, Fu.s_aug, Fu.k_gNm, Fu.k_gNil, Fu.k_gCons, Fu.k_gTp, Fu.asL_lst, Fu.asTp_tup, Fu.p_var, Fu.k_pth, Fu.p_ix, Fu.p_cm, id, Fu.s_app, Fu.s_pop, Fu.s_popD, Fu.s_rev, Fu.s_clr, Fu.s_put, Fu.s_callP, Fu.s_mvP, Fu.k_cbP, Fu.asP_mk, Fu.k_lcP, Fu.k_en, Fu.k_rv, Fu.k_zp, Fu.lstO_l, Fu.lstO_f, Fu.bOpT_bb, Fu.k_fld, Fu.asO_obj, Fu.s_for, Fu.s_while, Fu.ok_some, Fu.ok_ite, Fu.wipeT,
  Fu.addT_ii, Fu.addT_ll, Fu.addT_ss, Fu.addT_tt, Fu.catT_ll, Fu.subT_ii, Fu.mulT_ii, Fu.mulT_li, Fu.repT_li, Fu.fdivT_ii, Fu.modT_ii, Fu.powT_ii, Fu.negT_i, Fu.ltT_ii, Fu.leT_ii, Fu.gtT_ii, Fu.geT_ii, Fu.eqST_ii, Fu.eqST_ss, Fu.eqST_bb, Fu.eqT_ii, Fu.eqT_ss, Fu.eqT_bb, Fu.ok_oBl, Fu.ok_oNb, Fu.isNT_n, Fu.isNT_i, Fu.isNT_l, Fu.isNT_t, Fu.isNT_b, Fu.isNT_s, Fu.lenT_l, Fu.lenT_t, Fu.lenT_f, Fu.itemsT_l, Fu.itemsT_t, Fu.itemsT_f, Fu.lstT_l, Fu.lstT_t, Fu.lstT_f, Fu.tupT_l, Fu.tupT_t, Fu.ixT_l, Fu.ixT_t, Fu.ixT_f, Fu.intT_i, Fu.absT_i, Fu.max2T_i, Fu.min2T_i, Fu.slT_l, Fu.slLT_l, Fu.tyT_i, Fu.tyT_s, Fu.tyT_b, Fu.tyT_t, Fu.tyT_l, Fu.tyT_f, Fu.tyT_n,
  List.getElem?_cons_zero, List.getElem?_cons_succ, List.getD_cons_zero, List.getD_cons_succ, List.set_cons_zero, List.set_cons_succ, List.map_cons, List.map_nil, List.replicate, List.append_nil, List.cons_append, List.nil_append, List.length_cons, List.length_nil, Nat.reduceAdd, Nat.reduceSub, Nat.reduceLT, Nat.reduceLeDiff, Nat.zero_add, Int.reduceToNat, Int.reducePow, Int.reduceNeg, Mi.mulC_r, Mi.atI_0, Mi.atI_1, Mi.atI_2,
  subTy, decide_true, decide_false, Bool.or_self, Bool.or_true, Bool.true_or, Bool.or_false, Bool.false_or, Bool.and_true, Bool.true_and, Bool.and_false, Bool.false_and, Bool.and_self, Bool.not_true, Bool.not_false, Bool.false_eq_true, Bool.true_eq_false, true_and, and_true, and_self, if_true, if_false, ite_true, ite_false])
local macro_rules | `(tactic| walk_at "k1") => `(tactic| try simp (decide := true) only [Fu.k_c, Fu.k_var, Fu.k_op, Fu.k_un, Fu.k_nil, Fu.k_cons, Fu.k_star, Fu.k_tup, Fu.k_lst, Fu.k_cb, Fu.k_cbF, Fu.flatT_i, Fu.flatT_s, Fu.flatT_b, Fu.flatT_n, Fu.k_test, Fu.asB_bl, Fu.asI_int, Fu.k_not, Fu.k_and, Fu.k_or, Fu.k_yes, Fu.k_notV, Fu.k_andV, Fu.k_orV, Fu.k_if, Fu.k_oN, Fu.k_oS, Fu.k_sl, Fu.k_chain, Fu.k_isi, Fu.asS_str, Fu.k_kd, Fu.k_kin, Fu.k_lc, Fu.k_seq, Fu.k_r1, Fu.k_r2, Fu.s_next, Fu.s_set, Fu.s_own, Fu.s_asg, Fu.s_drop, Fu.s_ret, Fu.s_retN, Fu.s_brk, Fu.s_cnt, Fu.s_if, Fu.s_aug, Fu.k_gNm, Fu.k_gNil, Fu.k_gCons, Fu.k_gTp, Fu.asL_lst, Fu.asTp_tup, Fu.p_var, Fu.k_pth, Fu.p_ix, Fu.p_cm, id, Fu.s_app, Fu.s_pop, Fu.s_popD, Fu.s_rev, Fu.s_clr, Fu.s_put, Fu.s_callP, Fu.s_mvP, Fu.k_cbP, Fu.asP_mk, Fu.k_lcP, Fu.k_en, Fu.k_rv, Fu.k_zp, Fu.lstO_l, Fu.lstO_f, Fu.bOpT_bb, Fu.k_fld, Fu.asO_obj, Fu.s_for, Fu.s_while, Fu.ok_some, Fu.ok_ite, Fu.wipeT,
  Fu.addT_ii, Fu.addT_ll, Fu.addT_ss, Fu.addT_tt, Fu.catT_ll, Fu.subT_ii, Fu.mulT_ii, Fu.mulT_li, Fu.repT_li, Fu.fdivT_ii, Fu.modT_ii, Fu.powT_ii, Fu.negT_i, Fu.ltT_ii, Fu.leT_ii, Fu.gtT_ii, Fu.geT_ii, Fu.eqST_ii, Fu.eqST_ss, Fu.eqST_bb, Fu.eqT_ii, Fu.eqT_ss, Fu.eqT_bb, Fu.ok_oBl, Fu.ok_oNb, Fu.isNT_n, Fu.isNT_i, Fu.isNT_l, Fu.isNT_t, Fu.isNT_b, Fu.isNT_s, Fu.lenT_l, Fu.lenT_t, Fu.lenT_f, Fu.itemsT_l, Fu.itemsT_t, Fu.itemsT_f, Fu.lstT_l, Fu.lstT_t, Fu.lstT_f, Fu.tupT_l, Fu.tupT_t, Fu.ixT_l, Fu.ixT_t, Fu.ixT_f, Fu.intT_i, Fu.absT_i, Fu.max2T_i, Fu.min2T_i, Fu.slT_l, Fu.slLT_l, Fu.tyT_i, Fu.tyT_s, Fu.tyT_b, Fu.tyT_t, Fu.tyT_l, Fu.tyT_f, Fu.tyT_n,
  List.getElem?_cons_zero, List.getElem?_cons_succ, List.getD_cons_zero, List.getD_cons_succ, List.set_cons_zero, List.set_cons_succ, List.map_cons, List.map_nil, List.replicate, List.append_nil, List.cons_append, List.nil_append, List.length_cons, List.length_nil, Nat.reduceAdd, Nat.reduceSub, Nat.reduceLT, Nat.reduceLeDiff, Nat.zero_add, Int.reduceToNat, Int.reducePow, Int.reduceNeg, Mi.mulC_r, Mi.atI_0, Mi.atI_1, Mi.atI_2,
  subTy, decide_true, decide_false, Bool.or_self, Bool.or_true, Bool.true_or, Bool.or_false, Bool.false_or, Bool.and_true, Bool.true_and, Bool.and_false, Bool.false_and, Bool.and_self, Bool.not_true, Bool.not_false, Bool.false_eq_true, Bool.true_eq_false, true_and, and_true, and_self, if_true, if_false, ite_true, ite_false])
local macro_rules | `(tactic| walk_at "ks") => `(tactic| (rw [Fu.s_seq]; walk_at "k1"))
local macro_rules | `(tactic| walk_at "k2") => `(tactic| try simp (decide := true) only [Fu.k_tru, Fu.truT_l, Fu.truT_d, Fu.s_ext, Fu.s_ddel, Fu.k_cbL, Fu.dgetT_d, Fu.dinT_d, Fu.keyT_i, Fu.asDc_d, Fu.k_dc, Fu.s_dput, Fu.dkeysT_d, Fu.k_c, Fu.k_var, Fu.k_op, Fu.k_un, Fu.k_nil, Fu.k_cons, Fu.k_star, Fu.k_tup, Fu.k_lst, Fu.k_cb, Fu.k_cbF, Fu.flatT_i, Fu.flatT_s, Fu.flatT_b, Fu.flatT_n, Fu.k_test, Fu.asB_bl, Fu.asI_int, Fu.k_not, Fu.k_and, Fu.k_or, Fu.k_yes, Fu.k_notV, Fu.k_andV, Fu.k_orV, Fu.k_if, Fu.k_oN, Fu.k_oS, Fu.k_sl, Fu.k_chain, Fu.k_isi, Fu.asS_str, Fu.k_kd, Fu.k_kin, Fu.k_lc, Fu.k_seq, Fu.k_r1, Fu.k_r2, Fu.s_next, Fu.s_set, Fu.s_own, Fu.s_asg, Fu.s_drop, Fu.s_ret, Fu.s_retN, Fu.s_brk, Fu.s_cnt, Fu.s_if, Fu.s_aug, Fu.k_gNm, Fu.k_gNil, Fu.k_gCons, Fu.k_gTp, Fu.asL_lst, Fu.asTp_tup, Fu.p_var, Fu.k_pth, Fu.p_ix, Fu.p_cm, id, Fu.s_app, Fu.s_pop, Fu.s_popD, Fu.s_rev, Fu.s_clr, Fu.s_put, Fu.s_callP, Fu.s_mvP, Fu.k_cbP, Fu.asP_mk, Fu.k_lcP, Fu.k_en, Fu.k_rv, Fu.k_zp, Fu.lstO_l, Fu.lstO_f, Fu.bOpT_bb, Fu.k_fld, Fu.asO_obj, Fu.s_for, Fu.s_while, Fu.ok_some, Fu.ok_ite, Fu.wipeT,
  Fu.addT_ii, Fu.addT_ll, Fu.addT_ss, Fu.addT_tt, Fu.catT_ll, Fu.subT_ii, Fu.mulT_ii, Fu.mulT_li, Fu.repT_li, Fu.fdivT_ii, Fu.modT_ii, Fu.powT_ii, Fu.negT_i, Fu.ltT_ii, Fu.leT_ii, Fu.gtT_ii, Fu.geT_ii, Fu.eqST_ii, Fu.eqST_ss, Fu.eqST_bb, Fu.eqT_ii, Fu.eqT_ss, Fu.eqT_bb, Fu.ok_oBl, Fu.ok_oNb, Fu.isNT_n, Fu.isNT_i, Fu.isNT_l, Fu.isNT_t, Fu.isNT_b, Fu.isNT_s, Fu.lenT_l, Fu.lenT_t, Fu.lenT_f, Fu.itemsT_l, Fu.itemsT_t, Fu.itemsT_f, Fu.lstT_l, Fu.lstT_t, Fu.lstT_f, Fu.tupT_l, Fu.tupT_t, Fu.ixT_l, Fu.ixT_t, Fu.ixT_f, Fu.intT_i, Fu.absT_i, Fu.max2T_i, Fu.min2T_i, Fu.slT_l, Fu.slLT_l, Fu.tyT_i, Fu.tyT_s, Fu.tyT_b, Fu.tyT_t, Fu.tyT_l, Fu.tyT_f, Fu.tyT_n,
  List.getElem?_cons_zero, List.getElem?_cons_succ, List.getD_cons_zero, List.getD_cons_succ, List.set_cons_zero, List.set_cons_succ, List.map_cons, List.map_nil, List.replicate, List.append_nil, List.cons_append, List.nil_append, List.length_cons, List.length_nil, Nat.reduceAdd, Nat.reduceSub, Nat.reduceLT, Nat.reduceLeDiff, Nat.zero_add, Int.reduceToNat, Int.reducePow, Int.reduceNeg, Mi.mulC_r, Mi.atI_0, Mi.atI_1, Mi.atI_2,
  subTy, decide_true, decide_false, Bool.or_self, Bool.or_true, Bool.true_or, Bool.or_false, Bool.false_or, Bool.and_true, Bool.true_and, Bool.and_false, Bool.false_and, Bool.and_self, Bool.not_true, Bool.not_false, Bool.false_eq_true, Bool.true_eq_false, true_and, and_true, and_self, if_true, if_false, ite_true, ite_false])
local macro_rules | `(tactic| walk_at "kt") => `(tactic| (rw [Fu.s_seq]; walk_at "k2"))
local macro_rules | `(tactic| walk_at "k3") => `(tactic| try simp (decide := true) only [Fu.k_let, Fu.atI_3, Fu.atI_4, Fu.atI_5, Fu.k_ho, Fu.k_he, Fu.k_testC, Fu.k_andC, Fu.k_orC, Fu.k_notC, Fu.s_setC, Fu.s_retC, Fu.s_dropC, Fu.s_ifC, Fu.s_forC, Fu.sp_retC, Fu.sp_ifC, Fu.sp_setC, Fu.sp_if, Fu.sp_ret, Fu.sp_next, Fu.asR_mk, Fu.s_callRi, Fu.mulT_si, Fu.lenT_s, Fu.strXT_i, Fu.strST_i, Fu.strXT_s, Fu.strST_s, Fu.k_dget2, Fu.splitT_ss, Fu.predT_s, Fu.k_js0, Fu.k_js1, Fu.fmtT_s, Fu.fmtT_i, Fu.k_fmt, Fu.k_kg, List.take_succ_cons, List.take_zero, List.take_nil, eq_self, Fu.k_tru, Fu.truT_l, Fu.truT_d, Fu.s_ext, Fu.s_ddel, Fu.k_cbL, Fu.dgetT_d, Fu.dinT_d, Fu.keyT_i, Fu.asDc_d, Fu.k_dc, Fu.s_dput, Fu.dkeysT_d, Fu.k_c, Fu.k_var, Fu.k_op, Fu.k_un, Fu.k_nil, Fu.k_cons, Fu.k_star, Fu.k_tup, Fu.k_lst, Fu.k_cb, Fu.k_cbF, Fu.flatT_i, Fu.flatT_s, Fu.flatT_b, Fu.flatT_n, Fu.k_test, Fu.asB_bl, Fu.asI_int, Fu.k_not, Fu.k_and, Fu.k_or, Fu.k_yes, Fu.k_notV, Fu.k_andV, Fu.k_orV, Fu.k_if, Fu.k_oN, Fu.k_oS, Fu.k_sl, Fu.k_chain, Fu.k_isi, Fu.asS_str, Fu.k_kd, Fu.k_kin, Fu.k_lc, Fu.k_seq, Fu.k_r1, Fu.k_r2, Fu.s_next, Fu.s_set, Fu.s_own, Fu.s_asg, Fu.s_drop, Fu.s_ret, Fu.s_retN, Fu.s_brk, Fu.s_cnt, Fu.s_if, Fu.s_aug, Fu.k_gNm, Fu.k_gNil, Fu.k_gCons, Fu.k_gTp, Fu.asL_lst, Fu.asTp_tup, Fu.p_var, Fu.k_pth, Fu.p_ix, Fu.p_cm, id, Fu.s_app, Fu.s_pop, Fu.s_popD, Fu.s_rev, Fu.s_clr, Fu.s_put, Fu.s_callP, Fu.s_mvP, Fu.k_cbP, Fu.asP_mk, Fu.k_lcP, Fu.k_en, Fu.k_rv, Fu.k_zp, Fu.lstO_l, Fu.lstO_f, Fu.bOpT_bb, Fu.k_fld, Fu.asO_obj, Fu.s_for, Fu.s_while, Fu.ok_some, Fu.ok_ite, Fu.wipeT,
  Fu.addT_ii, Fu.addT_ll, Fu.addT_ss, Fu.addT_tt, Fu.catT_ll, Fu.subT_ii, Fu.mulT_ii, Fu.mulT_li, Fu.repT_li, Fu.fdivT_ii, Fu.modT_ii, Fu.powT_ii, Fu.negT_i, Fu.ltT_ii, Fu.leT_ii, Fu.gtT_ii, Fu.geT_ii, Fu.eqST_ii, Fu.eqST_ss, Fu.eqST_bb, Fu.eqT_ii, Fu.eqT_ss, Fu.eqT_bb, Fu.ok_oBl, Fu.ok_oNb, Fu.isNT_n, Fu.isNT_i, Fu.isNT_l, Fu.isNT_t, Fu.isNT_b, Fu.isNT_s, Fu.lenT_l, Fu.lenT_t, Fu.lenT_f, Fu.itemsT_l, Fu.itemsT_t, Fu.itemsT_f, Fu.lstT_l, Fu.lstT_t, Fu.lstT_f, Fu.tupT_l, Fu.tupT_t, Fu.ixT_l, Fu.ixT_t, Fu.ixT_f, Fu.intT_i, Fu.absT_i, Fu.max2T_i, Fu.min2T_i, Fu.slT_l, Fu.slLT_l, Fu.tyT_i, Fu.tyT_s, Fu.tyT_b, Fu.tyT_t, Fu.tyT_l, Fu.tyT_f, Fu.tyT_n,
  List.getElem?_cons_zero, List.getElem?_cons_succ, List.getD_cons_zero, List.getD_cons_succ, List.set_cons_zero, List.set_cons_succ, List.map_cons, List.map_nil, List.replicate, List.append_nil, List.cons_append, List.nil_append, List.length_cons, List.length_nil, Nat.reduceAdd, Nat.reduceSub, Nat.reduceLT, Nat.reduceLeDiff, Nat.zero_add, Int.reduceToNat, Int.reducePow, Int.reduceNeg, Mi.mulC_r, Mi.atI_0, Mi.atI_1, Mi.atI_2,
  subTy, decide_true, decide_false, Bool.or_self, Bool.or_true, Bool.true_or, Bool.or_false, Bool.false_or, Bool.and_true, Bool.true_and, Bool.and_false, Bool.false_and, Bool.and_self, Bool.not_true, Bool.not_false, Bool.false_eq_true, Bool.true_eq_false, true_and, and_true, and_self, if_true, if_false, ite_true, ite_false])
local macro_rules | `(tactic| walk_at "kr") => `(tactic| (rw [Fu.s_seq]; walk_at "k3"))
def L (s : Str) : List Nat := s.cps.toList
def lvs : List (Str × Int) := [("number", 11), ("name", 11), ("true", 11), ("false", 11), ("least", 11), ("most", 11), ("negative", 10), ("plus", 8), ("minus", 8), ("times", 9), ("quotient", 9), ("remainder", 9), ("equal", 7), ("below", 7), ("upto", 7), ("not", 6), ("next", 6), ("eventually", 6), ("always", 6), ("and", 4), ("or", 3), ("implies", 2), ("same", 1), ("until", 5), ("release", 5), ("unless", 5), ("strong", 5)]
def lv (w : Str) : Int := (lvs.lookup w).getD 0
def sds : List (Str × Int × Int) := [("same", 1, 2), ("implies", 3, 2), ("or", 3, 4), ("and", 4, 5), ("until", 6, 5), ("release", 6, 5), ("unless", 6, 5), ("strong", 6, 5), ("equal", 8, 8), ("below", 8, 8), ("upto", 8, 8), ("plus", 8, 9), ("minus", 8, 9), ("times", 9, 10), ("quotient", 9, 11), ("remainder", 9, 11)]
def sr (w : Str) : Int := ((sds.lookup w).getD (0, 0)).2
theorem app_len (a b : Str) : (a ++ b).length = a.length + b.length := Str.length_append a b
/-- what kind of term the words are -/
def kind : List (List Nat) → Nat
  | [w] => if w.headD 0 = 45 then (if (w.drop 1).headD 0 ≤ 57 then 6 else 2) else if w.headD 0 ≤ 57 then 1 else 0
  | [w, _] => if (w.drop 1).headD 0 = 97 then 4 else 3
  | [_, v, _] => 5 + v.headD 0
  | _ => 5
def kd : Tm → Nat
  | .nam _ => 0
  | .num _ => 1
  | .neg (.num _) => 6
  | .neg _ => 2
  | .bi .least _ _ => 3
  | .bi .most _ _ => 4
  | .bi .plus _ _ => 48
  | .bi .minus _ _ => 50
  | .bi .times _ _ => 47
  | .dv .quotient _ _ => 105
  | .dv .remainder _ _ => 114
inductive OpW where
  | u (w : UnW) | b (w : BiW)
def OpW.s : OpW → Str
  | .u w => w.s
  | .b w => w.s
end FC
namespace FD
open PySem L2 Mi Fu LA FA FB FC
local macro_rules | `(tactic| walk_at "kw") => `(tactic| try simp (decide := true) only [Fu.k_c, Fu.k_var, Fu.k_op, Fu.k_un, Fu.k_nil, Fu.k_cons, Fu.k_star, Fu.k_tup, Fu.k_lst, Fu.k_cb, Fu.k_cbF, Fu.flatT_i, Fu.flatT_s, Fu.flatT_b, Fu.flatT_n, Fu.k_test, Fu.asB_bl, Fu.asI_int, Fu.k_not, Fu.k_and, Fu.k_or, Fu.k_yes, Fu.k_notV, Fu.k_andV, Fu.k_orV, Fu.k_if, Fu.k_oN, Fu.k_oS, Fu.k_sl, Fu.k_chain, Fu.k_isi, Fu.asS_str, Fu.k_kd, Fu.k_kin, Fu.k_lc, Fu.k_seq, Fu.k_r1, Fu.k_r2, Fu.s_next, Fu.s_seq, Fu.s_set, Fu.s_own, Fu.s_asg, Fu.s_drop, Fu.s_ret, Fu.s_retN, Fu.s_brk, Fu.s_cnt, Fu.s_if, Fu.s_aug, Fu.k_gNm, Fu.k_gNil, Fu.k_gCons, Fu.k_gTp, Fu.asL_lst, Fu.asTp_tup, Fu.p_var, Fu.k_pth, Fu.p_ix, Fu.p_cm, id, Fu.s_app, Fu.s_pop, Fu.s_popD, Fu.s_rev, Fu.s_clr, Fu.s_put, Fu.s_callP, Fu.s_mvP, Fu.k_cbP, Fu.asP_mk, Fu.k_lcP, Fu.k_en, Fu.k_rv, Fu.k_zp, Fu.lstO_l, Fu.lstO_f, Fu.bOpT_bb, Fu.k_fld, Fu.asO_obj, Fu.s_for, Fu.s_while, Fu.ok_some, Fu.ok_ite, Fu.wipeT,
  Fu.addT_ii, Fu.addT_ll, Fu.addT_ss, Fu.addT_tt, Fu.catT_ll, Fu.subT_ii, Fu.mulT_ii, Fu.mulT_li, Fu.repT_li, Fu.fdivT_ii, Fu.modT_ii, Fu.powT_ii, Fu.negT_i, Fu.ltT_ii, Fu.leT_ii, Fu.gtT_ii, Fu.geT_ii, Fu.eqST_ii, Fu.eqST_ss, Fu.eqST_bb, Fu.eqT_ii, Fu.eqT_ss, Fu.eqT_bb, Fu.ok_oBl, Fu.ok_oNb, Fu.isNT_n, Fu.isNT_i, Fu.isNT_l, Fu.isNT_t, Fu.isNT_b, Fu.isNT_s, Fu.lenT_l, Fu.lenT_t, Fu.lenT_f, Fu.itemsT_l, Fu.itemsT_t, Fu.itemsT_f, Fu.lstT_l, Fu.lstT_t, Fu.lstT_f, Fu.tupT_l, Fu.tupT_t, Fu.ixT_l, Fu.ixT_t, Fu.ixT_f, Fu.intT_i, Fu.absT_i, Fu.max2T_i, Fu.min2T_i, Fu.slT_l, Fu.slLT_l, Fu.tyT_i, Fu.tyT_s, Fu.tyT_b, Fu.tyT_t, Fu.tyT_l, Fu.tyT_f, Fu.tyT_n,
  List.getElem?_cons_zero, List.getElem?_cons_succ, List.getD_cons_zero, List.getD_cons_succ, List.set_cons_zero, List.set_cons_succ, List.map_cons, List.map_nil, List.replicate, List.append_nil, List.cons_append, List.nil_append, List.length_cons, List.length_nil, Nat.reduceAdd, Nat.reduceSub, Nat.reduceLT, Nat.reduceLeDiff, Nat.zero_add, Int.reduceToNat, Int.reducePow, Int.reduceNeg, Mi.mulC_r, Mi.atI_0, Mi.atI_1, Mi.atI_2,
  subTy, decide_true, decide_false, Bool.or_self, Bool.or_true, Bool.true_or, Bool.or_false, Bool.false_or, Bool.and_true, Bool.true_and, Bool.and_false, Bool.false_and, Bool.and_self, Bool.not_true, Bool.not_false, Bool.false_eq_true, Bool.true_eq_false, true_and, and_true, and_self, if_true, if_false, ite_true, ite_false])
local macro_rules | `(tactic| walk_at "k1") => `(tactic| try simp (decide := true) only [Fu.k_c, Fu.k_var, Fu.k_op, Fu.k_un, Fu.k_nil, Fu.k_cons, Fu.k_star, Fu.k_tup, Fu.k_lst, Fu.k_cb, Fu.k_cbF, Fu.flatT_i, Fu.flatT_s, Fu.flatT_b, Fu.flatT_n, Fu.k_test, Fu.asB_bl, Fu.asI_int, Fu.k_not, Fu.k_and, Fu.k_or, Fu.k_yes, Fu.k_notV, Fu.k_andV, Fu.k_orV, Fu.k_if, Fu.k_oN, Fu.k_oS, Fu.k_sl, Fu.k_chain, Fu.k_isi, Fu.asS_str, Fu.k_kd, Fu.k_kin, Fu.k_lc, Fu.k_seq, Fu.k_r1, Fu.k_r2, Fu.s_next, Fu.s_set, Fu.s_own, Fu.s_asg, Fu.s_drop, Fu.s_ret, Fu.s_retN, Fu.s_brk, Fu.s_cnt, Fu.s_if, Fu.s_aug, Fu.k_gNm, Fu.k_gNil, Fu.k_gCons, Fu.k_gTp, Fu.asL_lst, Fu.asTp_tup, Fu.p_var, Fu.k_pth, Fu.p_ix, Fu.p_cm, id, Fu.s_app, Fu.s_pop, Fu.s_popD, Fu.s_rev, Fu.s_clr, Fu.s_put, Fu.s_callP, Fu.s_mvP, Fu.k_cbP, Fu.asP_mk, Fu.k_lcP, Fu.k_en, Fu.k_rv, Fu.k_zp, Fu.lstO_l, Fu.lstO_f, Fu.bOpT_bb, Fu.k_fld, Fu.asO_obj, Fu.s_for, Fu.s_while, Fu.ok_some, Fu.ok_ite, Fu.wipeT,
  Fu.addT_ii, Fu.addT_ll, Fu.addT_ss, Fu.addT_tt, Fu.catT_ll, Fu.subT_ii, Fu.mulT_ii, Fu.mulT_li, Fu.repT_li, Fu.fdivT_ii, Fu.modT_ii, Fu.powT_ii, Fu.negT_i, Fu.ltT_ii, Fu.leT_ii, Fu.gtT_ii, Fu.geT_ii, Fu.eqST_ii, Fu.eqST_ss, Fu.eqST_bb, Fu.eqT_ii, Fu.eqT_ss, Fu.eqT_bb, Fu.ok_oBl, Fu.ok_oNb, Fu.isNT_n, Fu.isNT_i, Fu.isNT_l, Fu.isNT_t, Fu.isNT_b, Fu.isNT_s, Fu.lenT_l, Fu.lenT_t, Fu.lenT_f, Fu.itemsT_l, Fu.itemsT_t, Fu.itemsT_f, Fu.lstT_l, Fu.lstT_t, Fu.lstT_f, Fu.tupT_l, Fu.tupT_t, Fu.ixT_l, Fu.ixT_t, Fu.ixT_f, Fu.intT_i, Fu.absT_i, Fu.max2T_i, Fu.min2T_i, Fu.slT_l, Fu.slLT_l, Fu.tyT_i, Fu.tyT_s, Fu.tyT_b, Fu.tyT_t, Fu.tyT_l, Fu.tyT_f, Fu.tyT_n,
  List.getElem?_cons_zero, List.getElem?_cons_succ, List.getD_cons_zero, List.getD_cons_succ, List.set_cons_zero, List.set_cons_succ, List.map_cons, List.map_nil, List.replicate, List.append_nil, List.cons_append, List.nil_append, List.length_cons, List.length_nil, Nat.reduceAdd, Nat.reduceSub, Nat.reduceLT, Nat.reduceLeDiff, Nat.zero_add, Int.reduceToNat, Int.reducePow, Int.reduceNeg, Mi.mulC_r, Mi.atI_0, Mi.atI_1, Mi.atI_2,
  subTy, decide_true, decide_false, Bool.or_self, Bool.or_true, Bool.true_or, Bool.or_false, Bool.false_or, Bool.and_true, Bool.true_and, Bool.and_false, Bool.false_and, Bool.and_self, Bool.not_true, Bool.not_false, Bool.false_eq_true, Bool.true_eq_false, true_and, and_true, and_self, if_true, if_false, ite_true, ite_false])
local macro_rules | `(tactic| walk_at "ks") => `(tactic| (rw [Fu.s_seq]; walk_at "k1"))
local macro_rules | `(tactic| walk_at "k2") => `(tactic| try simp (decide := true) only [Fu.k_tru, Fu.truT_l, Fu.truT_d, Fu.s_ext, Fu.s_ddel, Fu.k_cbL, Fu.dgetT_d, Fu.dinT_d, Fu.keyT_i, Fu.asDc_d, Fu.k_dc, Fu.s_dput, Fu.dkeysT_d, Fu.k_c, Fu.k_var, Fu.k_op, Fu.k_un, Fu.k_nil, Fu.k_cons, Fu.k_star, Fu.k_tup, Fu.k_lst, Fu.k_cb, Fu.k_cbF, Fu.flatT_i, Fu.flatT_s, Fu.flatT_b, Fu.flatT_n, Fu.k_test, Fu.asB_bl, Fu.asI_int, Fu.k_not, Fu.k_and, Fu.k_or, Fu.k_yes, Fu.k_notV, Fu.k_andV, Fu.k_orV, Fu.k_if, Fu.k_oN, Fu.k_oS, Fu.k_sl, Fu.k_chain, Fu.k_isi, Fu.asS_str, Fu.k_kd, Fu.k_kin, Fu.k_lc, Fu.k_seq, Fu.k_r1, Fu.k_r2, Fu.s_next, Fu.s_set, Fu.s_own, Fu.s_asg, Fu.s_drop, Fu.s_ret, Fu.s_retN, Fu.s_brk, Fu.s_cnt, Fu.s_if, Fu.s_aug, Fu.k_gNm, Fu.k_gNil, Fu.k_gCons, Fu.k_gTp, Fu.asL_lst, Fu.asTp_tup, Fu.p_var, Fu.k_pth, Fu.p_ix, Fu.p_cm, id, Fu.s_app, Fu.s_pop, Fu.s_popD, Fu.s_rev, Fu.s_clr, Fu.s_put, Fu.s_callP, Fu.s_mvP, Fu.k_cbP, Fu.asP_mk, Fu.k_lcP, Fu.k_en, Fu.k_rv, Fu.k_zp, Fu.lstO_l, Fu.lstO_f, Fu.bOpT_bb, Fu.k_fld, Fu.asO_obj, Fu.s_for, Fu.s_while, Fu.ok_some, Fu.ok_ite, Fu.wipeT,
  Fu.addT_ii, Fu.addT_ll, Fu.addT_ss, Fu.addT_tt, Fu.catT_ll, Fu.subT_ii, Fu.mulT_ii, Fu.mulT_li, Fu.repT_li, Fu.fdivT_ii, Fu.modT_ii, Fu.powT_ii, Fu.negT_i, Fu.ltT_ii, Fu.leT_ii, Fu.gtT_ii, Fu.geT_ii, Fu.eqST_ii, Fu.eqST_ss, Fu.eqST_bb, Fu.eqT_ii, Fu.eqT_ss, Fu.eqT_bb, Fu.ok_oBl, Fu.ok_oNb, Fu.isNT_n, Fu.isNT_i, Fu.isNT_l, Fu.isNT_t, Fu.isNT_b, Fu.isNT_s, Fu.lenT_l, Fu.lenT_t, Fu.lenT_f, Fu.itemsT_l, Fu.itemsT_t, Fu.itemsT_f, Fu.lstT_l, Fu.lstT_t, Fu.lstT_f, Fu.tupT_l, Fu.tupT_t, Fu.ixT_l, Fu.ixT_t, Fu.ixT_f, Fu.intT_i, Fu.absT_i, Fu.max2T_i, Fu.min2T_i, Fu.slT_l, Fu.slLT_l, Fu.tyT_i, Fu.tyT_s, Fu.tyT_b, Fu.tyT_t, Fu.tyT_l, Fu.tyT_f, Fu.tyT_n,
  List.getElem?_cons_zero, List.getElem?_cons_succ, List.getD_cons_zero, List.getD_cons_succ, List.set_cons_zero, List.set_cons_succ, List.map_cons, List.map_nil, List.replicate, List.append_nil, List.cons_append, List.nil_append, List.length_cons, List.length_nil, Nat.reduceAdd, Nat.reduceSub, Nat.reduceLT, Nat.reduceLeDiff, Nat.zero_add, Int.reduceToNat, Int.reducePow, Int.reduceNeg, Mi.mulC_r, Mi.atI_0, Mi.atI_1, Mi.atI_2,
  subTy, decide_true, decide_false, Bool.or_self, Bool.or_true, Bool.true_or, Bool.or_false, Bool.false_or, Bool.and_true, Bool.true_and, Bool.and_false, Bool.false_and, Bool.and_self, Bool.not_true, Bool.not_false, Bool.false_eq_true, Bool.true_eq_false, true_and, and_true, and_self, if_true, if_false, ite_true, ite_false])
local macro_rules | `(tactic| walk_at "kt") => `(tactic| (rw [Fu.s_seq]; walk_at "k2"))
local macro_rules | `(tactic| walk_at "k3") => `(tactic| try simp (decide := true) only [Fu.k_let, Fu.atI_3, Fu.atI_4, Fu.atI_5, Fu.k_ho, Fu.k_he, Fu.k_testC, Fu.k_andC, Fu.k_orC, Fu.k_notC, Fu.s_setC, Fu.s_retC, Fu.s_dropC, Fu.s_ifC, Fu.s_forC, Fu.sp_retC, Fu.sp_ifC, Fu.sp_setC, Fu.sp_if, Fu.sp_ret, Fu.sp_next, Fu.asR_mk, Fu.s_callRi, Fu.mulT_si, Fu.lenT_s, Fu.strXT_i, Fu.strST_i, Fu.strXT_s, Fu.strST_s, Fu.k_dget2, Fu.splitT_ss, Fu.predT_s, Fu.k_js0, Fu.k_js1, Fu.fmtT_s, Fu.fmtT_i, Fu.k_fmt, Fu.k_kg, List.take_succ_cons, List.take_zero, List.take_nil, eq_self, Fu.k_tru, Fu.truT_l, Fu.truT_d, Fu.s_ext, Fu.s_ddel, Fu.k_cbL, Fu.dgetT_d, Fu.dinT_d, Fu.keyT_i, Fu.asDc_d, Fu.k_dc, Fu.s_dput, Fu.dkeysT_d, Fu.k_c, Fu.k_var, Fu.k_op, Fu.k_un, Fu.k_nil, Fu.k_cons, Fu.k_star, Fu.k_tup, Fu.k_lst, Fu.k_cb, Fu.k_cbF, Fu.flatT_i, Fu.flatT_s, Fu.flatT_b, Fu.flatT_n, Fu.k_test, Fu.asB_bl, Fu.asI_int, Fu.k_not, Fu.k_and, Fu.k_or, Fu.k_yes, Fu.k_notV, Fu.k_andV, Fu.k_orV, Fu.k_if, Fu.k_oN, Fu.k_oS, Fu.k_sl, Fu.k_chain, Fu.k_isi, Fu.asS_str, Fu.k_kd, Fu.k_kin, Fu.k_lc, Fu.k_seq, Fu.k_r1, Fu.k_r2, Fu.s_next, Fu.s_set, Fu.s_own, Fu.s_asg, Fu.s_drop, Fu.s_ret, Fu.s_retN, Fu.s_brk, Fu.s_cnt, Fu.s_if, Fu.s_aug, Fu.k_gNm, Fu.k_gNil, Fu.k_gCons, Fu.k_gTp, Fu.asL_lst, Fu.asTp_tup, Fu.p_var, Fu.k_pth, Fu.p_ix, Fu.p_cm, id, Fu.s_app, Fu.s_pop, Fu.s_popD, Fu.s_rev, Fu.s_clr, Fu.s_put, Fu.s_callP, Fu.s_mvP, Fu.k_cbP, Fu.asP_mk, Fu.k_lcP, Fu.k_en, Fu.k_rv, Fu.k_zp, Fu.lstO_l, Fu.lstO_f, Fu.bOpT_bb, Fu.k_fld, Fu.asO_obj, Fu.s_for, Fu.s_while, Fu.ok_some, Fu.ok_ite, Fu.wipeT,
  Fu.addT_ii, Fu.addT_ll, Fu.addT_ss, Fu.addT_tt, Fu.catT_ll, Fu.subT_ii, Fu.mulT_ii, Fu.mulT_li, Fu.repT_li, Fu.fdivT_ii, Fu.modT_ii, Fu.powT_ii, Fu.negT_i, Fu.ltT_ii, Fu.leT_ii, Fu.gtT_ii, Fu.geT_ii, Fu.eqST_ii, Fu.eqST_ss, Fu.eqST_bb, Fu.eqT_ii, Fu.eqT_ss, Fu.eqT_bb, Fu.ok_oBl, Fu.ok_oNb, Fu.isNT_n, Fu.isNT_i, Fu.isNT_l, Fu.isNT_t, Fu.isNT_b, Fu.isNT_s, Fu.lenT_l, Fu.lenT_t, Fu.lenT_f, Fu.itemsT_l, Fu.itemsT_t, Fu.itemsT_f, Fu.lstT_l, Fu.lstT_t, Fu.lstT_f, Fu.tupT_l, Fu.tupT_t, Fu.ixT_l, Fu.ixT_t, Fu.ixT_f, Fu.intT_i, Fu.absT_i, Fu.max2T_i, Fu.min2T_i, Fu.slT_l, Fu.slLT_l, Fu.tyT_i, Fu.tyT_s, Fu.tyT_b, Fu.tyT_t, Fu.tyT_l, Fu.tyT_f, Fu.tyT_n,
  List.getElem?_cons_zero, List.getElem?_cons_succ, List.getD_cons_zero, List.getD_cons_succ, List.set_cons_zero, List.set_cons_succ, List.map_cons, List.map_nil, List.replicate, List.append_nil, List.cons_append, List.nil_append, List.length_cons, List.length_nil, Nat.reduceAdd, Nat.reduceSub, Nat.reduceLT, Nat.reduceLeDiff, Nat.zero_add, Int.reduceToNat, Int.reducePow, Int.reduceNeg, Mi.mulC_r, Mi.atI_0, Mi.atI_1, Mi.atI_2,
  subTy, decide_true, decide_false, Bool.or_self, Bool.or_true, Bool.true_or, Bool.or_false, Bool.false_or, Bool.and_true, Bool.true_and, Bool.and_false, Bool.false_and, Bool.and_self, Bool.not_true, Bool.not_false, Bool.false_eq_true, Bool.true_eq_false, true_and, and_true, and_self, if_true, if_false, ite_true, ite_false])
local macro_rules | `(tactic| walk_at "kr") => `(tactic| (rw [Fu.s_seq]; walk_at "k3"))
local macro_rules | `(tactic| walk_at "k5") => `(tactic| simp only [Fu.p_fl, Fu.p_var, Fu.k_pth, List.map_cons, List.map_nil, List.getElem?_cons_zero, List.getElem?_cons_succ, Fu.ok_some, List.set_cons_zero, List.set_cons_succ, List.getD_cons_zero, List.getD_cons_succ, id])
abbrev Rw := Str × Int × Int
def rowT (r : Rw) : T := .tup [.str r.1, .int r.2.1, .int r.2.2]
def keyR (r : Rw) : List Key := [.inr r.1, .inl r.2.1, .inl r.2.2]
def ins {α : Type} [DecidableEq α] (xs : List α) (x : α) : List α := if x ∈ xs then xs else xs ++ [x]
def nbT (fs rs : List T) (kv : List (Key × T)) (ks : List (List Key)) (vs : List T) : T := .obj 1 [("facts", .lst fs), ("rows", .lst rs), ("fact_numbers", .dic kv), ("row_numbers", .dit ks vs)]
structure NbOk (tx : Fm → Str) (zs : List Str) (cs : List Fm) (rs : List Rw) (kv : List (Key × T)) (ks : List (List Key)) (vs : List T) : Prop where
  ck : ∀ c ∈ cs, c.K zs ∧ c.isCmp = true
  kl : ∀ c, c.K zs → c.isCmp = true → lookK kv (.inr (tx c)) = if c ∈ cs then some (.int (cs.idxOf c : Nat)) else none
  kn : kv.length ≤ cs.length
  rl : ∀ r, lookT (ks.zip vs) (keyR r) = if r ∈ rs then some (.int (rs.idxOf r : Nat)) else none
  rn : ks.length ≤ rs.length
  vl : vs.length = ks.length
def NbV (tx : Fm → Str) (zs : List Str) (cs : List Fm) (rs : List Rw) (t : T) : Prop := ∃ kv ks vs, t = nbT (cs.map Fm.t) (rs.map rowT) kv ks vs ∧ NbOk tx zs cs rs kv ks vs
theorem look_app {α : Type} [BEq α] [LawfulBEq α] [DecidableEq α] {xs : List α} {x y : α} {n : T} (hx : x ∉ xs) : (if y ∈ xs ++ [x] then some (T.int ((xs ++ [x]).idxOf y : Nat)) else none) = if x = y then some (T.int (xs.length : Nat)) else if y ∈ xs then some (T.int (xs.idxOf y : Nat)) else none := by
  by_cases c : x = y
  · subst c
    rw [if_pos (by simp), if_pos rfl, List.idxOf_append, if_neg hx]
    simp
  · rw [if_neg c]
    by_cases d : y ∈ xs
    · rw [if_pos (List.mem_append_left _ d), if_pos d, List.idxOf_append, if_pos d]
    · rw [if_neg (by simp [d, Ne.symm c]), if_neg d]
def FactF (F : List T → Option T) (tx : Fm → Str) (zs : List Str) : Prop := ∀ (cs : List Fm) (rs : List Rw) (t : T) (c : Fm), NbV tx zs cs rs t → c.K zs → c.isCmp = true → cs.length < 100000 → ∃ t', F [t, c.t] = some (.tup [.int ((ins cs c).idxOf c : Nat), t']) ∧ NbV tx zs (ins cs c) rs t'
def RowF (F : List T → Option T) (tx : Fm → Str) (zs : List Str) : Prop := ∀ (cs : List Fm) (rs : List Rw) (t : T) (r : Rw), NbV tx zs cs rs t → rs.length < 100000 → ∃ t', F [t, rowT r] = some (.tup [.int ((ins rs r).idxOf r : Nat), t']) ∧ NbV tx zs cs (ins rs r) t'
/-- the rows of a formula -/
def rowN (s : List Fm × List Rw) (r : Rw) : (List Fm × List Rw) × Nat := ((s.1, ins s.2 r), (ins s.2 r).idxOf r)
def numF : Fm → List Fm × List Rw → (List Fm × List Rw) × Nat
  | .tt, s => rowN s ("true", -1, -1)
  | .ff, s => rowN s ("false", -1, -1)
  | .cmp w t u, s => rowN (ins s.1 (.cmp w t u), s.2) ("fact", ((ins s.1 (.cmp w t u)).idxOf (.cmp w t u) : Nat), -1)
  | .un w f, s => rowN (numF f s).1 (w.s, ((numF f s).2 : Nat), -1)
  | .bi w f g, s => rowN (numF g (numF f s).1).1 (w.s, ((numF f s).2 : Nat), ((numF g (numF f s).1).2 : Nat))
theorem ins_len {α : Type} [DecidableEq α] (xs : List α) (x : α) : (ins xs x).length ≤ xs.length + 1 := by
  unfold ins
  split
  · omega
  · rw [List.length_append, List.length_singleton]; omega
theorem numF_len : ∀ (f : Fm) (s : List Fm × List Rw), (numF f s).1.1.length ≤ s.1.length + f.sz ∧ (numF f s).1.2.length ≤ s.2.length + f.sz
  | .tt, s => ⟨Nat.le_succ _, ins_len _ _⟩
  | .ff, s => ⟨Nat.le_succ _, ins_len _ _⟩
  | .cmp w t u, s => ⟨ins_len _ _, ins_len _ _⟩
  | .un w f, s => by
    have := numF_len f s
    have h := ins_len (numF f s).1.2 (w.s, ((numF f s).2 : Int), -1)
    exact ⟨by show (numF f s).1.1.length ≤ s.1.length + (f.sz + 1); omega, by show (ins _ _).length ≤ s.2.length + (f.sz + 1); omega⟩
  | .bi w f g, s => by
    have h1 := numF_len f s
    have h2 := numF_len g (numF f s).1
    have h := ins_len (numF g (numF f s).1).1.2 (w.s, ((numF f s).2 : Int), ((numF g (numF f s).1).2 : Int))
    exact ⟨by show (numF g (numF f s).1).1.1.length ≤ s.1.length + (f.sz + g.sz + 1); omega, by show (ins _ _).length ≤ s.2.length + (f.sz + g.sz + 1); omega⟩
theorem num_F {F Ff Fr : Nat → List T → Option T} {tx : Fm → Str} {zs : List Str} (hF : ∀ k xs, F (k + 1) xs = FB.UNumbering_number_of_formula (Ff k) (Fr k) (F k) xs) (fact : ∀ k, FactF (Ff (k + 40)) tx zs) (row : ∀ k, RowF (Fr (k + 1)) tx zs) : ∀ (j : Nat) (f : Fm) (k : Nat), f.dep ≤ j → f.K zs → ∀ (s : List Fm × List Rw) (t : T), NbV tx zs s.1 s.2 t → s.1.length + f.sz ≤ 90000 → s.2.length + f.sz ≤ 90000 → ∃ t', F (k + j + 41) [t, f.t] = some (.tup [.int ((numF f s).2 : Nat), t']) ∧ NbV tx zs (numF f s).1.1 (numF f s).1.2 t' := by
  intro j
  induction j with
  | zero => intro f k h; have := f.dep_pos; omega
  | succ j ih =>
    intro f k hd hk s t nb h1 h2
    have i0 := hd_t f
    rw [show k + (j + 1) + 41 = k + j + 41 + 1 from by omega, hF]
    have row := row (k + j + 40)
    have fact := fact (k + j + 1)
    rw [show k + j + 1 + 40 = k + j + 41 from by omega] at fact
    rw [show k + j + 40 + 1 = k + j + 41 from rfl] at row
    by_cases hc : f.isCmp = true
    · obtain ⟨t1, q1, n1⟩ := fact s.1 s.2 t f nb hk hc (by omega)
      obtain ⟨t2, q2, n2⟩ := row (ins s.1 f) s.2 t1 ("fact", ((ins s.1 f).idxOf f : Nat), -1) n1 (by have := f.sz; omega)
      have e : numF f s = rowN (ins s.1 f, s.2) ("fact", ((ins s.1 f).idxOf f : Nat), -1) := by
        cases f <;> first | rfl | cases hc
      rw [e]
      refine ⟨t2, ?_, n2⟩
      have mem : memFT false (.str f.hd) (dT (.tup FA.k_COMPARISONS)) = some (.bl true) := by
        cases f with
        | cmp w _ _ => cases w <;> kernel_rfl
        | _ => cases hc
      refine eq_ok (k_funP rfl ?_)
      unfold FB.SNumbering_number_of_formula
      refine sp_seqR (fun e => False) ?_ fun e h => h.elim
      rw [sp_if]
      walk_at "k3"
      rw [ok_eq i0]
      walk_at "k3"
      rw [ok_eq mem]
      walk_at "k3"
      rw [ok_eq q1]
      walk_at "k3"
      rw [ok_eq (show Fr (k + j + 41) [t1, T.tup [T.str "fact", T.int ((ins s.1 f).idxOf f : Nat), T.int (-1)]] = _ from q2)]
      walk_at "k3"
      rfl
    · have hc : f.isCmp = false := by simpa using hc
      have mem : memFT false (.str f.hd) (dT (.tup FA.k_COMPARISONS)) = some (.bl false) := by
        cases f with
        | cmp w _ _ => cases hc
        | un w _ => cases w <;> kernel_rfl
        | bi w _ _ => cases w <;> kernel_rfl
        | _ => kernel_rfl
      obtain ⟨t1, t2, ns, l, r, ln, q1, e1, q2, n2⟩ : ∃ (t1 t2 : T) (ns : List T) (l r : Int), ns.length ≤ 2 ∧ lcIT (F (k + j + 41)) 0 0 5 (fCons (fC .non) (fCons (fVar 5) fNil)) [some t, some f.t, none, none, none, none] (f.parts.map Fm.t) t = some (ns, t1) ∧ cutD (ns ++ [.int (-1), .int (-1)]) none (some 2) = [.int l, .int r] ∧ Fr (k + j + 41) [t1, .tup [.str f.hd, .int l, .int r]] = some (.tup [.int ((numF f s).2 : Nat), t2]) ∧ NbV tx zs (numF f s).1.1 (numF f s).1.2 t2 := by
        cases f with
        | cmp w _ _ => cases hc
        | tt =>
          obtain ⟨t2, q2, n2⟩ := row s.1 s.2 t ("true", -1, -1) nb (by have : Fm.sz .tt = 1 := rfl; omega)
          exact ⟨t, t2, [], -1, -1, by simp, rfl, rfl, q2, n2⟩
        | ff =>
          obtain ⟨t2, q2, n2⟩ := row s.1 s.2 t ("false", -1, -1) nb (by have : Fm.sz .ff = 1 := rfl; omega)
          exact ⟨t, t2, [], -1, -1, by simp, rfl, rfl, q2, n2⟩
        | un w f =>
          have hd : f.dep + 1 ≤ j + 1 := hd
          have sz : (Fm.un w f).sz = f.sz + 1 := rfl
          have l1 := numF_len f s
          obtain ⟨t1, q1, n1⟩ := ih f k (by omega) hk s t nb (by omega) (by omega)
          obtain ⟨t2, q2, n2⟩ := row (numF f s).1.1 (numF f s).1.2 t1 (w.s, ((numF f s).2 : Nat), -1) n1 (by omega)
          refine ⟨t1, t2, [.int ((numF f s).2 : Nat)], ((numF f s).2 : Nat), -1, by simp, ?_, rfl, q2, n2⟩
          show (F (k + j + 41) [t, f.t]).bind _ = _
          rw [q1]
          rfl
        | bi w f g =>
          have hd : max f.dep g.dep + 1 ≤ j + 1 := hd
          have sz : (Fm.bi w f g).sz = f.sz + g.sz + 1 := rfl
          have l1 := numF_len f s
          have l2 := numF_len g (numF f s).1
          obtain ⟨t0, q0, n0⟩ := ih f k (by omega) hk.1 s t nb (by omega) (by omega)
          obtain ⟨t1, q1, n1⟩ := ih g k (by omega) hk.2 (numF f s).1 t0 n0 (by omega) (by omega)
          obtain ⟨t2, q2, n2⟩ := row (numF g (numF f s).1).1.1 (numF g (numF f s).1).1.2 t1 (w.s, ((numF f s).2 : Nat), ((numF g (numF f s).1).2 : Nat)) n1 (by omega)
          refine ⟨t1, t2, [.int ((numF f s).2 : Nat), .int ((numF g (numF f s).1).2 : Nat)], ((numF f s).2 : Nat), ((numF g (numF f s).1).2 : Nat), by simp, ?_, rfl, q2, n2⟩
          show (F (k + j + 41) [t, f.t]).bind _ = _
          rw [q0]
          show Option.map _ ((F (k + j + 41) [t0, g.t]).bind _) = _
          rw [q1]
          rfl
      refine ⟨t2, ?_, n2⟩
      have ei : slT f.t (some 1) none = some (.tup (f.parts.map Fm.t)) := by
        rw [t_hd f hc]
        cases f <;> rfl
      refine eq_ok (k_funP rfl ?_)
      unfold FB.SNumbering_number_of_formula
      refine sp_seqR (fun e => e = [some t, some f.t, none, none, none, none]) ?_ ?_
      · rw [sp_if]
        walk_at "k3"
        rw [ok_eq i0]
        walk_at "k3"
        rw [ok_eq mem]
        walk_at "k3"
      · rintro e rfl
        refine sp_seqR (fun e => e = [some t1, some f.t, some (.lst ns), none, none, none]) ?_ ?_
        · refine sp_lcI ?_
          walk_at "k3"
          rw [ok_eq ei]
          walk_at "k3"
          refine ⟨by rw [List.length_map]; cases f <;> simp [Fm.parts], ?_⟩
          rw [ok_eq q1]
        · rintro e rfl
          refine sp_seqR (fun e => e = [some t1, some f.t, some (.lst ns), some (.int l), some (.int r), none]) ?_ ?_
          · refine sp_of ?_
            rw [Fu.s_asg]
            walk_at "k3"
            refine ⟨by omega, ?_⟩
            rw [k_gLs, asL_lst, e1]
            walk_at "k3"
          · rintro e rfl
            rw [sp_retC]
            walk_at "k3"
            rw [ok_eq i0]
            walk_at "k3"
            rw [ok_eq q2]
            walk_at "k3"
/-- row i stands for the formula -/
def Rp (cs : List Fm) (rs : List Rw) : Fm → Nat → Prop
  | .tt, i => rs[i]? = some (("true" : Str), -1, -1)
  | .ff, i => rs[i]? = some (("false" : Str), -1, -1)
  | .cmp w t u, i => ∃ j : Nat, cs[j]? = some (.cmp w t u) ∧ rs[i]? = some (("fact" : Str), (j : Int), -1)
  | .un w f, i => ∃ a : Nat, a < i ∧ Rp cs rs f a ∧ rs[i]? = some (w.s, (a : Int), -1)
  | .bi w f g, i => ∃ a b : Nat, a < i ∧ b < i ∧ Rp cs rs f a ∧ Rp cs rs g b ∧ rs[i]? = some (w.s, (a : Int), (b : Int))
theorem Rp.mono {cs cs2 : List Fm} {rs rs2 : List Rw} (h1 : cs <+: cs2) (h2 : rs <+: rs2) : ∀ (f : Fm) (i : Nat), Rp cs rs f i → Rp cs2 rs2 f i := by
  have g : ∀ {α : Type} {xs ys : List α} {i : Nat} {x : α}, xs <+: ys → xs[i]? = some x → ys[i]? = some x := fun h e => by
    obtain ⟨r, rfl⟩ := h
    rw [List.getElem?_append_left (List.getElem?_eq_some_iff.mp e).1]; exact e
  intro f
  induction f with
  | tt => exact fun i h => g h2 h
  | ff => exact fun i h => g h2 h
  | cmp w t u => exact fun i ⟨j, a, b⟩ => ⟨j, g h1 a, g h2 b⟩
  | un w f ih => exact fun i ⟨a, h, r, e⟩ => ⟨a, h, ih a r, g h2 e⟩
  | bi w f k ih1 ih2 => exact fun i ⟨a, b, h, h', r, r', e⟩ => ⟨a, b, h, h', ih1 a r, ih2 b r', g h2 e⟩
theorem Rp.lt {cs : List Fm} {rs : List Rw} : ∀ (f : Fm) (i : Nat), Rp cs rs f i → i < rs.length
  | .tt, i, h => (List.getElem?_eq_some_iff.mp h).1
  | .ff, i, h => (List.getElem?_eq_some_iff.mp h).1
  | .cmp _ _ _, i, ⟨_, _, h⟩ => (List.getElem?_eq_some_iff.mp h).1
  | .un _ _, i, ⟨_, _, _, h⟩ => (List.getElem?_eq_some_iff.mp h).1
  | .bi _ _ _, i, ⟨_, _, _, _, _, _, h⟩ => (List.getElem?_eq_some_iff.mp h).1
def rwd : Fm → Str
  | .tt => "true" | .ff => "false" | .cmp _ _ _ => "fact" | .un w _ => w.s | .bi w _ _ => w.s
theorem Rp.rw {cs : List Fm} {rs : List Rw} : ∀ (f : Fm) (i : Nat), Rp cs rs f i → ∃ a b, rs[i]? = some (rwd f, a, b)
  | .tt, i, h => ⟨_, _, h⟩
  | .ff, i, h => ⟨_, _, h⟩
  | .cmp _ _ _, i, ⟨_, _, h⟩ => ⟨_, _, h⟩
  | .un _ _, i, ⟨_, _, _, h⟩ => ⟨_, _, h⟩
  | .bi _ _ _, i, ⟨_, _, _, _, _, _, h⟩ => ⟨_, _, h⟩
theorem un_s {v w : UnW} (h : v.s = w.s) : v = w := by
  cases v <;> cases w <;> first | rfl | exact absurd h (by decide)
theorem bi_s {v w : BiW} (h : v.s = w.s) : v = w := by
  cases v <;> cases w <;> first | rfl | exact absurd h (by decide)
theorem un_bi {v : UnW} {w : BiW} : v.s ≠ w.s := by cases v <;> cases w <;> decide
theorem un_c {v : UnW} : v.s ≠ "true" ∧ v.s ≠ "false" ∧ v.s ≠ "fact" := by cases v <;> decide
theorem bi_c {v : BiW} : v.s ≠ "true" ∧ v.s ≠ "false" ∧ v.s ≠ "fact" := by cases v <;> decide
/-- a row stands for one formula only -/
theorem Rp.inj {cs : List Fm} {rs : List Rw} : ∀ (f g : Fm) (i : Nat), Rp cs rs f i → Rp cs rs g i → f = g := by
  intro f
  induction f with
  | tt =>
    intro g i h k
    obtain ⟨a, b, e⟩ := k.rw
    have e2 : rs[i]? = some (("true" : Str), -1, -1) := h
    rw [e2] at e
    have e := (Option.some.inj e)
    have e := congrArg (·.1) e
    cases g with
    | tt => rfl
    | ff => exact absurd (show ("true" : Str) = "false" from e) (by decide)
    | cmp _ _ _ => exact absurd (show ("true" : Str) = "fact" from e) (by decide)
    | un w _ => exact absurd e.symm un_c.1
    | bi w _ _ => exact absurd e.symm bi_c.1
  | ff =>
    intro g i h k
    obtain ⟨a, b, e⟩ := k.rw
    have e2 : rs[i]? = some (("false" : Str), -1, -1) := h
    rw [e2] at e
    have e := (Option.some.inj e)
    have e := congrArg (·.1) e
    cases g with
    | ff => rfl
    | tt => exact absurd (show ("false" : Str) = "true" from e) (by decide)
    | cmp _ _ _ => exact absurd (show ("false" : Str) = "fact" from e) (by decide)
    | un w _ => exact absurd e.symm un_c.2.1
    | bi w _ _ => exact absurd e.symm bi_c.2.1
  | cmp w t u =>
    intro g i h k
    obtain ⟨a, b, e⟩ := k.rw
    obtain ⟨j, c1, e2⟩ := h
    have e3 := e2
    rw [e] at e2
    have e := (Option.some.inj e2)
    have e := congrArg (·.1) e
    cases g with
    | cmp w2 t2 u2 =>
      obtain ⟨j2, c2, e4⟩ := k
      rw [e3] at e4
      have e4 := Option.some.inj e4
      simp only [Prod.mk.injEq, and_true, true_and] at e4
      have : j = j2 := by omega
      rw [this, c2] at c1
      exact (Option.some.inj c1).symm
    | ff => exact absurd (show ("false" : Str) = "fact" from e) (by decide)
    | tt => exact absurd (show ("true" : Str) = "fact" from e) (by decide)
    | un w _ => exact absurd e un_c.2.2
    | bi w _ _ => exact absurd e bi_c.2.2
  | un w f ih =>
    intro g i h k
    obtain ⟨a, b, e⟩ := k.rw
    obtain ⟨j, jl, c1, e2⟩ := h
    have e3 := e2
    rw [e] at e2
    have e := (Option.some.inj e2)
    have e := congrArg (·.1) e
    cases g with
    | cmp _ _ _ => exact absurd e.symm un_c.2.2
    | ff => exact absurd e.symm un_c.2.1
    | tt => exact absurd e.symm un_c.1
    | un w2 f2 =>
      obtain ⟨j2, jl2, c2, e4⟩ := k
      rw [e3] at e4
      have e4 := Option.some.inj e4
      simp only [Prod.mk.injEq, and_true] at e4
      have : j = j2 := by omega
      subst this
      rw [ih f2 j c1 c2, un_s e4.1]
    | bi w2 _ _ => exact absurd e.symm un_bi
  | bi w f f' ih1 ih2 =>
    intro g i h k
    obtain ⟨a, b, e⟩ := k.rw
    obtain ⟨j, l, jl, ll, c1, c1', e2⟩ := h
    have e3 := e2
    rw [e] at e2
    have e := (Option.some.inj e2)
    have e := congrArg (·.1) e
    cases g with
    | cmp _ _ _ => exact absurd e.symm bi_c.2.2
    | ff => exact absurd e.symm bi_c.2.1
    | tt => exact absurd e.symm bi_c.1
    | bi w2 f2 f2' =>
      obtain ⟨j2, l2, jl2, ll2, c2, c2', e4⟩ := k
      rw [e3] at e4
      have e4 := Option.some.inj e4
      simp only [Prod.mk.injEq] at e4
      have h1 : j = j2 := by omega
      have h2 : l = l2 := by omega
      subst h1; subst h2
      rw [ih1 f2 j c1 c2, ih2 f2' l c1' c2', bi_s e4.1]
    | un w2 _ => exact absurd e un_bi
/-- all rows stand for formulas of at most that size -/
def Bd (zs : List Str) (s : List Fm × List Rw) (n : Nat) : Prop := ∀ i, i < s.2.length → ∃ g : Fm, Rp s.1 s.2 g i ∧ g.sz ≤ n ∧ g.K zs
theorem Bd.mono {zs : List Str} {s : List Fm × List Rw} {n m : Nat} (h : Bd zs s n) (l : n ≤ m) : Bd zs s m := fun i hi => by
  obtain ⟨g, a, b, c⟩ := h i hi
  exact ⟨g, a, Nat.le_trans b l, c⟩
end FD
namespace NL
open PySem L2 Mi Fu LA FA FB FC FD
local macro_rules | `(tactic| walk_at "kw") => `(tactic| try simp (decide := true) only [Fu.k_c, Fu.k_var, Fu.k_op, Fu.k_un, Fu.k_nil, Fu.k_cons, Fu.k_star, Fu.k_tup, Fu.k_lst, Fu.k_cb, Fu.k_cbF, Fu.flatT_i, Fu.flatT_s, Fu.flatT_b, Fu.flatT_n, Fu.k_test, Fu.asB_bl, Fu.asI_int, Fu.k_not, Fu.k_and, Fu.k_or, Fu.k_yes, Fu.k_notV, Fu.k_andV, Fu.k_orV, Fu.k_if, Fu.k_oN, Fu.k_oS, Fu.k_sl, Fu.k_chain, Fu.k_isi, Fu.asS_str, Fu.k_kd, Fu.k_kin, Fu.k_lc, Fu.k_seq, Fu.k_r1, Fu.k_r2, Fu.s_next, Fu.s_seq, Fu.s_set, Fu.s_own, Fu.s_asg, Fu.s_drop, Fu.s_ret, Fu.s_retN, Fu.s_brk, Fu.s_cnt, Fu.s_if, Fu.s_aug, Fu.k_gNm, Fu.k_gNil, Fu.k_gCons, Fu.k_gTp, Fu.asL_lst, Fu.asTp_tup, Fu.p_var, Fu.k_pth, Fu.p_ix, Fu.p_cm, id, Fu.s_app, Fu.s_pop, Fu.s_popD, Fu.s_rev, Fu.s_clr, Fu.s_put, Fu.s_callP, Fu.s_mvP, Fu.k_cbP, Fu.asP_mk, Fu.k_lcP, Fu.k_en, Fu.k_rv, Fu.k_zp, Fu.lstO_l, Fu.lstO_f, Fu.bOpT_bb, Fu.k_fld, Fu.asO_obj, Fu.s_for, Fu.s_while, Fu.ok_some, Fu.ok_ite, Fu.wipeT,
  Fu.addT_ii, Fu.addT_ll, Fu.addT_ss, Fu.addT_tt, Fu.catT_ll, Fu.subT_ii, Fu.mulT_ii, Fu.mulT_li, Fu.repT_li, Fu.fdivT_ii, Fu.modT_ii, Fu.powT_ii, Fu.negT_i, Fu.ltT_ii, Fu.leT_ii, Fu.gtT_ii, Fu.geT_ii, Fu.eqST_ii, Fu.eqST_ss, Fu.eqST_bb, Fu.eqT_ii, Fu.eqT_ss, Fu.eqT_bb, Fu.ok_oBl, Fu.ok_oNb, Fu.isNT_n, Fu.isNT_i, Fu.isNT_l, Fu.isNT_t, Fu.isNT_b, Fu.isNT_s, Fu.lenT_l, Fu.lenT_t, Fu.lenT_f, Fu.itemsT_l, Fu.itemsT_t, Fu.itemsT_f, Fu.lstT_l, Fu.lstT_t, Fu.lstT_f, Fu.tupT_l, Fu.tupT_t, Fu.ixT_l, Fu.ixT_t, Fu.ixT_f, Fu.intT_i, Fu.absT_i, Fu.max2T_i, Fu.min2T_i, Fu.slT_l, Fu.slLT_l, Fu.tyT_i, Fu.tyT_s, Fu.tyT_b, Fu.tyT_t, Fu.tyT_l, Fu.tyT_f, Fu.tyT_n,
  List.getElem?_cons_zero, List.getElem?_cons_succ, List.getD_cons_zero, List.getD_cons_succ, List.set_cons_zero, List.set_cons_succ, List.map_cons, List.map_nil, List.replicate, List.append_nil, List.cons_append, List.nil_append, List.length_cons, List.length_nil, Nat.reduceAdd, Nat.reduceSub, Nat.reduceLT, Nat.reduceLeDiff, Nat.zero_add, Int.reduceToNat, Int.reducePow, Int.reduceNeg, Mi.mulC_r, Mi.atI_0, Mi.atI_1, Mi.atI_2,
  subTy, decide_true, decide_false, Bool.or_self, Bool.or_true, Bool.true_or, Bool.or_false, Bool.false_or, Bool.and_true, Bool.true_and, Bool.and_false, Bool.false_and, Bool.and_self, Bool.not_true, Bool.not_false, Bool.false_eq_true, Bool.true_eq_false, true_and, and_true, and_self, if_true, if_false, ite_true, ite_false])
local macro_rules | `(tactic| walk_at "k1") => `(tactic| try simp (decide := true) only [Fu.k_c, Fu.k_var, Fu.k_op, Fu.k_un, Fu.k_nil, Fu.k_cons, Fu.k_star, Fu.k_tup, Fu.k_lst, Fu.k_cb, Fu.k_cbF, Fu.flatT_i, Fu.flatT_s, Fu.flatT_b, Fu.flatT_n, Fu.k_test, Fu.asB_bl, Fu.asI_int, Fu.k_not, Fu.k_and, Fu.k_or, Fu.k_yes, Fu.k_notV, Fu.k_andV, Fu.k_orV, Fu.k_if, Fu.k_oN, Fu.k_oS, Fu.k_sl, Fu.k_chain, Fu.k_isi, Fu.asS_str, Fu.k_kd, Fu.k_kin, Fu.k_lc, Fu.k_seq, Fu.k_r1, Fu.k_r2, Fu.s_next, Fu.s_set, Fu.s_own, Fu.s_asg, Fu.s_drop, Fu.s_ret, Fu.s_retN, Fu.s_brk, Fu.s_cnt, Fu.s_if, Fu.s_aug, Fu.k_gNm, Fu.k_gNil, Fu.k_gCons, Fu.k_gTp, Fu.asL_lst, Fu.asTp_tup, Fu.p_var, Fu.k_pth, Fu.p_ix, Fu.p_cm, id, Fu.s_app, Fu.s_pop, Fu.s_popD, Fu.s_rev, Fu.s_clr, Fu.s_put, Fu.s_callP, Fu.s_mvP, Fu.k_cbP, Fu.asP_mk, Fu.k_lcP, Fu.k_en, Fu.k_rv, Fu.k_zp, Fu.lstO_l, Fu.lstO_f, Fu.bOpT_bb, Fu.k_fld, Fu.asO_obj, Fu.s_for, Fu.s_while, Fu.ok_some, Fu.ok_ite, Fu.wipeT,
  Fu.addT_ii, Fu.addT_ll, Fu.addT_ss, Fu.addT_tt, Fu.catT_ll, Fu.subT_ii, Fu.mulT_ii, Fu.mulT_li, Fu.repT_li, Fu.fdivT_ii, Fu.modT_ii, Fu.powT_ii, Fu.negT_i, Fu.ltT_ii, Fu.leT_ii, Fu.gtT_ii, Fu.geT_ii, Fu.eqST_ii, Fu.eqST_ss, Fu.eqST_bb, Fu.eqT_ii, Fu.eqT_ss, Fu.eqT_bb, Fu.ok_oBl, Fu.ok_oNb, Fu.isNT_n, Fu.isNT_i, Fu.isNT_l, Fu.isNT_t, Fu.isNT_b, Fu.isNT_s, Fu.lenT_l, Fu.lenT_t, Fu.lenT_f, Fu.itemsT_l, Fu.itemsT_t, Fu.itemsT_f, Fu.lstT_l, Fu.lstT_t, Fu.lstT_f, Fu.tupT_l, Fu.tupT_t, Fu.ixT_l, Fu.ixT_t, Fu.ixT_f, Fu.intT_i, Fu.absT_i, Fu.max2T_i, Fu.min2T_i, Fu.slT_l, Fu.slLT_l, Fu.tyT_i, Fu.tyT_s, Fu.tyT_b, Fu.tyT_t, Fu.tyT_l, Fu.tyT_f, Fu.tyT_n,
  List.getElem?_cons_zero, List.getElem?_cons_succ, List.getD_cons_zero, List.getD_cons_succ, List.set_cons_zero, List.set_cons_succ, List.map_cons, List.map_nil, List.replicate, List.append_nil, List.cons_append, List.nil_append, List.length_cons, List.length_nil, Nat.reduceAdd, Nat.reduceSub, Nat.reduceLT, Nat.reduceLeDiff, Nat.zero_add, Int.reduceToNat, Int.reducePow, Int.reduceNeg, Mi.mulC_r, Mi.atI_0, Mi.atI_1, Mi.atI_2,
  subTy, decide_true, decide_false, Bool.or_self, Bool.or_true, Bool.true_or, Bool.or_false, Bool.false_or, Bool.and_true, Bool.true_and, Bool.and_false, Bool.false_and, Bool.and_self, Bool.not_true, Bool.not_false, Bool.false_eq_true, Bool.true_eq_false, true_and, and_true, and_self, if_true, if_false, ite_true, ite_false])
local macro_rules | `(tactic| walk_at "ks") => `(tactic| (rw [Fu.s_seq]; walk_at "k1"))
local macro_rules | `(tactic| walk_at "k2") => `(tactic| try simp (decide := true) only [Fu.k_tru, Fu.truT_l, Fu.truT_d, Fu.s_ext, Fu.s_ddel, Fu.k_cbL, Fu.dgetT_d, Fu.dinT_d, Fu.keyT_i, Fu.asDc_d, Fu.k_dc, Fu.s_dput, Fu.dkeysT_d, Fu.k_c, Fu.k_var, Fu.k_op, Fu.k_un, Fu.k_nil, Fu.k_cons, Fu.k_star, Fu.k_tup, Fu.k_lst, Fu.k_cb, Fu.k_cbF, Fu.flatT_i, Fu.flatT_s, Fu.flatT_b, Fu.flatT_n, Fu.k_test, Fu.asB_bl, Fu.asI_int, Fu.k_not, Fu.k_and, Fu.k_or, Fu.k_yes, Fu.k_notV, Fu.k_andV, Fu.k_orV, Fu.k_if, Fu.k_oN, Fu.k_oS, Fu.k_sl, Fu.k_chain, Fu.k_isi, Fu.asS_str, Fu.k_kd, Fu.k_kin, Fu.k_lc, Fu.k_seq, Fu.k_r1, Fu.k_r2, Fu.s_next, Fu.s_set, Fu.s_own, Fu.s_asg, Fu.s_drop, Fu.s_ret, Fu.s_retN, Fu.s_brk, Fu.s_cnt, Fu.s_if, Fu.s_aug, Fu.k_gNm, Fu.k_gNil, Fu.k_gCons, Fu.k_gTp, Fu.asL_lst, Fu.asTp_tup, Fu.p_var, Fu.k_pth, Fu.p_ix, Fu.p_cm, id, Fu.s_app, Fu.s_pop, Fu.s_popD, Fu.s_rev, Fu.s_clr, Fu.s_put, Fu.s_callP, Fu.s_mvP, Fu.k_cbP, Fu.asP_mk, Fu.k_lcP, Fu.k_en, Fu.k_rv, Fu.k_zp, Fu.lstO_l, Fu.lstO_f, Fu.bOpT_bb, Fu.k_fld, Fu.asO_obj, Fu.s_for, Fu.s_while, Fu.ok_some, Fu.ok_ite, Fu.wipeT,
  Fu.addT_ii, Fu.addT_ll, Fu.addT_ss, Fu.addT_tt, Fu.catT_ll, Fu.subT_ii, Fu.mulT_ii, Fu.mulT_li, Fu.repT_li, Fu.fdivT_ii, Fu.modT_ii, Fu.powT_ii, Fu.negT_i, Fu.ltT_ii, Fu.leT_ii, Fu.gtT_ii, Fu.geT_ii, Fu.eqST_ii, Fu.eqST_ss, Fu.eqST_bb, Fu.eqT_ii, Fu.eqT_ss, Fu.eqT_bb, Fu.ok_oBl, Fu.ok_oNb, Fu.isNT_n, Fu.isNT_i, Fu.isNT_l, Fu.isNT_t, Fu.isNT_b, Fu.isNT_s, Fu.lenT_l, Fu.lenT_t, Fu.lenT_f, Fu.itemsT_l, Fu.itemsT_t, Fu.itemsT_f, Fu.lstT_l, Fu.lstT_t, Fu.lstT_f, Fu.tupT_l, Fu.tupT_t, Fu.ixT_l, Fu.ixT_t, Fu.ixT_f, Fu.intT_i, Fu.absT_i, Fu.max2T_i, Fu.min2T_i, Fu.slT_l, Fu.slLT_l, Fu.tyT_i, Fu.tyT_s, Fu.tyT_b, Fu.tyT_t, Fu.tyT_l, Fu.tyT_f, Fu.tyT_n,
  List.getElem?_cons_zero, List.getElem?_cons_succ, List.getD_cons_zero, List.getD_cons_succ, List.set_cons_zero, List.set_cons_succ, List.map_cons, List.map_nil, List.replicate, List.append_nil, List.cons_append, List.nil_append, List.length_cons, List.length_nil, Nat.reduceAdd, Nat.reduceSub, Nat.reduceLT, Nat.reduceLeDiff, Nat.zero_add, Int.reduceToNat, Int.reducePow, Int.reduceNeg, Mi.mulC_r, Mi.atI_0, Mi.atI_1, Mi.atI_2,
  subTy, decide_true, decide_false, Bool.or_self, Bool.or_true, Bool.true_or, Bool.or_false, Bool.false_or, Bool.and_true, Bool.true_and, Bool.and_false, Bool.false_and, Bool.and_self, Bool.not_true, Bool.not_false, Bool.false_eq_true, Bool.true_eq_false, true_and, and_true, and_self, if_true, if_false, ite_true, ite_false])
local macro_rules | `(tactic| walk_at "kt") => `(tactic| (rw [Fu.s_seq]; walk_at "k2"))
local macro_rules | `(tactic| walk_at "k3") => `(tactic| try simp (decide := true) only [Fu.k_let, Fu.atI_3, Fu.atI_4, Fu.atI_5, Fu.k_ho, Fu.k_he, Fu.k_testC, Fu.k_andC, Fu.k_orC, Fu.k_notC, Fu.s_setC, Fu.s_retC, Fu.s_dropC, Fu.s_ifC, Fu.s_forC, Fu.sp_retC, Fu.sp_ifC, Fu.sp_setC, Fu.sp_if, Fu.sp_ret, Fu.sp_next, Fu.asR_mk, Fu.s_callRi, Fu.mulT_si, Fu.lenT_s, Fu.strXT_i, Fu.strST_i, Fu.strXT_s, Fu.strST_s, Fu.k_dget2, Fu.splitT_ss, Fu.predT_s, Fu.k_js0, Fu.k_js1, Fu.fmtT_s, Fu.fmtT_i, Fu.k_fmt, Fu.k_kg, List.take_succ_cons, List.take_zero, List.take_nil, eq_self, Fu.k_tru, Fu.truT_l, Fu.truT_d, Fu.s_ext, Fu.s_ddel, Fu.k_cbL, Fu.dgetT_d, Fu.dinT_d, Fu.keyT_i, Fu.asDc_d, Fu.k_dc, Fu.s_dput, Fu.dkeysT_d, Fu.k_c, Fu.k_var, Fu.k_op, Fu.k_un, Fu.k_nil, Fu.k_cons, Fu.k_star, Fu.k_tup, Fu.k_lst, Fu.k_cb, Fu.k_cbF, Fu.flatT_i, Fu.flatT_s, Fu.flatT_b, Fu.flatT_n, Fu.k_test, Fu.asB_bl, Fu.asI_int, Fu.k_not, Fu.k_and, Fu.k_or, Fu.k_yes, Fu.k_notV, Fu.k_andV, Fu.k_orV, Fu.k_if, Fu.k_oN, Fu.k_oS, Fu.k_sl, Fu.k_chain, Fu.k_isi, Fu.asS_str, Fu.k_kd, Fu.k_kin, Fu.k_lc, Fu.k_seq, Fu.k_r1, Fu.k_r2, Fu.s_next, Fu.s_set, Fu.s_own, Fu.s_asg, Fu.s_drop, Fu.s_ret, Fu.s_retN, Fu.s_brk, Fu.s_cnt, Fu.s_if, Fu.s_aug, Fu.k_gNm, Fu.k_gNil, Fu.k_gCons, Fu.k_gTp, Fu.asL_lst, Fu.asTp_tup, Fu.p_var, Fu.k_pth, Fu.p_ix, Fu.p_cm, id, Fu.s_app, Fu.s_pop, Fu.s_popD, Fu.s_rev, Fu.s_clr, Fu.s_put, Fu.s_callP, Fu.s_mvP, Fu.k_cbP, Fu.asP_mk, Fu.k_lcP, Fu.k_en, Fu.k_rv, Fu.k_zp, Fu.lstO_l, Fu.lstO_f, Fu.bOpT_bb, Fu.k_fld, Fu.asO_obj, Fu.s_for, Fu.s_while, Fu.ok_some, Fu.ok_ite, Fu.wipeT,
  Fu.addT_ii, Fu.addT_ll, Fu.addT_ss, Fu.addT_tt, Fu.catT_ll, Fu.subT_ii, Fu.mulT_ii, Fu.mulT_li, Fu.repT_li, Fu.fdivT_ii, Fu.modT_ii, Fu.powT_ii, Fu.negT_i, Fu.ltT_ii, Fu.leT_ii, Fu.gtT_ii, Fu.geT_ii, Fu.eqST_ii, Fu.eqST_ss, Fu.eqST_bb, Fu.eqT_ii, Fu.eqT_ss, Fu.eqT_bb, Fu.ok_oBl, Fu.ok_oNb, Fu.isNT_n, Fu.isNT_i, Fu.isNT_l, Fu.isNT_t, Fu.isNT_b, Fu.isNT_s, Fu.lenT_l, Fu.lenT_t, Fu.lenT_f, Fu.itemsT_l, Fu.itemsT_t, Fu.itemsT_f, Fu.lstT_l, Fu.lstT_t, Fu.lstT_f, Fu.tupT_l, Fu.tupT_t, Fu.ixT_l, Fu.ixT_t, Fu.ixT_f, Fu.intT_i, Fu.absT_i, Fu.max2T_i, Fu.min2T_i, Fu.slT_l, Fu.slLT_l, Fu.tyT_i, Fu.tyT_s, Fu.tyT_b, Fu.tyT_t, Fu.tyT_l, Fu.tyT_f, Fu.tyT_n,
  List.getElem?_cons_zero, List.getElem?_cons_succ, List.getD_cons_zero, List.getD_cons_succ, List.set_cons_zero, List.set_cons_succ, List.map_cons, List.map_nil, List.replicate, List.append_nil, List.cons_append, List.nil_append, List.length_cons, List.length_nil, Nat.reduceAdd, Nat.reduceSub, Nat.reduceLT, Nat.reduceLeDiff, Nat.zero_add, Int.reduceToNat, Int.reducePow, Int.reduceNeg, Mi.mulC_r, Mi.atI_0, Mi.atI_1, Mi.atI_2,
  subTy, decide_true, decide_false, Bool.or_self, Bool.or_true, Bool.true_or, Bool.or_false, Bool.false_or, Bool.and_true, Bool.true_and, Bool.and_false, Bool.false_and, Bool.and_self, Bool.not_true, Bool.not_false, Bool.false_eq_true, Bool.true_eq_false, true_and, and_true, and_self, if_true, if_false, ite_true, ite_false])
local macro_rules | `(tactic| walk_at "kr") => `(tactic| (rw [Fu.s_seq]; walk_at "k3"))
/-- the names of a tree in the order of reading -/
inductive NtsL (R : T → List Str → Prop) : List T → List Str → Prop where
  | nil : NtsL R [] []
  | tup {x : T} {r : List T} {L1 L2 : List Str} (q : isTp x = true) (h : R x L1) (t : NtsL R r L2) : NtsL R (x :: r) (L1 ++ L2)
  | oth {x : T} {r : List T} {L : List Str} (q : isTp x = false) (s : (∃ i, x = .int i) ∨ ∃ s, x = .str s) (t : NtsL R r L) : NtsL R (x :: r) L
def NtL : Nat → T → List Str → Prop
  | 0, _, _ => False
  | k + 1, t, L => (∃ x, t = .tup [.str "name", .str x] ∧ L = [x]) ∨ ∃ w xs, t = .tup (.str w :: xs) ∧ w ≠ "name" ∧ xs.length ≤ 100 ∧ NtsL (NtL k) xs L
def addK (ks : List Str) (x : Str) : List Str := if x ∈ ks then ks else ks ++ [x]
def addL (ks L : List Str) : List Str := L.foldl addK ks
def kd (ks : List Str) : List (Key × T) := ks.map fun x => ((.inr x : Key), T.bl true)
theorem setK_kd (ks : List Str) (x : Str) : setK (kd ks) (.inr x) (.bl true) = kd (addK ks x) := by
  unfold setK addK
  have e : ((kd ks).any fun kv => decide (kv.1 = (.inr x : Key))) = decide (x ∈ ks) := by
    apply Bool.eq_iff_iff.mpr
    rw [List.any_eq_true, decide_eq_true_iff]
    constructor
    · rintro ⟨kv, hk, he⟩
      obtain ⟨y, hy, rfl⟩ := List.mem_map.mp hk
      have : (Sum.inr y : Key) = .inr x := of_decide_eq_true he
      cases this
      exact hy
    · intro hx
      exact ⟨_, List.mem_map.mpr ⟨x, hx, rfl⟩, decide_eq_true rfl⟩
  rw [e]
  by_cases c : x ∈ ks
  · rw [if_pos (decide_eq_true c), if_pos c]
    unfold kd
    rw [List.map_map]
    refine List.map_congr_left fun y _ => ?_
    show (if (Sum.inr y : Key) = .inr x then ((Sum.inr y : Key), T.bl true) else ((Sum.inr y : Key), T.bl true)) = _
    split <;> rfl
  · rw [if_neg (by simpa using c), if_neg c]
    unfold kd
    rw [List.map_append]
    rfl
theorem addK_len (ks : List Str) (x : Str) : (addK ks x).length ≤ ks.length + 1 := by
  unfold addK
  split
  · omega
  · rw [List.length_append]; exact Nat.le_refl _
theorem addL_len : ∀ (L ks : List Str), (addL ks L).length ≤ ks.length + L.length
  | [], ks => Nat.le_refl _
  | x :: L, ks => by
    have h1 := addL_len L (addK ks x)
    have h2 := addK_len ks x
    show (addL (addK ks x) L).length ≤ _
    rw [List.length_cons]
    omega
theorem addL_app (ks L1 L2 : List Str) : addL ks (L1 ++ L2) = addL (addL ks L1) L2 := List.foldl_append ..
theorem find_addK (p : Str → Bool) (ks : List Str) (x : Str) : (addK ks x).find? p = (ks.find? p).or (if p x then some x else none) := by
  unfold addK
  by_cases c : x ∈ ks
  · rw [if_pos c]
    cases h : ks.find? p with
    | some y => rfl
    | none =>
      have := List.find?_eq_none.mp h x c
      rw [if_neg this]
      rfl
  · rw [if_neg c, List.find?_append]
    simp only [List.find?]
    cases p x <;> rfl
theorem find_addL (p : Str → Bool) : ∀ (L ks : List Str), (addL ks L).find? p = (ks.find? p).or (L.find? p)
  | [], ks => by simp [addL]
  | x :: L, ks => by
    show (addL (addK ks x) L).find? p = _
    rw [find_addL p L, find_addK, Option.or_assoc]
    congr 1
    simp only [List.find?]
    cases p x <;> rfl
/-- note_names, name by name -/
def NoteP (F : Nat → List T → Option T) : Prop := ∀ (j : Nat) (t : T) (L : List Str) (k : Nat) (ks : List Str), NtL j t L → ks.length + L.length ≤ 1000000 → F (k + j + 1) [t, .dic (kd ks)] = some (.tup [.non, .dic (kd (addL ks L))])
theorem filter_tp {R : T → List Str → Prop} : ∀ {xs : List T} {L : List Str}, NtsL R xs L → NtsL R (xs.filter isTp) L ∧ ∀ x ∈ xs, isTp x = true ∨ (∃ i, x = .int i) ∨ ∃ s, x = .str s
  | _, _, .nil => ⟨.nil, fun x hx => nomatch hx⟩
  | _, _, .tup q h t => by
    obtain ⟨h1, h2⟩ := filter_tp t
    refine ⟨by rw [List.filter_cons_of_pos q]; exact .tup q h h1, fun x hx => ?_⟩
    rcases List.mem_cons.mp hx with rfl | hx
    · exact .inl q
    · exact h2 x hx
  | _, _, .oth q s t => by
    obtain ⟨h1, h2⟩ := filter_tp t
    refine ⟨by rw [List.filter_cons_of_neg (by rw [q]; decide)]; exact h1, fun x hx => ?_⟩
    rcases List.mem_cons.mp hx with rfl | hx
    · exact .inr s
    · exact h2 x hx
theorem note_P {F Fp : Nat → List T → Option T} (parts : ∀ k, Fp (k + 1) = FA.Uparts_of) (hF : ∀ k xs, F (k + 1) xs = FA.Unote_names (Fp k) (F k) xs) : NoteP F := by
  intro j
  induction j with
  | zero => intro t L k ks h; exact h.elim
  | succ j ih =>
    intro t L k ks h hl
    rw [show k + (j + 1) + 1 = (k + j + 1) + 1 from by omega, hF]
    have key : Ok (FA.Unote_names (Fp (k + j + 1)) (F (k + j + 1)) [t, .dic (kd ks)]) fun r => r = .tup [.non, .dic (kd (addL ks L))] := by
      refine k_funP rfl ?_
      unfold FA.Snote_names
      rcases h with ⟨x, rfl, rfl⟩ | ⟨w, xs, rfl, hw, l, h⟩
      · refine sp_seqR (fun e' => False) ?_ fun _ z => z.elim
        rw [sp_if]
        walk_at "k3"
        refine sp_seq (fun e' => e' = [some (.tup [.str "name", .str x]), some (.dic (kd (addK ks x))), none]) ?_ ?_
        · walk_at "k3"
          rw [ok_eq (show keyT (T.str x) = some (.inr x) from rfl)]
          have : (kd ks).length = ks.length := List.length_map ..
          simp only [List.length_singleton] at hl
          refine ⟨by omega, ?_⟩
          rw [setK_kd]
        rintro _ rfl
        rw [sp_retN]
        rfl
      · obtain ⟨h1, p⟩ := filter_tp h
        refine sp_seqR (fun e' => e' = [some (.tup (.str w :: xs)), some (.dic (kd ks)), none]) ?_ ?_
        · rw [sp_if]
          walk_at "k3"
          rw [if_neg (by simpa using hw)]
          trivial
        rintro _ rfl
        refine sp_of ?_
        walk_at "k3"
        rw [parts (k + j), ok_eq (parts_of_F l p)]
        walk_at "k3"
        have ht : ∀ y ∈ xs.filter isTp, isTp y = true := fun y hy => (List.mem_filter.mp hy).2
        generalize xs.filter isTp = ys at *
        refine for_inv (fun i e' => ∃ L0 ks' o, NtsL (NtL j) (ys.drop i) L0 ∧ addL ks' L0 = addL ks L ∧ ks'.length + L0.length ≤ 1000000 ∧ e' = [some (.tup (.str w :: xs)), some (.dic (kd ks')), o]) ⟨L, ks, _, h1, rfl, hl, rfl⟩ ?_ ?_
        · rintro i y _ hy ⟨L0, ks', o, n1, n2, n3, rfl⟩
          have hi := (List.getElem?_eq_some_iff.mp hy).1
          have hg := (List.getElem?_eq_some_iff.mp hy).2
          rw [List.drop_eq_getElem_cons hi, hg] at n1
          cases n1 with
          | oth q => rw [ht y (List.mem_of_getElem? hy)] at q; cases q
          | tup q h t =>
            rename_i L1 L2
            rw [List.length_append] at n3
            have e1 := ih y L1 k ks' h (by omega)
            have := addL_len L1 ks'
            walk_at "k3"
            rw [ok_eq e1]
            exact ⟨L2, addL ks' L1, _, t, by rw [← addL_app]; exact n2, by omega, rfl⟩
        · rintro _ ⟨L0, ks', o, n1, n2, n3, rfl⟩
          rw [List.drop_length] at n1
          cases n1
          rw [← n2]
          rfl
    obtain ⟨a, e, rfl⟩ := key.eq
    exact e
/-- names_in: each name once, in the order of reading -/
theorem kd_keys (ks : List Str) : (kd ks).map (fun kv => keyV kv.1) = ks.map T.str := by
  unfold kd
  rw [List.map_map]
  rfl
def NamesP (F : Nat → List T → Option T) : Prop := ∀ (j : Nat) (t : T) (L : List Str) (k : Nat), NtL j t L → L.length ≤ 1000 → F (k + j + 2) [t] = some (.lst ((addL [] L).map T.str))
theorem names_P {F Fn : Nat → List T → Option T} (note : NoteP Fn) (hF : ∀ k xs, F (k + 1) xs = FA.Unames_in (Fn k) xs) : NamesP F := fun j t L k h hl => by
  have e := note j t L k [] h (by simp only [List.length_nil]; omega)
  have := addL_len L []
  have : (kd (addL [] L)).length = (addL [] L).length := List.length_map ..
  simp only [List.length_nil] at *
  rw [show k + j + 2 = (k + j + 1) + 1 from by omega, hF]
  refine eq_ok (k_fun rfl ?_)
  unfold FA.Snames_in
  walk_at "kt"
  rw [ok_eq (show fDNew [some t, none] = some (.dic (kd [])) from rfl), s_seq]
  walk_at "k3"
  rw [ok_eq e]
  walk_at "k3"
  rw [kd_keys]
/-- the first unknown name -/
def fst (kn L : List Str) : Option Str := L.find? fun x => !decide (x ∈ kn)
theorem fst_add (kn L : List Str) : fst kn (addL [] L) = fst kn L := by
  unfold fst
  rw [find_addL]
  simp
theorem fst_app (kn L1 L2 : List Str) : fst kn (L1 ++ L2) = (fst kn L1).or (fst kn L2) := by unfold fst; rw [List.find?_append]
theorem fst_one (kn : List Str) (x : Str) : fst kn [x] = if x ∈ kn then none else some x := by
  unfold fst
  simp only [List.find?]
  by_cases c : x ∈ kn
  · simp [c]
  · simp [c]
theorem fst_mem {kn L : List Str} {z : Str} (h : fst kn L = some z) : z ∈ L ∧ z ∉ kn := by
  unfold fst at h
  have h1 := List.mem_of_find?_eq_some h
  have h2 := List.find?_some h
  exact ⟨h1, by simpa using h2⟩
theorem fst_none {kn L : List Str} (h : fst kn L = none) : ∀ x ∈ L, x ∈ kn := by
  unfold fst at h
  intro x hx
  have := List.find?_eq_none.mp h x hx
  simpa using this
def exN (c : Nat) (z : Str) : Ex := ⟨c, "name", .str z⟩
end NL
namespace K03
open PySem Mi
open L2 hiding FnOk Room fn_of run_fnS run_fnSD pe_callS pe_callSD pe_make
def top (i : Nat) : Stmt := PySem.Challenge.pw_lassoproof_k03_value_and_truth.main.body.getD i (.Pass ⟨0, 0, 0, 0⟩)
def b_0 (Φ : Nat → List D → DH → Res D) (M : Nat) : SM :=
  (sSeq (sAsg mDNew (gNm 1))
      (sSeq (sDrop (mCB (Φ 1) (aCons (mVar 0) (aCons (mVar 1) aNil))))
      (sRet (mCB dkeysD (aCons (mVar 1) aNil)))))
def b_1 (Φ : Nat → List D → DH → Res D) (M : Nat) : SM :=
  (sSeq (sIf (mTest (mOp eqD (mOp ixD (mVar 0) (mC (.int 0))) (mC (.str "name"))))
      (sSeq (Mi.sDPut (mC (.bl true)) (mVar 1) (mOp ixD (mVar 0) (mC (.int 1))))
      sRetN)
      sNext)
      (sFor (iSeq (mCB (Φ 2) (aCons (mVar 0) aNil))) (gNm 2)
      (sDrop (mCB (Φ 1) (aCons (mVar 2) (aCons (mVar 1) aNil))))))
def b_2 (Φ : Nat → List D → DH → Res D) (M : Nat) : SM :=
  (sRet (mLc (iSeq (mSl slD (mVar 0) (oSome (mC (.int 1))) oNone)) 1 (mTest (mIsi Ty.tuple (mVar 1))) (mVar 1) [1]))
def b_3 (Φ : Nat → List D → DH → Res D) (M : Nat) : SM :=
  (sSeq (sDrop (mCB (Φ 5) (aCons (mVar 0) (aCons (mVar 1) aNil))))
      (sRet (mCB (Φ 6) (aCons (mVar 0) (aCons (mVar 1) aNil)))))
def b_4 (Φ : Nat → List D → DH → Res D) (M : Nat) : SM :=
  (sSeq (sDrop (mCB (Φ 5) (aCons (mVar 0) (aCons (mVar 1) aNil))))
      (sRet (mCB (Φ 8) (aCons (mVar 0) (aCons (mVar 1) aNil)))))
def b_5 (Φ : Nat → List D → DH → Res D) (M : Nat) : SM :=
  (sFor (iSeq (mCB (Φ 0) (aCons (mVar 0) aNil))) (gNm 2)
      (sIf (mTest (mDIn true (mVar 2) (mVar 1)))
      (sRz1 51 "name" (mVar 2))
      sNext))
def b_6 (Φ : Nat → List D → DH → Res D) (M : Nat) : SM :=
  (sSeq (sAsg (mOp ixD (mVar 0) (mC (.int 0))) (gNm 2))
      (sSeq (sIf (mTest (mOp eqD (mVar 2) (mC (.str "number"))))
      (sRet (mOp ixD (mVar 0) (mC (.int 1))))
      sNext)
      (sSeq (sIf (mTest (mOp eqD (mVar 2) (mC (.str "name"))))
      (sRet (mDGet (mVar 1) (mOp ixD (mVar 0) (mC (.int 1)))))
      sNext)
      (sSeq (sAsg (mCB (Φ 6) (aCons (mOp ixD (mVar 0) (mC (.int 1))) (aCons (mVar 1) aNil))) (gNm 3))
      (sSeq (sIf (mTest (mOp eqD (mVar 2) (mC (.str "negative"))))
      (sRet (mUn negD (mVar 3)))
      sNext)
      (sSeq (sIf (mTest (mOp eqD (mVar 2) (mC (.str "quotient"))))
      (sRet (mOp fdivWD (mVar 3) (mOp ixD (mVar 0) (mC (.int 2)))))
      sNext)
      (sSeq (sIf (mTest (mOp eqD (mVar 2) (mC (.str "remainder"))))
      (sRet (mOp modD (mVar 3) (mOp ixD (mVar 0) (mC (.int 2)))))
      sNext)
      (sRet (mCB (Φ 7) (aCons (mVar 2) (aCons (mVar 3) (aCons (mCB (Φ 6) (aCons (mOp ixD (mVar 0) (mC (.int 2))) (aCons (mVar 1) aNil))) aNil))))))))))))
def b_7 (Φ : Nat → List D → DH → Res D) (M : Nat) : SM :=
  (sSeq (sIf (mTest (mOp eqD (mVar 0) (mC (.str "plus"))))
      (sRet (mOp addD (mVar 1) (mVar 2)))
      sNext)
      (sSeq (sIf (mTest (mOp eqD (mVar 0) (mC (.str "minus"))))
      (sRet (mOp subD (mVar 1) (mVar 2)))
      sNext)
      (sSeq (sIf (mTest (mOp eqD (mVar 0) (mC (.str "times"))))
      (sRet (mOp mulWD (mVar 1) (mVar 2)))
      sNext)
      (sSeq (sIf (mTest (mOp eqD (mVar 0) (mC (.str "least"))))
      (sRet (mCB min2D (aCons (mVar 1) (aCons (mVar 2) aNil))))
      sNext)
      (sRet (mCB max2D (aCons (mVar 1) (aCons (mVar 2) aNil))))))))
def b_8 (Φ : Nat → List D → DH → Res D) (M : Nat) : SM :=
  (sSeq (sAsg (mOp ixD (mVar 0) (mC (.int 0))) (gNm 2))
      (sSeq (sIf (mOr (mTest (mOp eqD (mVar 2) (mC (.str "true")))) (mTest (mOp eqD (mVar 2) (mC (.str "false")))))
      (sRet (mOp eqD (mVar 2) (mC (.str "true"))))
      sNext)
      (sSeq (sIf (mTest (mOp eqD (mVar 2) (mC (.str "equal"))))
      (sRet (mOp eqDD (mCB (Φ 6) (aCons (mOp ixD (mVar 0) (mC (.int 1))) (aCons (mVar 1) aNil))) (mCB (Φ 6) (aCons (mOp ixD (mVar 0) (mC (.int 2))) (aCons (mVar 1) aNil)))))
      sNext)
      (sSeq (sIf (mTest (mOp eqD (mVar 2) (mC (.str "below"))))
      (sRet (mOp ltD (mCB (Φ 6) (aCons (mOp ixD (mVar 0) (mC (.int 1))) (aCons (mVar 1) aNil))) (mCB (Φ 6) (aCons (mOp ixD (mVar 0) (mC (.int 2))) (aCons (mVar 1) aNil)))))
      sNext)
      (sSeq (sIf (mTest (mOp eqD (mVar 2) (mC (.str "upto"))))
      (sRet (mOp leD (mCB (Φ 6) (aCons (mOp ixD (mVar 0) (mC (.int 1))) (aCons (mVar 1) aNil))) (mCB (Φ 6) (aCons (mOp ixD (mVar 0) (mC (.int 2))) (aCons (mVar 1) aNil)))))
      sNext)
      (sSeq (sAsg (mCB (Φ 8) (aCons (mOp ixD (mVar 0) (mC (.int 1))) (aCons (mVar 1) aNil))) (gNm 3))
      (sSeq (sIf (mTest (mOp eqD (mVar 2) (mC (.str "not"))))
      (sRet (mNotV (mVar 3)))
      sNext)
      (sRet (mCB (Φ 9) (aDef (aCons (mVar 2) (aCons (mVar 3) (aCons (mCB (Φ 8) (aCons (mOp ixD (mVar 0) (mC (.int 2))) (aCons (mVar 1) aNil))) aNil))) [.bl true]))))))))))
def b_9 (Φ : Nat → List D → DH → Res D) (M : Nat) : SM :=
  (sSeq (sIf (mTest (mOp eqD (mVar 0) (mC (.str "and"))))
      (sRet (mOp (bOpD (· && ·)) (mVar 1) (mVar 2)))
      sNext)
      (sSeq (sIf (mTest (mOp eqD (mVar 0) (mC (.str "or"))))
      (sRet (mOp (bOpD (· || ·)) (mVar 1) (mVar 2)))
      sNext)
      (sSeq (sIf (mTest (mOp eqD (mVar 0) (mC (.str "implies"))))
      (sRet (mOp (bOpD (· || ·)) (mVar 2) (mOp (bOpD (· != ·)) (mVar 3) (mVar 1))))
      sNext)
      (sRet (mOp (bOpD (· != ·)) (mOp (bOpD (· != ·)) (mVar 3) (mVar 1)) (mVar 2))))))
def b_10 (Φ : Nat → List D → DH → Res D) (M : Nat) : SM :=
  (sRet (mAndV (mIsi Ty.int (mVar 0)) (mNotV (mIsi Ty.bool (mVar 0)))))
def b_11 (Φ : Nat → List D → DH → Res D) (M : Nat) : SM :=
  (sSeq (sAsg (mC (.int 7)) (gNm 1))
      (sSeq (sFor (iSeq (mVar 0)) (gNm 2)
      (sAsg (mOp modD (mOp addD (mOp addD (mOp mulD (mVar 1) (mC (.int 48271))) (mOp modD (mCB intD (aCons (mVar 2) aNil)) (mC (.int 2147483629)))) (mC (.int 13))) (mC (.int 2147483647))) (gNm 1)))
      (sRet (mLst (aCons (mCB lstD (aCons (mVar 0) aNil)) (aCons (mC (.int 0)) (aCons (mC (.int 0)) (aCons (mOp addD (mVar 1) (mC (.int 1))) (aCons (mOp addD (mOp mulD (mVar 1) (mC (.int 5))) (mC (.int 3))) aNil)))))))))
def b_12 (Φ : Nat → List D → DH → Res D) (M : Nat) : SM :=
  (sSeq (sIf (mAnd (mTest (mOp eqD (mOp ixD (mVar 0) (mC (.int 2))) (mC (.int 0)))) (mTest (mOp ltD (mOp ixD (mVar 0) (mC (.int 1))) (mCB lenD (aCons (mOp ixD (mVar 0) (mC (.int 0))) aNil)))))
      (sSeq (sAsg (mOp ixD (mOp ixD (mVar 0) (mC (.int 0))) (mOp ixD (mVar 0) (mC (.int 1)))) (gNm 2))
      (sSeq (sAsg (mOp addD (mOp ixD (mVar 0) (mC (.int 1))) (mC (.int 1))) (gSb setD (mVar 0) (mC (.int 1))))
      (sSeq (sIf (mTest (mOp ltD (mCB absD (aCons (mVar 2) aNil)) (mOp powD (mC (.int 10)) (mC (.int 18)))))
      (sRet (mOp modD (mCB intD (aCons (mVar 2) aNil)) (mVar 1)))
      sNext)
      (sAsg (mCB absD (aCons (mVar 2) aNil)) (gSb setD (mVar 0) (mC (.int 2)))))))
      sNext)
      (sSeq (sIf (mTest (mOp gtD (mOp ixD (mVar 0) (mC (.int 2))) (mC (.int 0))))
      (sSeq (sAsg (mOp modD (mCB intD (aCons (mOp ixD (mVar 0) (mC (.int 2))) aNil)) (mVar 1)) (gNm 3))
      (sSeq (sAsg (mOp fdivD (mOp ixD (mVar 0) (mC (.int 2))) (mVar 1)) (gSb setD (mVar 0) (mC (.int 2))))
      (sRet (mVar 3))))
      sNext)
      (sSeq (sAsg (mOp modD (mCB intD (aCons (mOp mulD (mOp ixD (mVar 0) (mC (.int 3))) (mC (.int 48271))) aNil)) (mC (.int 2147483647))) (gSb setD (mVar 0) (mC (.int 3))))
      (sSeq (sAsg (mOp modD (mCB intD (aCons (mOp addD (mOp mulD (mOp ixD (mVar 0) (mC (.int 4))) (mC (.int 69621))) (mC (.int 11))) aNil)) (mC (.int 2147483629))) (gSb setD (mVar 0) (mC (.int 4))))
      (sRet (mOp modD (mCB intD (aCons (mOp addD (mOp fdivD (mOp ixD (mVar 0) (mC (.int 3))) (mC (.int 8))) (mOp fdivD (mOp ixD (mVar 0) (mC (.int 4))) (mC (.int 16)))) aNil)) (mVar 1)))))))
def b_13 (Φ : Nat → List D → DH → Res D) (M : Nat) : SM :=
  (sSeq (sAsg (mC (.str "true false not and or div mod min max X F G U R W M var in start process when do skip justice compassion")) (gNm 0))
      (sRet (mMt "str" splitD (mVar 0) (aCons (mC (.str " ")) aNil))))
def b_14 (Φ : Nat → List D → DH → Res D) (M : Nat) : SM :=
  (sSeq (sAsg (mCB (Φ 12) (aCons (mVar 0) (aCons (mC (.int 8)) aNil))) (gNm 1))
      (sSeq (sIf (mTest (mOp ltD (mVar 1) (mC (.int 5))))
      (sRet (mCB (Φ 12) (aCons (mVar 0) (aCons (mC (.int 10)) aNil))))
      sNext)
      (sSeq (sIf (mTest (mOp eqD (mVar 1) (mC (.int 5))))
      (sRet (mCB intSD (aCons (mOp addD (mC (.str "1")) (mOp mulD (mC (.str "0")) (mCB (Φ 12) (aCons (mVar 0) (aCons (mC (.int 18)) aNil))))) aNil)))
      sNext)
      (sSeq (sIf (mTest (mOp eqD (mVar 1) (mC (.int 6))))
      (sRet (mCB intSD (aCons (mOp mulD (mC (.str "9")) (mOp addD (mC (.int 1)) (mCB (Φ 12) (aCons (mVar 0) (aCons (mC (.int 18)) aNil))))) aNil)))
      sNext)
      (sRet (mOp addD (mOp mulD (mCB (Φ 12) (aCons (mVar 0) (aCons (mOp powD (mC (.int 10)) (mC (.int 9))) aNil))) (mOp powD (mC (.int 10)) (mC (.int 9)))) (mCB (Φ 12) (aCons (mVar 0) (aCons (mOp powD (mC (.int 10)) (mC (.int 9))) aNil)))))))))
def b_15 (Φ : Nat → List D → DH → Res D) (M : Nat) : SM :=
  (sSeq (sAsg (mCB (Φ 13) aNil) (gNm 1))
      (sSeq (sAsg (mC (.str "abcdefghijklmnopqrstuvwxyz")) (gNm 2))
      (sSeq (sAsg (mOp addD (mVar 2) (mC (.str "ABCDEFGHIJKLMNOPQRSTUVWXYZ0123456789_"))) (gNm 3))
      (sSeq (sAsg (mOp ixD (mVar 2) (mCB (Φ 12) (aCons (mVar 0) (aCons (mC (.int 26)) aNil)))) (gNm 4))
      (sSeq (sAsg (mCB (Φ 12) (aCons (mVar 0) (aCons (mC (.int 4)) aNil))) (gNm 5))
      (sSeq (sIf (mTest (mOp eqD (mCB (Φ 12) (aCons (mVar 0) (aCons (mC (.int 16)) aNil))) (mC (.int 5))))
      (sAsg (mC (.int 40)) (gNm 5))
      sNext)
      (sSeq (sIf (mTest (mOp eqD (mCB (Φ 12) (aCons (mVar 0) (aCons (mC (.int 4)) aNil))) (mC (.int 3))))
      (sSeq (sAsg (mLc (iSeq (mVar 1)) 8 (mTest (mMt "str" (predD Txt.islower) (mVar 8) aNil)) (mVar 8) [8]) (gNm 7))
      (sSeq (sAsg (mOp ixD (mVar 7) (mCB (Φ 12) (aCons (mVar 0) (aCons (mC (.int 18)) aNil)))) (gNm 4))
      (sAsg (mSl slD (mVar 4) oNone (oSome (mOp addD (mC (.int 1)) (mCB (Φ 12) (aCons (mVar 0) (aCons (mCB lenD (aCons (mVar 4) aNil)) aNil)))))) (gNm 4))))
      sNext)
      (sSeq (sFor (iR1 (mVar 5)) (gNm 6)
      (sAsg (mOp addD (mVar 4) (mOp ixD (mVar 3) (mCB (Φ 12) (aCons (mVar 0) (aCons (mC (.int 63)) aNil))))) (gNm 4)))
      (sSeq (sIf (mTest (mOp (inDD false) (mVar 4) (mVar 1)))
      (sAsg (mOp addD (mVar 4) (mC (.str "_"))) (gNm 4))
      sNext)
      (sRet (mVar 4)))))))))))
def b_16 (Φ : Nat → List D → DH → Res D) (M : Nat) : SM :=
  (sSeq (sAsg (mLst aNil) (gNm 1))
      (sSeq (sFor (iR1 (mOp addD (mC (.int 1)) (mCB (Φ 12) (aCons (mVar 0) (aCons (mC (.int 4)) aNil))))) (gNm 2)
      (sSeq (sAsg (mCB (Φ 15) (aCons (mVar 0) aNil)) (gNm 3))
      (sSeq (sIf (mTest (mOp (inDD false) (mVar 3) (mVar 1)))
      (sAsg (mOp addD (mCB maxLenD (aCons (mVar 1) aNil)) (mC (.str "_z"))) (gNm 3))
      sNext)
      (sDrop (mMt "list" appD (mVar 1) (aCons (mVar 3) aNil))))))
      (sRet (mVar 1))))
def b_17 (Φ : Nat → List D → DH → Res D) (M : Nat) : SM :=
  (sSeq (sIf (mTest (mOp eqD (mVar 1) (mC (.int 0))))
      (sSeq (sIf (mTest (mOp eqD (mCB (Φ 12) (aCons (mVar 0) (aCons (mC (.int 3)) aNil))) (mC (.int 0))))
      (sRet (mTup (aCons (mC (.str "number")) (aCons (mCB (Φ 14) (aCons (mVar 0) aNil)) aNil))))
      sNext)
      (sRet (mTup (aCons (mC (.str "name")) (aCons (mOp ixD (mVar 2) (mCB (Φ 12) (aCons (mVar 0) (aCons (mCB lenD (aCons (mVar 2) aNil)) aNil)))) aNil)))))
      sNext)
      (sSeq (sAsg (mCB (Φ 12) (aCons (mVar 0) (aCons (mC (.int 8)) aNil))) (gNm 3))
      (sSeq (sIf (mTest (mOp eqD (mVar 3) (mC (.int 5))))
      (sRet (mTup (aCons (mC (.str "negative")) (aCons (mCB (Φ 17) (aCons (mVar 0) (aCons (mOp subD (mVar 1) (mC (.int 1))) (aCons (mVar 2) aNil)))) aNil))))
      sNext)
      (sSeq (sIf (mTest (mOp gtD (mVar 3) (mC (.int 5))))
      (sSeq (sAsg (mOp ixD (mLst (aCons (mC (.str "quotient")) (aCons (mC (.str "remainder")) aNil))) (mOp subD (mVar 3) (mC (.int 6)))) (gNm 6))
      (sRet (mTup (aCons (mVar 6) (aCons (mCB (Φ 17) (aCons (mVar 0) (aCons (mOp subD (mVar 1) (mC (.int 1))) (aCons (mVar 2) aNil)))) (aCons (mCB max2D (aCons (mC (.int 1)) (aCons (mCB (Φ 14) (aCons (mVar 0) aNil)) aNil))) aNil))))))
      sNext)
      (sSeq (sAsg (mCB (Φ 12) (aCons (mVar 0) (aCons (mVar 1) aNil))) (gNm 4))
      (sSeq (sAsg (mCB (Φ 17) (aCons (mVar 0) (aCons (mVar 4) (aCons (mVar 2) aNil)))) (gNm 5))
      (sSeq (sAsg (mOp ixD (mLst (aCons (mC (.str "plus")) (aCons (mC (.str "minus")) (aCons (mC (.str "times")) (aCons (mC (.str "least")) (aCons (mC (.str "most")) aNil)))))) (mVar 3)) (gNm 6))
      (sRet (mTup (aCons (mVar 6) (aCons (mVar 5) (aCons (mCB (Φ 17) (aCons (mVar 0) (aCons (mOp subD (mOp subD (mVar 1) (mC (.int 1))) (mVar 4)) (aCons (mVar 2) aNil)))) aNil))))))))))))
def b_18 (Φ : Nat → List D → DH → Res D) (M : Nat) : SM :=
  (sSeq (sAsg (mOp ixD (mLst (aCons (mC (.str "equal")) (aCons (mC (.str "below")) (aCons (mC (.str "upto")) aNil)))) (mCB (Φ 12) (aCons (mVar 0) (aCons (mC (.int 3)) aNil)))) (gNm 3))
      (sSeq (sAsg (mCB (Φ 12) (aCons (mVar 0) (aCons (mOp addD (mVar 1) (mC (.int 1))) aNil))) (gNm 4))
      (sSeq (sAsg (mCB (Φ 17) (aCons (mVar 0) (aCons (mVar 4) (aCons (mVar 2) aNil)))) (gNm 5))
      (sRet (mTup (aCons (mVar 3) (aCons (mVar 5) (aCons (mCB (Φ 17) (aCons (mVar 0) (aCons (mOp subD (mVar 1) (mVar 4)) (aCons (mVar 2) aNil)))) aNil))))))))
def b_19 (Φ : Nat → List D → DH → Res D) (M : Nat) : SM :=
  (sSeq (sIf (mTest (mOp eqD (mVar 1) (mC (.int 0))))
      (sRet (mTup (aCons (mOp ixD (mLst (aCons (mC (.str "true")) (aCons (mC (.str "false")) aNil))) (mCB (Φ 12) (aCons (mVar 0) (aCons (mC (.int 2)) aNil)))) aNil)))
      sNext)
      (sSeq (sAsg (mCB (Φ 12) (aCons (mVar 0) (aCons (mC (.int 8)) aNil))) (gNm 3))
      (sSeq (sIf (mTest (mOp ltD (mVar 3) (mC (.int 3))))
      (sRet (mCB (Φ 18) (aCons (mVar 0) (aCons (mOp subD (mVar 1) (mC (.int 1))) (aCons (mVar 2) aNil)))))
      sNext)
      (sSeq (sIf (mTest (mOp eqD (mVar 3) (mC (.int 3))))
      (sRet (mTup (aCons (mC (.str "not")) (aCons (mCB (Φ 19) (aCons (mVar 0) (aCons (mOp subD (mVar 1) (mC (.int 1))) (aCons (mVar 2) aNil)))) aNil))))
      sNext)
      (sSeq (sAsg (mCB (Φ 12) (aCons (mVar 0) (aCons (mVar 1) aNil))) (gNm 4))
      (sSeq (sAsg (mCB (Φ 19) (aCons (mVar 0) (aCons (mVar 4) (aCons (mVar 2) aNil)))) (gNm 5))
      (sSeq (sAsg (mOp ixD (mLst (aCons (mC (.str "and")) (aCons (mC (.str "or")) (aCons (mC (.str "implies")) (aCons (mC (.str "same")) aNil))))) (mOp subD (mVar 3) (mC (.int 4)))) (gNm 6))
      (sRet (mTup (aCons (mVar 6) (aCons (mVar 5) (aCons (mCB (Φ 19) (aCons (mVar 0) (aCons (mOp subD (mOp subD (mVar 1) (mC (.int 1))) (mVar 4)) (aCons (mVar 2) aNil)))) aNil))))))))))))
def b_20 (Φ : Nat → List D → DH → Res D) (M : Nat) : SM :=
  (sSeq (sFor (iR1 (mOp addD (mC (.int 16)) (mCB (Φ 12) (aCons (mVar 0) (aCons (mC (.int 9)) aNil))))) (gNm 3)
      (sSeq (sAsg (mCB (Φ 12) (aCons (mVar 0) (aCons (mC (.int 3)) aNil))) (gNm 4))
      (sIf (mAnd (mTest (mVar 2)) (mTest (mOp eqD (mVar 4) (mC (.int 0)))))
      (sAsg (mTup (aCons (mC (.str "negative")) (aCons (mVar 1) aNil))) (gNm 1))
      (sIf (mAnd (mTest (mVar 2)) (mTest (mOp eqD (mVar 4) (mC (.int 1)))))
      (sAsg (mTup (aCons (mC (.str "plus")) (aCons (mTup (aCons (mC (.str "number")) (aCons (mCB (Φ 12) (aCons (mVar 0) (aCons (mC (.int 10)) aNil))) aNil))) (aCons (mVar 1) aNil)))) (gNm 1))
      (sIf (mTest (mVar 2))
      (sAsg (mTup (aCons (mC (.str "least")) (aCons (mVar 1) (aCons (mTup (aCons (mC (.str "number")) (aCons (mCB (Φ 14) (aCons (mVar 0) aNil)) aNil))) aNil)))) (gNm 1))
      (sIf (mTest (mOp eqD (mVar 4) (mC (.int 0))))
      (sAsg (mTup (aCons (mC (.str "not")) (aCons (mVar 1) aNil))) (gNm 1))
      (sIf (mTest (mOp eqD (mVar 4) (mC (.int 1))))
      (sAsg (mTup (aCons (mC (.str "same")) (aCons (mTup (aCons (mC (.str "false")) aNil)) (aCons (mVar 1) aNil)))) (gNm 1))
      (sAsg (mTup (aCons (mC (.str "implies")) (aCons (mVar 1) (aCons (mTup (aCons (mC (.str "below")) (aCons (mTup (aCons (mC (.str "number")) (aCons (mC (.int 1)) aNil))) (aCons (mTup (aCons (mC (.str "number")) (aCons (mCB (Φ 12) (aCons (mVar 0) (aCons (mC (.int 4)) aNil))) aNil))) aNil)))) aNil)))) (gNm 1)))))))))
      (sRet (mVar 1)))
def b_21 (Φ : Nat → List D → DH → Res D) (M : Nat) : SM :=
  (sIf (mTest (mOp eqD (mOp ixD (mVar 0) (mC (.int 0))) (mC (.str "name"))))
      (sIf (mTest (mOp (inDD true) (mOp ixD (mVar 0) (mC (.int 1))) (mVar 1)))
      (sDrop (mMt "list" appD (mVar 1) (aCons (mOp ixD (mVar 0) (mC (.int 1))) aNil)))
      sNext)
      (sFor (iSeq (mSl slD (mVar 0) (oSome (mC (.int 1))) oNone)) (gNm 2)
      (sIf (mTest (mIsi Ty.tuple (mVar 2)))
      (sDrop (mCB (Φ 21) (aCons (mVar 2) (aCons (mVar 1) aNil))))
      sNext)))
def b_22 (Φ : Nat → List D → DH → Res D) (M : Nat) : SM :=
  (sSeq (sAsg (mOp ixD (mVar 0) (mC (.int 0))) (gNm 2))
      (sSeq (sIf (mTest (mOp eqD (mVar 2) (mC (.str "number"))))
      (sRet (mOp ixD (mVar 0) (mC (.int 1))))
      sNext)
      (sSeq (sIf (mTest (mOp eqD (mVar 2) (mC (.str "name"))))
      (sRet (mDGet (mVar 1) (mOp ixD (mVar 0) (mC (.int 1)))))
      sNext)
      (sSeq (sAsg (mCB (Φ 22) (aCons (mOp ixD (mVar 0) (mC (.int 1))) (aCons (mVar 1) aNil))) (gNm 3))
      (sSeq (sIf (mTest (mOp eqD (mVar 2) (mC (.str "negative"))))
      (sRet (mUn negD (mVar 3)))
      sNext)
      (sSeq (sIf (mTest (mOp eqD (mVar 2) (mC (.str "quotient"))))
      (sRet (mOp fdivWD (mVar 3) (mOp ixD (mVar 0) (mC (.int 2)))))
      sNext)
      (sSeq (sIf (mTest (mOp eqD (mVar 2) (mC (.str "remainder"))))
      (sRet (mOp subD (mVar 3) (mOp mulWD (mOp fdivWD (mVar 3) (mOp ixD (mVar 0) (mC (.int 2)))) (mOp ixD (mVar 0) (mC (.int 2))))))
      sNext)
      (sSeq (sAsg (mCB (Φ 22) (aCons (mOp ixD (mVar 0) (mC (.int 2))) (aCons (mVar 1) aNil))) (gNm 4))
      (sSeq (sIf (mTest (mOp eqD (mVar 2) (mC (.str "plus"))))
      (sRet (mOp addD (mVar 3) (mVar 4)))
      sNext)
      (sSeq (sIf (mTest (mOp eqD (mVar 2) (mC (.str "minus"))))
      (sRet (mOp subD (mVar 3) (mVar 4)))
      sNext)
      (sSeq (sIf (mTest (mOp eqD (mVar 2) (mC (.str "times"))))
      (sRet (mOp mulWD (mVar 3) (mVar 4)))
      sNext)
      (sSeq (sIf (mTest (mOp eqDD (mOp eqD (mVar 2) (mC (.str "least"))) (mOp ltD (mVar 3) (mVar 4))))
      (sRet (mVar 3))
      sNext)
      (sRet (mVar 4))))))))))))))
def b_23 (Φ : Nat → List D → DH → Res D) (M : Nat) : SM :=
  (sSeq (sAsg (mOp ixD (mVar 0) (mC (.int 0))) (gNm 2))
      (sSeq (sIf (mOr (mTest (mOp eqD (mVar 2) (mC (.str "true")))) (mTest (mOp eqD (mVar 2) (mC (.str "false")))))
      (sRet (mOp eqD (mVar 2) (mC (.str "true"))))
      sNext)
      (sSeq (sIf (mTest (mOp (inDD false) (mVar 2) (mLst (aCons (mC (.str "equal")) (aCons (mC (.str "below")) (aCons (mC (.str "upto")) aNil))))))
      (sSeq (sAsg (mCB (Φ 22) (aCons (mOp ixD (mVar 0) (mC (.int 1))) (aCons (mVar 1) aNil))) (gNm 3))
      (sSeq (sAsg (mCB (Φ 22) (aCons (mOp ixD (mVar 0) (mC (.int 2))) (aCons (mVar 1) aNil))) (gNm 4))
      (sSeq (sIf (mTest (mOp eqD (mVar 2) (mC (.str "equal"))))
      (sRet (mOp eqDD (mVar 3) (mVar 4)))
      sNext)
      (sRet (mOrV (mOp ltD (mVar 3) (mVar 4)) (mAndV (mOp eqD (mVar 2) (mC (.str "upto"))) (mOp eqDD (mVar 3) (mVar 4))))))))
      sNext)
      (sSeq (sAsg (mCB (Φ 23) (aCons (mOp ixD (mVar 0) (mC (.int 1))) (aCons (mVar 1) aNil))) (gNm 3))
      (sSeq (sIf (mTest (mOp eqD (mVar 2) (mC (.str "not"))))
      (sRet (mNotV (mVar 3)))
      sNext)
      (sSeq (sAsg (mCB (Φ 23) (aCons (mOp ixD (mVar 0) (mC (.int 2))) (aCons (mVar 1) aNil))) (gNm 4))
      (sSeq (sIf (mTest (mOp eqD (mVar 2) (mC (.str "and"))))
      (sRet (mAndV (mVar 3) (mVar 4)))
      sNext)
      (sSeq (sIf (mTest (mOp eqD (mVar 2) (mC (.str "or"))))
      (sRet (mOrV (mVar 3) (mVar 4)))
      sNext)
      (sSeq (sIf (mTest (mOp eqD (mVar 2) (mC (.str "implies"))))
      (sRet (mOrV (mVar 4) (mNotV (mVar 3))))
      sNext)
      (sRet (mOp eqDD (mVar 3) (mVar 4))))))))))))
def b_24 (Φ : Nat → List D → DH → Res D) (M : Nat) : SM :=
  (sTry (cfOne 51) 3 (sSeq (sIf (mTest (mVar 1))
      (sRet (mTup (aCons (mC (.str "known")) (aCons (mCB (Φ 3) (aCons (mVar 0) (aCons (mVar 2) aNil))) aNil))))
      sNext)
      (sRet (mTup (aCons (mC (.str "known")) (aCons (mCB (Φ 4) (aCons (mVar 0) (aCons (mVar 2) aNil))) aNil)))))
      (qSeq (qIf (qOr (qNot (qVal (qIsx 51 true))) (qOr (qNot (qVal (qIsx 51 true))) (qNot (qVal (qIsi .str (qFld 51 "name")))))) (qRet (qTup (qaC (qC (.str "wrong")) (qaC (qC (.int (0))) qaN)))) qNx)
      (qRet (qTup (qaC (qC (.str "unknown")) (qaC (qFld 51 "name") qaN))))))
def b_25 (Φ : Nat → List D → DH → Res D) (M : Nat) : SM :=
  (sSeq (sFor (iSeq (mVar 3)) (gNm 4)
      (sIf (mTest (mDIn true (mVar 4) (mVar 2)))
      (sRet (mTup (aCons (mC (.str "unknown")) (aCons (mVar 4) aNil))))
      sNext))
      (sSeq (sIf (mTest (mVar 1))
      (sRet (mTup (aCons (mC (.str "known")) (aCons (mCB (Φ 22) (aCons (mVar 0) (aCons (mVar 2) aNil))) aNil))))
      sNext)
      (sRet (mTup (aCons (mC (.str "known")) (aCons (mCB (Φ 23) (aCons (mVar 0) (aCons (mVar 2) aNil))) aNil))))))
def b_26 (Φ : Nat → List D → DH → Res D) (M : Nat) : SM :=
  (sSeq (sAsg (mCB (Φ 11) (aCons (mVar 0) aNil)) (gNm 1))
      (sSeq (sAsg (mOp eqD (mCB (Φ 12) (aCons (mVar 1) (aCons (mC (.int 2)) aNil))) (mC (.int 1))) (gNm 2))
      (sSeq (sAsg (mCB (Φ 12) (aCons (mVar 1) (aCons (mC (.int 12)) aNil))) (gNm 3))
      (sSeq (sAsg (mCB (Φ 12) (aCons (mVar 1) (aCons (mC (.int 12)) aNil))) (gNm 4))
      (sSeq (sAsg (mCB (Φ 16) (aCons (mVar 1) aNil)) (gNm 5))
      (sSeq (sIf (mTest (mVar 2))
      (sAsg (mCB (Φ 17) (aCons (mVar 1) (aCons (mVar 3) (aCons (mVar 5) aNil)))) (gNm 12))
      (sAsg (mCB (Φ 19) (aCons (mVar 1) (aCons (mVar 3) (aCons (mVar 5) aNil)))) (gNm 12)))
      (sSeq (sIf (mTest (mOp eqD (mCB (Φ 12) (aCons (mVar 1) (aCons (mC (.int 8)) aNil))) (mC (.int 5))))
      (sAsg (mCB (Φ 20) (aCons (mVar 1) (aCons (mVar 12) (aCons (mVar 2) aNil)))) (gNm 12))
      sNext)
      (sSeq (sAsg mDNew (gNm 6))
      (sSeq (sFor (iR1 (mCB lenD (aCons (mVar 5) aNil))) (gNm 7)
      (sSeq (sAsg (mOp mulD (mCB (Φ 14) (aCons (mVar 1) aNil)) (mOp ixD (mLst (aCons (mC (.int 1)) (aCons (mUn negD (mC (.int 1))) aNil))) (mCB (Φ 12) (aCons (mVar 1) (aCons (mC (.int 2)) aNil))))) (gNm 13))
      (sIf (mOr (mTest (mOp gtD (mVar 4) (mC (.int 3)))) (mTest (mOp neDD (mOp modD (mCB intD (aCons (mVar 4) aNil)) (mCB lenD (aCons (mVar 5) aNil))) (mVar 7))))
      (Mi.sDPut (mVar 13) (mVar 6) (mOp ixD (mVar 5) (mVar 7)))
      sNext)))
      (sSeq (sAsg (mLst aNil) (gNm 8))
      (sSeq (sDrop (mCB (Φ 21) (aCons (mVar 12) (aCons (mVar 8) aNil))))
      (sSeq (sAsg (mCB (Φ 0) (aCons (mVar 12) aNil)) (gNm 9))
      (sSeq (sIf (mOr (mNot (mTest (mIsi Ty.list (mVar 9)))) (mTest (mOp neDD (mVar 9) (mVar 8))))
      (sRet (mC (.bl false)))
      sNext)
      (sSeq (sAsg (mCB dcpD (aCons (mVar 6) aNil)) (gNm 10))
      (sSeq (sAsg (mCB (Φ 24) (aCons (mVar 12) (aCons (mVar 2) (aCons (mVar 10) aNil)))) (gNm 11))
      (sSeq (sIf (mTest (mOp (eqDcD true) (mVar 10) (mVar 6)))
      (sRet (mC (.bl false)))
      sNext)
      (sSeq (sIf (mAnd (mTest (mOp eqD (mOp ixD (mVar 11) (mC (.int 0))) (mC (.str "known")))) (mAnd (mTest (mVar 2)) (mNot (mTest (mCB (Φ 10) (aCons (mOp ixD (mVar 11) (mC (.int 1))) aNil))))))
      (sRet (mC (.bl false)))
      sNext)
      (sSeq (sIf (mAnd (mTest (mOp eqD (mOp ixD (mVar 11) (mC (.int 0))) (mC (.str "known")))) (mAnd (mNot (mTest (mVar 2))) (mNot (mTest (mIsi Ty.bool (mOp ixD (mVar 11) (mC (.int 1))))))))
      (sRet (mC (.bl false)))
      sNext)
      (sRet (mOp eqDD (mVar 11) (mCB (Φ 25) (aCons (mVar 12) (aCons (mVar 2) (aCons (mVar 6) (aCons (mVar 8) aNil)))))))))))))))))))))))))
def fnB (M : Nat) (Φ : Nat → List D → DH → Res D) : Nat → List D → DH → Res D
  | 0 => runF 1 2 (b_0 Φ M)
  | 1 => runF 2 3 (b_1 Φ M)
  | 2 => runF 1 2 (b_2 Φ M)
  | 3 => runF 2 2 (b_3 Φ M)
  | 4 => runF 2 2 (b_4 Φ M)
  | 5 => runF 2 3 (b_5 Φ M)
  | 6 => runF 2 4 (b_6 Φ M)
  | 7 => runF 3 3 (b_7 Φ M)
  | 8 => runF 2 4 (b_8 Φ M)
  | 9 => runF 4 4 (b_9 Φ M)
  | 10 => runF 1 1 (b_10 Φ M)
  | 11 => runF 1 3 (b_11 Φ M)
  | 12 => runF 2 4 (b_12 Φ M)
  | 13 => runF 0 1 (b_13 Φ M)
  | 14 => runF 1 2 (b_14 Φ M)
  | 15 => runF 1 9 (b_15 Φ M)
  | 16 => runF 1 4 (b_16 Φ M)
  | 17 => runF 3 7 (b_17 Φ M)
  | 18 => runF 3 6 (b_18 Φ M)
  | 19 => runF 3 7 (b_19 Φ M)
  | 20 => runF 3 5 (b_20 Φ M)
  | 21 => runF 2 3 (b_21 Φ M)
  | 22 => runF 2 5 (b_22 Φ M)
  | 23 => runF 2 5 (b_23 Φ M)
  | 24 => runF 3 4 (b_24 Φ M)
  | 25 => runF 4 5 (b_25 Φ M)
  | 26 => runF 1 14 (b_26 Φ M)
  | _ => fun _ _ => .no
def fn (M : Nat) : Nat → Nat → List D → DH → Res D
  | 0 => fun _ _ _ => .no
  | k + 1 => fnB M (fn M k)
theorem fn_len_0 {M k : Nat} : ∀ xs h, fn M k 0 xs h ≠ .no → xs.length = 1 := by
  intro xs h e
  cases k with
  | zero => exact absurd rfl e
  | succ k => exact runF_len e
theorem fn_len_1 {M k : Nat} : ∀ xs h, fn M k 1 xs h ≠ .no → xs.length = 2 := by
  intro xs h e
  cases k with
  | zero => exact absurd rfl e
  | succ k => exact runF_len e
theorem fn_len_2 {M k : Nat} : ∀ xs h, fn M k 2 xs h ≠ .no → xs.length = 1 := by
  intro xs h e
  cases k with
  | zero => exact absurd rfl e
  | succ k => exact runF_len e
theorem fn_len_3 {M k : Nat} : ∀ xs h, fn M k 3 xs h ≠ .no → xs.length = 2 := by
  intro xs h e
  cases k with
  | zero => exact absurd rfl e
  | succ k => exact runF_len e
theorem fn_len_4 {M k : Nat} : ∀ xs h, fn M k 4 xs h ≠ .no → xs.length = 2 := by
  intro xs h e
  cases k with
  | zero => exact absurd rfl e
  | succ k => exact runF_len e
theorem fn_len_5 {M k : Nat} : ∀ xs h, fn M k 5 xs h ≠ .no → xs.length = 2 := by
  intro xs h e
  cases k with
  | zero => exact absurd rfl e
  | succ k => exact runF_len e
theorem fn_len_6 {M k : Nat} : ∀ xs h, fn M k 6 xs h ≠ .no → xs.length = 2 := by
  intro xs h e
  cases k with
  | zero => exact absurd rfl e
  | succ k => exact runF_len e
theorem fn_len_7 {M k : Nat} : ∀ xs h, fn M k 7 xs h ≠ .no → xs.length = 3 := by
  intro xs h e
  cases k with
  | zero => exact absurd rfl e
  | succ k => exact runF_len e
theorem fn_len_8 {M k : Nat} : ∀ xs h, fn M k 8 xs h ≠ .no → xs.length = 2 := by
  intro xs h e
  cases k with
  | zero => exact absurd rfl e
  | succ k => exact runF_len e
theorem fn_len_9 {M k : Nat} : ∀ xs h, fn M k 9 xs h ≠ .no → xs.length = 4 := by
  intro xs h e
  cases k with
  | zero => exact absurd rfl e
  | succ k => exact runF_len e
theorem fn_len_10 {M k : Nat} : ∀ xs h, fn M k 10 xs h ≠ .no → xs.length = 1 := by
  intro xs h e
  cases k with
  | zero => exact absurd rfl e
  | succ k => exact runF_len e
theorem fn_len_11 {M k : Nat} : ∀ xs h, fn M k 11 xs h ≠ .no → xs.length = 1 := by
  intro xs h e
  cases k with
  | zero => exact absurd rfl e
  | succ k => exact runF_len e
theorem fn_len_12 {M k : Nat} : ∀ xs h, fn M k 12 xs h ≠ .no → xs.length = 2 := by
  intro xs h e
  cases k with
  | zero => exact absurd rfl e
  | succ k => exact runF_len e
theorem fn_len_13 {M k : Nat} : ∀ xs h, fn M k 13 xs h ≠ .no → xs.length = 0 := by
  intro xs h e
  cases k with
  | zero => exact absurd rfl e
  | succ k => exact runF_len e
theorem fn_len_14 {M k : Nat} : ∀ xs h, fn M k 14 xs h ≠ .no → xs.length = 1 := by
  intro xs h e
  cases k with
  | zero => exact absurd rfl e
  | succ k => exact runF_len e
theorem fn_len_15 {M k : Nat} : ∀ xs h, fn M k 15 xs h ≠ .no → xs.length = 1 := by
  intro xs h e
  cases k with
  | zero => exact absurd rfl e
  | succ k => exact runF_len e
theorem fn_len_16 {M k : Nat} : ∀ xs h, fn M k 16 xs h ≠ .no → xs.length = 1 := by
  intro xs h e
  cases k with
  | zero => exact absurd rfl e
  | succ k => exact runF_len e
theorem fn_len_17 {M k : Nat} : ∀ xs h, fn M k 17 xs h ≠ .no → xs.length = 3 := by
  intro xs h e
  cases k with
  | zero => exact absurd rfl e
  | succ k => exact runF_len e
theorem fn_len_18 {M k : Nat} : ∀ xs h, fn M k 18 xs h ≠ .no → xs.length = 3 := by
  intro xs h e
  cases k with
  | zero => exact absurd rfl e
  | succ k => exact runF_len e
theorem fn_len_19 {M k : Nat} : ∀ xs h, fn M k 19 xs h ≠ .no → xs.length = 3 := by
  intro xs h e
  cases k with
  | zero => exact absurd rfl e
  | succ k => exact runF_len e
theorem fn_len_20 {M k : Nat} : ∀ xs h, fn M k 20 xs h ≠ .no → xs.length = 3 := by
  intro xs h e
  cases k with
  | zero => exact absurd rfl e
  | succ k => exact runF_len e
theorem fn_len_21 {M k : Nat} : ∀ xs h, fn M k 21 xs h ≠ .no → xs.length = 2 := by
  intro xs h e
  cases k with
  | zero => exact absurd rfl e
  | succ k => exact runF_len e
theorem fn_len_22 {M k : Nat} : ∀ xs h, fn M k 22 xs h ≠ .no → xs.length = 2 := by
  intro xs h e
  cases k with
  | zero => exact absurd rfl e
  | succ k => exact runF_len e
theorem fn_len_23 {M k : Nat} : ∀ xs h, fn M k 23 xs h ≠ .no → xs.length = 2 := by
  intro xs h e
  cases k with
  | zero => exact absurd rfl e
  | succ k => exact runF_len e
theorem fn_len_24 {M k : Nat} : ∀ xs h, fn M k 24 xs h ≠ .no → xs.length = 3 := by
  intro xs h e
  cases k with
  | zero => exact absurd rfl e
  | succ k => exact runF_len e
theorem fn_len_25 {M k : Nat} : ∀ xs h, fn M k 25 xs h ≠ .no → xs.length = 4 := by
  intro xs h e
  cases k with
  | zero => exact absurd rfl e
  | succ k => exact runF_len e
abbrev N_0 : List Str := ["tree", "names"]
theorem sc_0 : FnScope N_0 ["tree"] (defScope (top 4)) := ⟨rfl, rfl, rfl, by decide +kernel, rfl, by decide +kernel, by decide +kernel⟩
abbrev N_1 : List Str := ["tree", "names", "part"]
theorem sc_1 : FnScope N_1 ["tree", "names"] (defScope (top 5)) := ⟨rfl, rfl, rfl, by decide +kernel, rfl, by decide +kernel, by decide +kernel⟩
abbrev N_2 : List Str := ["tree", "part"]
theorem sc_2 : FnScope N_2 ["tree"] (defScope (top 6)) := ⟨rfl, rfl, rfl, by decide +kernel, rfl, by decide +kernel, by decide +kernel⟩
abbrev N_3 : List Str := ["term", "values"]
theorem sc_3 : FnScope N_3 ["term", "values"] (defScope (top 7)) := ⟨rfl, rfl, rfl, by decide +kernel, rfl, by decide +kernel, by decide +kernel⟩
abbrev N_4 : List Str := ["condition", "values"]
theorem sc_4 : FnScope N_4 ["condition", "values"] (defScope (top 8)) := ⟨rfl, rfl, rfl, by decide +kernel, rfl, by decide +kernel, by decide +kernel⟩
abbrev N_5 : List Str := ["tree", "known", "name"]
theorem sc_5 : FnScope N_5 ["tree", "known"] (defScope (top 9)) := ⟨rfl, rfl, rfl, by decide +kernel, rfl, by decide +kernel, by decide +kernel⟩
abbrev N_6 : List Str := ["term", "values", "word", "left"]
theorem sc_6 : FnScope N_6 ["term", "values"] (defScope (top 10)) := ⟨rfl, rfl, rfl, by decide +kernel, rfl, by decide +kernel, by decide +kernel⟩
abbrev N_7 : List Str := ["word", "left", "right"]
theorem sc_7 : FnScope N_7 ["word", "left", "right"] (defScope (top 11)) := ⟨rfl, rfl, rfl, by decide +kernel, rfl, by decide +kernel, by decide +kernel⟩
abbrev N_8 : List Str := ["condition", "values", "word", "left"]
theorem sc_8 : FnScope N_8 ["condition", "values"] (defScope (top 12)) := ⟨rfl, rfl, rfl, by decide +kernel, rfl, by decide +kernel, by decide +kernel⟩
abbrev N_9 : List Str := ["word", "left", "right", "every"]
theorem sc_9 : FnScope N_9 ["word", "left", "right", "every"] (defScope (top 13)) := ⟨rfl, rfl, rfl, by decide +kernel, rfl, by decide +kernel, by decide +kernel⟩
abbrev N_10 : List Str := ["actual"]
theorem sc_10 : FnScope N_10 ["actual"] (defScope (top 15)) := ⟨rfl, rfl, rfl, by decide +kernel, rfl, by decide +kernel, by decide +kernel⟩
abbrev N_11 : List Str := ["script", "mixed", "cell"]
theorem sc_11 : FnScope N_11 ["script"] (defScope (top 16)) := ⟨rfl, rfl, rfl, by decide +kernel, rfl, by decide +kernel, by decide +kernel⟩
abbrev N_12 : List Str := ["source", "many", "cell", "digit"]
theorem sc_12 : FnScope N_12 ["source", "many"] (defScope (top 17)) := ⟨rfl, rfl, rfl, by decide +kernel, rfl, by decide +kernel, by decide +kernel⟩
abbrev N_13 : List Str := ["text"]
theorem sc_13 : FnScope N_13 [] (defScope (top 18)) := ⟨rfl, rfl, rfl, by decide +kernel, rfl, by decide +kernel, by decide +kernel⟩
abbrev N_14 : List Str := ["source", "pick"]
theorem sc_14 : FnScope N_14 ["source"] (defScope (top 20)) := ⟨rfl, rfl, rfl, by decide +kernel, rfl, by decide +kernel, by decide +kernel⟩
abbrev N_15 : List Str := ["source", "words", "small", "chars", "name", "size", "k", "lower", "word"]
theorem sc_15 : FnScope N_15 ["source"] (defScope (top 21)) := ⟨rfl, rfl, rfl, by decide +kernel, rfl, by decide +kernel, by decide +kernel⟩
abbrev N_16 : List Str := ["source", "names", "k", "name"]
theorem sc_16 : FnScope N_16 ["source"] (defScope (top 22)) := ⟨rfl, rfl, rfl, by decide +kernel, rfl, by decide +kernel, by decide +kernel⟩
abbrev N_17 : List Str := ["source", "size", "names", "pick", "left", "first", "word"]
theorem sc_17 : FnScope N_17 ["source", "size", "names"] (defScope (top 23)) := ⟨rfl, rfl, rfl, by decide +kernel, rfl, by decide +kernel, by decide +kernel⟩
abbrev N_18 : List Str := ["source", "size", "names", "word", "left", "first"]
theorem sc_18 : FnScope N_18 ["source", "size", "names"] (defScope (top 24)) := ⟨rfl, rfl, rfl, by decide +kernel, rfl, by decide +kernel, by decide +kernel⟩
abbrev N_19 : List Str := ["source", "size", "names", "pick", "left", "first", "word"]
theorem sc_19 : FnScope N_19 ["source", "size", "names"] (defScope (top 25)) := ⟨rfl, rfl, rfl, by decide +kernel, rfl, by decide +kernel, by decide +kernel⟩
abbrev N_20 : List Str := ["source", "tree", "is_term", "k", "pick"]
theorem sc_20 : FnScope N_20 ["source", "tree", "is_term"] (defScope (top 26)) := ⟨rfl, rfl, rfl, by decide +kernel, rfl, by decide +kernel, by decide +kernel⟩
abbrev N_21 : List Str := ["tree", "found", "part"]
theorem sc_21 : FnScope N_21 ["tree", "found"] (defScope (top 27)) := ⟨rfl, rfl, rfl, by decide +kernel, rfl, by decide +kernel, by decide +kernel⟩
abbrev N_22 : List Str := ["term", "values", "word", "first", "second"]
theorem sc_22 : FnScope N_22 ["term", "values"] (defScope (top 28)) := ⟨rfl, rfl, rfl, by decide +kernel, rfl, by decide +kernel, by decide +kernel⟩
abbrev N_23 : List Str := ["condition", "values", "word", "first", "second"]
theorem sc_23 : FnScope N_23 ["condition", "values"] (defScope (top 29)) := ⟨rfl, rfl, rfl, by decide +kernel, rfl, by decide +kernel, by decide +kernel⟩
abbrev N_24 : List Str := ["tree", "is_term", "values", "e"]
theorem sc_24 : FnScope N_24 ["tree", "is_term", "values"] (defScope (top 30)) := ⟨rfl, rfl, rfl, by decide +kernel, rfl, by decide +kernel, by decide +kernel⟩
abbrev N_25 : List Str := ["tree", "is_term", "values", "names", "name"]
theorem sc_25 : FnScope N_25 ["tree", "is_term", "values", "names"] (defScope (top 31)) := ⟨rfl, rfl, rfl, by decide +kernel, rfl, by decide +kernel, by decide +kernel⟩
abbrev N_26 : List Str := ["script", "source", "is_term", "size", "missing", "names", "values", "k", "found", "told", "given", "actual", "tree", "worth"]
theorem sc_26 : FnScope N_26 ["script"] (defScope (top 32)) := ⟨rfl, rfl, rfl, by decide +kernel, rfl, by decide +kernel, by decide +kernel⟩
structure Txt (K : PySem.W.Frag) (w : World) (mg : Str → Option Value) (cad ad : Nat → Addr) (fd : Nat → FuncData) : Prop where
  F0 : Fun K "names_in" "names_in" (top 4) (ad 0) (fd 0)
  m0 : mg "names_in" = some (.ref (ad 0))
  b0 : Binds K (fd 0) ["tree"] []
  F1 : Fun K "note_names" "note_names" (top 5) (ad 1) (fd 1)
  m1 : mg "note_names" = some (.ref (ad 1))
  b1 : Binds K (fd 1) ["tree", "names"] []
  F2 : Fun K "parts_of" "parts_of" (top 6) (ad 2) (fd 2)
  m2 : mg "parts_of" = some (.ref (ad 2))
  b2 : Binds K (fd 2) ["tree"] []
  F3 : Fun K "value" "value" (top 7) (ad 3) (fd 3)
  m3 : mg "value" = some (.ref (ad 3))
  b3 : Binds K (fd 3) ["term", "values"] []
  F4 : Fun K "truth" "truth" (top 8) (ad 4) (fd 4)
  m4 : mg "truth" = some (.ref (ad 4))
  b4 : Binds K (fd 4) ["condition", "values"] []
  F5 : Fun K "require_names" "require_names" (top 9) (ad 5) (fd 5)
  m5 : mg "require_names" = some (.ref (ad 5))
  b5 : Binds K (fd 5) ["tree", "known"] []
  F6 : Fun K "number_of" "number_of" (top 10) (ad 6) (fd 6)
  m6 : mg "number_of" = some (.ref (ad 6))
  b6 : Binds K (fd 6) ["term", "values"] []
  F7 : Fun K "combined" "combined" (top 11) (ad 7) (fd 7)
  m7 : mg "combined" = some (.ref (ad 7))
  b7 : Binds K (fd 7) ["word", "left", "right"] []
  F8 : Fun K "holds" "holds" (top 12) (ad 8) (fd 8)
  m8 : mg "holds" = some (.ref (ad 8))
  b8 : Binds K (fd 8) ["condition", "values"] []
  F9 : FunD K "connected" "connected" (defArgs (top 13)) (defBody (top 13)) (defScope (top 13)) [.bl true] [] (ad 9) (fd 9)
  m9 : mg "connected" = some (.ref (ad 9))
  b9 : Binds K (fd 9) ["word", "left", "right", "every"] []
  bd9_1 : ∃ ds, Vals [.bl true] ds ∧ Binds K (fd 9) ["word", "left", "right", "every"] ds
  F10 : Fun K "_law_is_integer" "_law_is_integer" (top 15) (ad 10) (fd 10)
  m10 : mg "_law_is_integer" = some (.ref (ad 10))
  b10 : Binds K (fd 10) ["actual"] []
  F11 : Fun K "_law_source" "_law_source" (top 16) (ad 11) (fd 11)
  m11 : mg "_law_source" = some (.ref (ad 11))
  b11 : Binds K (fd 11) ["script"] []
  F12 : Fun K "_law_draw" "_law_draw" (top 17) (ad 12) (fd 12)
  m12 : mg "_law_draw" = some (.ref (ad 12))
  b12 : Binds K (fd 12) ["source", "many"] []
  F13 : Fun K "_law_words" "_law_words" (top 18) (ad 13) (fd 13)
  m13 : mg "_law_words" = some (.ref (ad 13))
  b13 : Binds K (fd 13) [] []
  F14 : Fun K "_law_number" "_law_number" (top 20) (ad 14) (fd 14)
  m14 : mg "_law_number" = some (.ref (ad 14))
  b14 : Binds K (fd 14) ["source"] []
  F15 : Fun K "_law_name" "_law_name" (top 21) (ad 15) (fd 15)
  m15 : mg "_law_name" = some (.ref (ad 15))
  b15 : Binds K (fd 15) ["source"] []
  F16 : Fun K "_law_names" "_law_names" (top 22) (ad 16) (fd 16)
  m16 : mg "_law_names" = some (.ref (ad 16))
  b16 : Binds K (fd 16) ["source"] []
  F17 : Fun K "_law_term" "_law_term" (top 23) (ad 17) (fd 17)
  m17 : mg "_law_term" = some (.ref (ad 17))
  b17 : Binds K (fd 17) ["source", "size", "names"] []
  F18 : Fun K "_law_comparison" "_law_comparison" (top 24) (ad 18) (fd 18)
  m18 : mg "_law_comparison" = some (.ref (ad 18))
  b18 : Binds K (fd 18) ["source", "size", "names"] []
  F19 : Fun K "_law_condition" "_law_condition" (top 25) (ad 19) (fd 19)
  m19 : mg "_law_condition" = some (.ref (ad 19))
  b19 : Binds K (fd 19) ["source", "size", "names"] []
  F20 : Fun K "_law_higher" "_law_higher" (top 26) (ad 20) (fd 20)
  m20 : mg "_law_higher" = some (.ref (ad 20))
  b20 : Binds K (fd 20) ["source", "tree", "is_term"] []
  F21 : Fun K "_law_gather" "_law_gather" (top 27) (ad 21) (fd 21)
  m21 : mg "_law_gather" = some (.ref (ad 21))
  b21 : Binds K (fd 21) ["tree", "found"] []
  F22 : Fun K "_law_value" "_law_value" (top 28) (ad 22) (fd 22)
  m22 : mg "_law_value" = some (.ref (ad 22))
  b22 : Binds K (fd 22) ["term", "values"] []
  F23 : Fun K "_law_truth" "_law_truth" (top 29) (ad 23) (fd 23)
  m23 : mg "_law_truth" = some (.ref (ad 23))
  b23 : Binds K (fd 23) ["condition", "values"] []
  F24 : Fun K "_law_answer" "_law_answer" (top 30) (ad 24) (fd 24)
  m24 : mg "_law_answer" = some (.ref (ad 24))
  b24 : Binds K (fd 24) ["tree", "is_term", "values"] []
  F25 : Fun K "_law_due" "_law_due" (top 31) (ad 25) (fd 25)
  m25 : mg "_law_due" = some (.ref (ad 25))
  b25 : Binds K (fd 25) ["tree", "is_term", "values", "names"] []
  F26 : Fun K "law" "law" (top 32) (ad 26) (fd 26)
  m26 : mg "law" = some (.ref (ad 26))
  b26 : Binds K (fd 26) ["script"] []
  og_51 : mg "UnknownName" = some (.ref (cad 51))
  og_50 : mg "LassoError" = some (.ref (cad 50))
  ox_51 : OexC K (cad 51)
  oi_51 : ∃ fI fdI, PySem.W.findIn K (.ref (cad 51)) "__init__" = some (some (.ref fI)) ∧ PySem.W.typeIn K (.ref fI) = some (.type "function") ∧ Fun K "__init__" "UnknownName.__init__" (inClass (top 2) 0) fI fdI ∧ Binds K fdI ["self", "name"] []
  on_51 : PySem.W.findIn K (.ref (cad 51)) "name" = some none
  xf_51 : XfC K (cad 51)
  ec_51 : ExcC K (cad 51)
  ek_51 : (PySem.W.clsIn K (cad 51)).isSome = true
  ex_51_UnknownName : PySem.W.exmOne K (.ref (cad 51)) (.ref (cad 51)) = some true
  ki_51_LassoError : PySem.W.kitOne K (.ref (cad 51)) (.ref (cad 50)) = some true
  ki_51_ValueError : PySem.W.kitOne K (.ref (cad 51)) (.type "ValueError") = some true
  bs : BaseC K mg "LassoError"
  z_ValueError : mg "ValueError" = none
  z_abs : mg "abs" = none
  z_bool : mg "bool" = none
  z_dict : mg "dict" = none
  z_int : mg "int" = none
  z_isinstance : mg "isinstance" = none
  z_len : mg "len" = none
  z_list : mg "list" = none
  z_max : mg "max" = none
  z_min : mg "min" = none
  z_range : mg "range" = none
  z_str : mg "str" = none
  z_tuple : mg "tuple" = none
structure All (G : Cw) (M : Nat) (P : Program) (w : World) (mg : Str → Option Value) (base : Heap) (ad : Nat → Addr) (fd : Nat → FuncData) (k : Nat) : Prop where
  f0 : FnOk P w G.K mg base (L2.CX P w) (2 * k + 2) (ad 0) (fd 0) ["tree"] (spF G 1 (fn M k 0))
  f1 : FnOk P w G.K mg base (L2.CX P w) (2 * k + 2) (ad 1) (fd 1) ["tree", "names"] (spF G 2 (fn M k 1))
  f2 : FnOk P w G.K mg base (L2.CX P w) (2 * k + 2) (ad 2) (fd 2) ["tree"] (spF G 1 (fn M k 2))
  f3 : FnOk P w G.K mg base (L2.CX P w) (2 * k + 2) (ad 3) (fd 3) ["term", "values"] (spF G 2 (fn M k 3))
  f4 : FnOk P w G.K mg base (L2.CX P w) (2 * k + 2) (ad 4) (fd 4) ["condition", "values"] (spF G 2 (fn M k 4))
  f5 : FnOk P w G.K mg base (L2.CX P w) (2 * k + 2) (ad 5) (fd 5) ["tree", "known"] (spF G 2 (fn M k 5))
  f6 : FnOk P w G.K mg base (L2.CX P w) (2 * k + 2) (ad 6) (fd 6) ["term", "values"] (spF G 2 (fn M k 6))
  f7 : FnOk P w G.K mg base (L2.CX P w) (2 * k + 2) (ad 7) (fd 7) ["word", "left", "right"] (spF G 3 (fn M k 7))
  f8 : FnOk P w G.K mg base (L2.CX P w) (2 * k + 2) (ad 8) (fd 8) ["condition", "values"] (spF G 2 (fn M k 8))
  f9 : FnOk P w G.K mg base (L2.CX P w) (2 * k + 2) (ad 9) (fd 9) ["word", "left", "right", "every"] (spF G 4 (fn M k 9))
  f10 : FnOk P w G.K mg base (L2.CX P w) (2 * k + 2) (ad 10) (fd 10) ["actual"] (spF G 1 (fn M k 10))
  f11 : FnOk P w G.K mg base (L2.CX P w) (2 * k + 2) (ad 11) (fd 11) ["script"] (spF G 1 (fn M k 11))
  f12 : FnOk P w G.K mg base (L2.CX P w) (2 * k + 2) (ad 12) (fd 12) ["source", "many"] (spF G 2 (fn M k 12))
  f13 : FnOk P w G.K mg base (L2.CX P w) (2 * k + 2) (ad 13) (fd 13) [] (spF G 0 (fn M k 13))
  f14 : FnOk P w G.K mg base (L2.CX P w) (2 * k + 2) (ad 14) (fd 14) ["source"] (spF G 1 (fn M k 14))
  f15 : FnOk P w G.K mg base (L2.CX P w) (2 * k + 2) (ad 15) (fd 15) ["source"] (spF G 1 (fn M k 15))
  f16 : FnOk P w G.K mg base (L2.CX P w) (2 * k + 2) (ad 16) (fd 16) ["source"] (spF G 1 (fn M k 16))
  f17 : FnOk P w G.K mg base (L2.CX P w) (2 * k + 2) (ad 17) (fd 17) ["source", "size", "names"] (spF G 3 (fn M k 17))
  f18 : FnOk P w G.K mg base (L2.CX P w) (2 * k + 2) (ad 18) (fd 18) ["source", "size", "names"] (spF G 3 (fn M k 18))
  f19 : FnOk P w G.K mg base (L2.CX P w) (2 * k + 2) (ad 19) (fd 19) ["source", "size", "names"] (spF G 3 (fn M k 19))
  f20 : FnOk P w G.K mg base (L2.CX P w) (2 * k + 2) (ad 20) (fd 20) ["source", "tree", "is_term"] (spF G 3 (fn M k 20))
  f21 : FnOk P w G.K mg base (L2.CX P w) (2 * k + 2) (ad 21) (fd 21) ["tree", "found"] (spF G 2 (fn M k 21))
  f22 : FnOk P w G.K mg base (L2.CX P w) (2 * k + 2) (ad 22) (fd 22) ["term", "values"] (spF G 2 (fn M k 22))
  f23 : FnOk P w G.K mg base (L2.CX P w) (2 * k + 2) (ad 23) (fd 23) ["condition", "values"] (spF G 2 (fn M k 23))
  f24 : FnOk P w G.K mg base (L2.CX P w) (2 * k + 2) (ad 24) (fd 24) ["tree", "is_term", "values"] (spF G 3 (fn M k 24))
  f25 : FnOk P w G.K mg base (L2.CX P w) (2 * k + 2) (ad 25) (fd 25) ["tree", "is_term", "values", "names"] (spF G 4 (fn M k 25))
  f26 : FnOk P w G.K mg base (L2.CX P w) (2 * k + 2) (ad 26) (fd 26) ["script"] (spF G 1 (fn M k 26))
section
variable {G : Cw} {M : Nat} {P : Program} {w : World} {mg : Str → Option Value} {base : Heap} {ad : Nat → Addr} {fd : Nat → FuncData} {k : Nat}
theorem scx_51 : FnScope ["self", "name"] ["self", "name"] (defScope (inClass (top 2) 0)) := ⟨rfl, rfl, rfl, by decide +kernel, rfl, by decide +kernel, by decide +kernel⟩
theorem xi_51 (T : Txt G.K w mg G.cad ad fd) {fI : Addr} {fdI : FuncData} (F : Fun G.K "__init__" "UnknownName.__init__" (inClass (top 2) 0) fI fdI) : L2.FnOk P w G.K mg base (L2.CX P w) 1 fI fdI ["self", "name"] (spE1 G.K "name") := by
  refine init1_fn [some "the name ", none, some " is unknown"] F scx_51 (by decide +kernel) (by decide) fun cdv A outer s H E => ?_
  exact pss_cons (ps_expr (pe_oeinit T.bs (by rfl) (pa_cons (pv 0) (pa_cons (pe_joined (.cons pe_str (.cons (pe_fmt (pv 1)) (.cons pe_str .nil)))) pa_nil)))) (pss_one (ps_ost (pv 0) (pv 1)))
theorem d_0 (T : Txt G.K w mg G.cad ad fd) (IH : All G M P w mg base ad fd k) : FnOk P w G.K mg base (L2.CX P w) (2 * k + 2 + 1 + 1) (ad 0) (fd 0) ["tree"] (spF G 1 (fn M (k + 1) 0)) := by
  refine fn_okF (N := N_0) (m := b_0 (fn M k) M) T.F0 sc_0 fun cdv A outer s H E hr2 => ?_
  have hr := hr2.mono (Nat.le_succ (2 * k + 2))
  have tk : Takes (cxOf (L2.CX P w) P w G.K mg base N_0 "names_in" (defScope (top 4)) (ad 0) cdv A outer s H E) (fun c d _ H => E c d H) := takes_of rfl rfl rfl rfl
  exact (sm_cons (sm_set pm_dnew (fun h => ps_set (i := 1) sc_0.nd rfl (Or.inl rfl) h))
      (sm_cons (sm_expr (pm_call fn_len_1 (pe_callS IH.f1 hr rfl T.m1 T.F1.kp T.b1 (fun σ => passAt tk σ) (am_cons (pm_var 0 (pv 0)) (am_cons (pm_var 1 (pv 1)) am_nil)))))
      (sm_one (sm_ret (pm_cb s_dkeys (pe_callTy (call_listD rfl) (by rfl) T.z_list PyProof.Rows.boot_list (am_cons (pm_var 1 (pv 1)) am_nil)))))))
theorem d_1 (T : Txt G.K w mg G.cad ad fd) (IH : All G M P w mg base ad fd k) : FnOk P w G.K mg base (L2.CX P w) (2 * k + 2 + 1 + 1) (ad 1) (fd 1) ["tree", "names"] (spF G 2 (fn M (k + 1) 1)) := by
  refine fn_okF (N := N_1) (m := b_1 (fn M k) M) T.F1 sc_1 fun cdv A outer s H E hr2 => ?_
  have hr := hr2.mono (Nat.le_succ (2 * k + 2))
  have tk : Takes (cxOf (L2.CX P w) P w G.K mg base N_1 "note_names" (defScope (top 5)) (ad 1) cdv A outer s H E) (fun c d _ H => E c d H) := takes_of rfl rfl rfl rfl
  exact (sm_cons (sm_if (tm_cmp op_eq s_eq (pm_ix ix_seq s_ix (pm_var 0 (pv 0)) pm_int) pm_str (nomark _))
      (sm_cons (sm_dput (un1 hr) (pm_var 1 (pv 1)) (pm_ix ix_seq s_ix (pm_var 0 (pv 0)) pm_int) pm_bl)
      (sm_one sm_retN))
      sm_nil)
      (sm_one (sm_for (ps_for (passes_of rfl) rfl (im_seq rfl (pm_call fn_len_2 (pe_callS IH.f2 hr rfl T.m2 T.F2.kp T.b2 (fun σ => passAt tk σ) (am_cons (pm_var 0 (pv 0)) am_nil)))) (gm_name (pg_name (i := 2) sc_1.nd rfl (Or.inl rfl)))
      (sm_one (sm_expr (pm_call fn_len_1 (pe_callS IH.f1 hr rfl T.m1 T.F1.kp T.b1 (fun σ => passAt tk σ) (am_cons (pm_var 2 (pv 2)) (am_cons (pm_var 1 (pv 1)) am_nil))))))))))
theorem d_2 (T : Txt G.K w mg G.cad ad fd) (IH : All G M P w mg base ad fd k) : FnOk P w G.K mg base (L2.CX P w) (2 * k + 2 + 1 + 1) (ad 2) (fd 2) ["tree"] (spF G 1 (fn M (k + 1) 2)) := by
  refine fn_okF (N := N_2) (m := b_2 (fn M k) M) T.F2 sc_2 fun cdv A outer s H E hr2 => ?_
  have hr := hr2.mono (Nat.le_succ (2 * k + 2))
  have tk : Takes (cxOf (L2.CX P w) P w G.K mg base N_2 "parts_of" (defScope (top 6)) (ad 2) cdv A outer s H E) (fun c d _ H => E c d H) := takes_of rfl rfl rfl rfl
  exact (sm_one (sm_ret (pm_lc (j := 1) (vs := [1]) (by decide) (pe_lc (own := [("part", 1)]) (g := gName 1) rfl sc_2.nd (im_seq rfl (pm_slice sl_any s_sl (pm_var 0 (pv 0)) (om_some pm_int) om_none)) (blkOk_by (N := N_2) (sc := defScope (top 6)) (by decide +kernel)) (fun _ _ _ _ _ => pg_name (i := 1) sc_2.nd rfl (Or.inl rfl)) (fun _ _ _ _ _ => (tms_one (tm_val (pm_isi rfl (pe_callB call_isi (by rfl) T.z_isinstance PyProof.Rows.boot_isinstance (pa_cons (pm_var 1 (pv 1)) (pa_cons (pe_bltn (by rfl) T.z_tuple PyProof.Rows.boot_tuple rfl) pa_nil))))))) (fun _ _ _ _ _ => (pm_var 1 (pv 1)))))))
theorem d_3 (T : Txt G.K w mg G.cad ad fd) (IH : All G M P w mg base ad fd k) : FnOk P w G.K mg base (L2.CX P w) (2 * k + 2 + 1 + 1) (ad 3) (fd 3) ["term", "values"] (spF G 2 (fn M (k + 1) 3)) := by
  refine fn_okF (N := N_3) (m := b_3 (fn M k) M) T.F3 sc_3 fun cdv A outer s H E hr2 => ?_
  have hr := hr2.mono (Nat.le_succ (2 * k + 2))
  have tk : Takes (cxOf (L2.CX P w) P w G.K mg base N_3 "value" (defScope (top 7)) (ad 3) cdv A outer s H E) (fun c d _ H => E c d H) := takes_of rfl rfl rfl rfl
  exact (sm_cons (sm_expr (pm_call fn_len_5 (pe_callS IH.f5 hr rfl T.m5 T.F5.kp T.b5 (fun σ => passAt tk σ) (am_cons (pm_var 0 (pv 0)) (am_cons (pm_var 1 (pv 1)) am_nil)))))
      (sm_one (sm_ret (pm_call fn_len_6 (pe_callS IH.f6 hr rfl T.m6 T.F6.kp T.b6 (fun σ => passAt tk σ) (am_cons (pm_var 0 (pv 0)) (am_cons (pm_var 1 (pv 1)) am_nil)))))))
theorem d_4 (T : Txt G.K w mg G.cad ad fd) (IH : All G M P w mg base ad fd k) : FnOk P w G.K mg base (L2.CX P w) (2 * k + 2 + 1 + 1) (ad 4) (fd 4) ["condition", "values"] (spF G 2 (fn M (k + 1) 4)) := by
  refine fn_okF (N := N_4) (m := b_4 (fn M k) M) T.F4 sc_4 fun cdv A outer s H E hr2 => ?_
  have hr := hr2.mono (Nat.le_succ (2 * k + 2))
  have tk : Takes (cxOf (L2.CX P w) P w G.K mg base N_4 "truth" (defScope (top 8)) (ad 4) cdv A outer s H E) (fun c d _ H => E c d H) := takes_of rfl rfl rfl rfl
  exact (sm_cons (sm_expr (pm_call fn_len_5 (pe_callS IH.f5 hr rfl T.m5 T.F5.kp T.b5 (fun σ => passAt tk σ) (am_cons (pm_var 0 (pv 0)) (am_cons (pm_var 1 (pv 1)) am_nil)))))
      (sm_one (sm_ret (pm_call fn_len_8 (pe_callS IH.f8 hr rfl T.m8 T.F8.kp T.b8 (fun σ => passAt tk σ) (am_cons (pm_var 0 (pv 0)) (am_cons (pm_var 1 (pv 1)) am_nil)))))))
theorem d_5 (T : Txt G.K w mg G.cad ad fd) (IH : All G M P w mg base ad fd k) : FnOk P w G.K mg base (L2.CX P w) (2 * k + 2 + 1 + 1) (ad 5) (fd 5) ["tree", "known"] (spF G 2 (fn M (k + 1) 5)) := by
  refine fn_okF (N := N_5) (m := b_5 (fn M k) M) T.F5 sc_5 fun cdv A outer s H E hr2 => ?_
  have hr := hr2.mono (Nat.le_succ (2 * k + 2))
  have tk : Takes (cxOf (L2.CX P w) P w G.K mg base N_5 "require_names" (defScope (top 9)) (ad 5) cdv A outer s H E) (fun c d _ H => E c d H) := takes_of rfl rfl rfl rfl
  exact (sm_one (sm_for (ps_for (passes_of rfl) rfl (im_seq rfl (pm_call fn_len_0 (pe_callS IH.f0 hr rfl T.m0 T.F0.kp T.b0 (fun σ => passAt tk σ) (am_cons (pm_var 0 (pv 0)) am_nil)))) (gm_name (pg_name (i := 2) sc_5.nd rfl (Or.inl rfl)))
      (sm_one (sm_if (tm_dnin (un1 hr) (pm_var 2 (pv 2)) (pm_var 1 (pv 1)) (by rfl))
      (sm_one (by obtain ⟨fI, fdI, iC, tI, FI, bI⟩ := T.oi_51; exact sm_rz1 rfl tk T.ox_51 iC tI (xi_51 T FI) (hr2.rm.mono (by omega)) bI passF (by rfl) T.og_51 rfl T.on_51 (pm_var 2 (pv 2))))
      sm_nil)))))
theorem d_6 (T : Txt G.K w mg G.cad ad fd) (IH : All G M P w mg base ad fd k) : FnOk P w G.K mg base (L2.CX P w) (2 * k + 2 + 1 + 1) (ad 6) (fd 6) ["term", "values"] (spF G 2 (fn M (k + 1) 6)) := by
  refine fn_okF (N := N_6) (m := b_6 (fn M k) M) T.F6 sc_6 fun cdv A outer s H E hr2 => ?_
  have hr := hr2.mono (Nat.le_succ (2 * k + 2))
  have tk : Takes (cxOf (L2.CX P w) P w G.K mg base N_6 "number_of" (defScope (top 10)) (ad 6) cdv A outer s H E) (fun c d _ H => E c d H) := takes_of rfl rfl rfl rfl
  exact (sm_cons (sm_set (pm_ix ix_seq s_ix (pm_var 0 (pv 0)) pm_int) (fun h => ps_set (i := 2) sc_6.nd rfl (Or.inl rfl) h))
      (sm_cons (sm_if (tm_cmp op_eq s_eq (pm_var 2 (pv 2)) pm_str (nomark _))
      (sm_one (sm_ret (pm_ix ix_seq s_ix (pm_var 0 (pv 0)) pm_int)))
      sm_nil)
      (sm_cons (sm_if (tm_cmp op_eq s_eq (pm_var 2 (pv 2)) pm_str (nomark _))
      (sm_one (sm_ret (pm_dget (un1 hr) (pm_var 1 (pv 1)) (pm_ix ix_seq s_ix (pm_var 0 (pv 0)) pm_int) (fun _ _ => rfl))))
      sm_nil)
      (sm_cons (sm_set (pm_call fn_len_6 (pe_callS IH.f6 hr rfl T.m6 T.F6.kp T.b6 (fun σ => passAt tk σ) (am_cons (pm_ix ix_seq s_ix (pm_var 0 (pv 0)) pm_int) (am_cons (pm_var 1 (pv 1)) am_nil)))) (fun h => ps_set (i := 3) sc_6.nd rfl (Or.inl rfl) h))
      (sm_cons (sm_if (tm_cmp op_eq s_eq (pm_var 2 (pv 2)) pm_str (nomark _))
      (sm_one (sm_ret (pm_un un_neg s_neg (pm_var 3 (pv 3)))))
      sm_nil)
      (sm_cons (sm_if (tm_cmp op_eq s_eq (pm_var 2 (pv 2)) pm_str (nomark _))
      (sm_one (sm_ret (pm_op op_fdivW s_fdivW (pm_var 3 (pv 3)) (pm_ix ix_seq s_ix (pm_var 0 (pv 0)) pm_int))))
      sm_nil)
      (sm_cons (sm_if (tm_cmp op_eq s_eq (pm_var 2 (pv 2)) pm_str (nomark _))
      (sm_one (sm_ret (pm_op op_mod s_mod (pm_var 3 (pv 3)) (pm_ix ix_seq s_ix (pm_var 0 (pv 0)) pm_int))))
      sm_nil)
      (sm_one (sm_ret (pm_call fn_len_7 (pe_callS IH.f7 hr rfl T.m7 T.F7.kp T.b7 (fun σ => passAt tk σ) (am_cons (pm_var 2 (pv 2)) (am_cons (pm_var 3 (pv 3)) (am_cons (pm_call fn_len_6 (pe_callS IH.f6 hr rfl T.m6 T.F6.kp T.b6 (fun σ => passAt tk σ) (am_cons (pm_ix ix_seq s_ix (pm_var 0 (pv 0)) pm_int) (am_cons (pm_var 1 (pv 1)) am_nil)))) am_nil))))))))))))))
theorem d_7 (T : Txt G.K w mg G.cad ad fd) (IH : All G M P w mg base ad fd k) : FnOk P w G.K mg base (L2.CX P w) (2 * k + 2 + 1 + 1) (ad 7) (fd 7) ["word", "left", "right"] (spF G 3 (fn M (k + 1) 7)) := by
  refine fn_okF (N := N_7) (m := b_7 (fn M k) M) T.F7 sc_7 fun cdv A outer s H E hr2 => ?_
  have hr := hr2.mono (Nat.le_succ (2 * k + 2))
  have tk : Takes (cxOf (L2.CX P w) P w G.K mg base N_7 "combined" (defScope (top 11)) (ad 7) cdv A outer s H E) (fun c d _ H => E c d H) := takes_of rfl rfl rfl rfl
  exact (sm_cons (sm_if (tm_cmp op_eq s_eq (pm_var 0 (pv 0)) pm_str (nomark _))
      (sm_one (sm_ret (pm_op op_plus s_plus (pm_var 1 (pv 1)) (pm_var 2 (pv 2)))))
      sm_nil)
      (sm_cons (sm_if (tm_cmp op_eq s_eq (pm_var 0 (pv 0)) pm_str (nomark _))
      (sm_one (sm_ret (pm_op op_sub s_sub (pm_var 1 (pv 1)) (pm_var 2 (pv 2)))))
      sm_nil)
      (sm_cons (sm_if (tm_cmp op_eq s_eq (pm_var 0 (pv 0)) pm_str (nomark _))
      (sm_one (sm_ret (pm_op op_mulX s_mulX (pm_var 1 (pv 1)) (pm_var 2 (pv 2)))))
      sm_nil)
      (sm_cons (sm_if (tm_cmp op_eq s_eq (pm_var 0 (pv 0)) pm_str (nomark _))
      (sm_one (sm_ret (pm_cb s_min2 (pe_callB (call_min2 rfl) (by rfl) T.z_min PyProof.Rows.boot_min (am_cons (pm_var 1 (pv 1)) (am_cons (pm_var 2 (pv 2)) am_nil))))))
      sm_nil)
      (sm_one (sm_ret (pm_cb s_max2 (pe_callB (call_max2 rfl) (by rfl) T.z_max PyProof.Rows.boot_max (am_cons (pm_var 1 (pv 1)) (am_cons (pm_var 2 (pv 2)) am_nil))))))))))
theorem d_8 (T : Txt G.K w mg G.cad ad fd) (IH : All G M P w mg base ad fd k) : FnOk P w G.K mg base (L2.CX P w) (2 * k + 2 + 1 + 1) (ad 8) (fd 8) ["condition", "values"] (spF G 2 (fn M (k + 1) 8)) := by
  refine fn_okF (N := N_8) (m := b_8 (fn M k) M) T.F8 sc_8 fun cdv A outer s H E hr2 => ?_
  have hr := hr2.mono (Nat.le_succ (2 * k + 2))
  have tk : Takes (cxOf (L2.CX P w) P w G.K mg base N_8 "holds" (defScope (top 12)) (ad 8) cdv A outer s H E) (fun c d _ H => E c d H) := takes_of rfl rfl rfl rfl
  exact (sm_cons (sm_set (pm_ix ix_seq s_ix (pm_var 0 (pv 0)) pm_int) (fun h => ps_set (i := 2) sc_8.nd rfl (Or.inl rfl) h))
      (sm_cons (sm_if (tm_bool (wm_or (tm_cmp op_eq s_eq (pm_var 2 (pv 2)) pm_str (nomark _)) (wm_or1 (tm_cmp op_eq s_eq (pm_var 2 (pv 2)) pm_str (nomark _)))))
      (sm_one (sm_ret (pm_cmp op_eq s_eq (pm_var 2 (pv 2)) pm_str (nomark _))))
      sm_nil)
      (sm_cons (sm_if (tm_cmp op_eq s_eq (pm_var 2 (pv 2)) pm_str (nomark _))
      (sm_one (sm_ret (pm_cmp (op_eqA (units150 hr)) s_eqA (pm_call fn_len_6 (pe_callS IH.f6 hr rfl T.m6 T.F6.kp T.b6 (fun σ => passAt tk σ) (am_cons (pm_ix ix_seq s_ix (pm_var 0 (pv 0)) pm_int) (am_cons (pm_var 1 (pv 1)) am_nil)))) (pm_call fn_len_6 (pe_callS IH.f6 hr rfl T.m6 T.F6.kp T.b6 (fun σ => passAt tk σ) (am_cons (pm_ix ix_seq s_ix (pm_var 0 (pv 0)) pm_int) (am_cons (pm_var 1 (pv 1)) am_nil)))) (nomark _))))
      sm_nil)
      (sm_cons (sm_if (tm_cmp op_eq s_eq (pm_var 2 (pv 2)) pm_str (nomark _))
      (sm_one (sm_ret (pm_cmp op_lt s_lt (pm_call fn_len_6 (pe_callS IH.f6 hr rfl T.m6 T.F6.kp T.b6 (fun σ => passAt tk σ) (am_cons (pm_ix ix_seq s_ix (pm_var 0 (pv 0)) pm_int) (am_cons (pm_var 1 (pv 1)) am_nil)))) (pm_call fn_len_6 (pe_callS IH.f6 hr rfl T.m6 T.F6.kp T.b6 (fun σ => passAt tk σ) (am_cons (pm_ix ix_seq s_ix (pm_var 0 (pv 0)) pm_int) (am_cons (pm_var 1 (pv 1)) am_nil)))) (nomark _))))
      sm_nil)
      (sm_cons (sm_if (tm_cmp op_eq s_eq (pm_var 2 (pv 2)) pm_str (nomark _))
      (sm_one (sm_ret (pm_cmp op_le s_le (pm_call fn_len_6 (pe_callS IH.f6 hr rfl T.m6 T.F6.kp T.b6 (fun σ => passAt tk σ) (am_cons (pm_ix ix_seq s_ix (pm_var 0 (pv 0)) pm_int) (am_cons (pm_var 1 (pv 1)) am_nil)))) (pm_call fn_len_6 (pe_callS IH.f6 hr rfl T.m6 T.F6.kp T.b6 (fun σ => passAt tk σ) (am_cons (pm_ix ix_seq s_ix (pm_var 0 (pv 0)) pm_int) (am_cons (pm_var 1 (pv 1)) am_nil)))) (nomark _))))
      sm_nil)
      (sm_cons (sm_set (pm_call fn_len_8 (pe_callS IH.f8 hr rfl T.m8 T.F8.kp T.b8 (fun σ => passAt tk σ) (am_cons (pm_ix ix_seq s_ix (pm_var 0 (pv 0)) pm_int) (am_cons (pm_var 1 (pv 1)) am_nil)))) (fun h => ps_set (i := 3) sc_8.nd rfl (Or.inl rfl) h))
      (sm_cons (sm_if (tm_cmp op_eq s_eq (pm_var 2 (pv 2)) pm_str (nomark _))
      (sm_one (sm_ret (pm_not (pm_var 3 (pv 3)))))
      sm_nil)
      (sm_one (sm_ret (pm_callD fn_len_9 (fun μ H => by simp only [RVs, RV]; exact ⟨_, _, rfl, rfl, rfl⟩) (pe_callE IH.f9 hr rfl T.m9 T.F9.kp T.bd9_1 (fun σ => passAt tk σ) (am_cons (pm_var 2 (pv 2)) (am_cons (pm_var 3 (pv 3)) (am_cons (pm_call fn_len_8 (pe_callS IH.f8 hr rfl T.m8 T.F8.kp T.b8 (fun σ => passAt tk σ) (am_cons (pm_ix ix_seq s_ix (pm_var 0 (pv 0)) pm_int) (am_cons (pm_var 1 (pv 1)) am_nil)))) am_nil))))))))))))))
theorem d_9 (T : Txt G.K w mg G.cad ad fd) (IH : All G M P w mg base ad fd k) : FnOk P w G.K mg base (L2.CX P w) (2 * k + 2 + 1 + 1) (ad 9) (fd 9) ["word", "left", "right", "every"] (spF G 4 (fn M (k + 1) 9)) := by
  refine fn_okFD (N := N_9) (m := b_9 (fn M k) M) T.F9 sc_9 fun cdv A outer s H E hr2 => ?_
  have hr := hr2.mono (Nat.le_succ (2 * k + 2))
  have tk : Takes (cxOf (L2.CX P w) P w G.K mg base N_9 "connected" (defScope (top 13)) (ad 9) cdv A outer s H E) (fun c d _ H => E c d H) := takes_of rfl rfl rfl rfl
  exact (sm_cons (sm_if (tm_cmp op_eq s_eq (pm_var 0 (pv 0)) pm_str (nomark _))
      (sm_one (sm_ret (pm_op op_andB s_bOp (pm_var 1 (pv 1)) (pm_var 2 (pv 2)))))
      sm_nil)
      (sm_cons (sm_if (tm_cmp op_eq s_eq (pm_var 0 (pv 0)) pm_str (nomark _))
      (sm_one (sm_ret (pm_op op_orB s_bOp (pm_var 1 (pv 1)) (pm_var 2 (pv 2)))))
      sm_nil)
      (sm_cons (sm_if (tm_cmp op_eq s_eq (pm_var 0 (pv 0)) pm_str (nomark _))
      (sm_one (sm_ret (pm_op op_orB s_bOp (pm_var 2 (pv 2)) (pm_op op_xorB s_bOp (pm_var 3 (pv 3)) (pm_var 1 (pv 1))))))
      sm_nil)
      (sm_one (sm_ret (pm_op op_xorB s_bOp (pm_op op_xorB s_bOp (pm_var 3 (pv 3)) (pm_var 1 (pv 1))) (pm_var 2 (pv 2))))))))
theorem d_10 (T : Txt G.K w mg G.cad ad fd) (IH : All G M P w mg base ad fd k) : FnOk P w G.K mg base (L2.CX P w) (2 * k + 2 + 1 + 1) (ad 10) (fd 10) ["actual"] (spF G 1 (fn M (k + 1) 10)) := by
  refine fn_okF (N := N_10) (m := b_10 (fn M k) M) T.F10 sc_10 fun cdv A outer s H E hr2 => ?_
  have hr := hr2.mono (Nat.le_succ (2 * k + 2))
  have tk : Takes (cxOf (L2.CX P w) P w G.K mg base N_10 "_law_is_integer" (defScope (top 15)) (ad 10) cdv A outer s H E) (fun c d _ H => E c d H) := takes_of rfl rfl rfl rfl
  exact (sm_one (sm_ret (pm_and (pm_isi rfl (pe_callB call_isi (by rfl) T.z_isinstance PyProof.Rows.boot_isinstance (pa_cons (pm_var 0 (pv 0)) (pa_cons (pe_bltn (by rfl) T.z_int PyProof.Rows.boot_int rfl) pa_nil)))) (pm_one (pm_not (pm_isi rfl (pe_callB call_isi (by rfl) T.z_isinstance PyProof.Rows.boot_isinstance (pa_cons (pm_var 0 (pv 0)) (pa_cons (pe_bltn (by rfl) T.z_bool PyProof.Rows.boot_bool rfl) pa_nil)))))))))
theorem d_11 (T : Txt G.K w mg G.cad ad fd) (IH : All G M P w mg base ad fd k) : FnOk P w G.K mg base (L2.CX P w) (2 * k + 2 + 1 + 1) (ad 11) (fd 11) ["script"] (spF G 1 (fn M (k + 1) 11)) := by
  refine fn_okF (N := N_11) (m := b_11 (fn M k) M) T.F11 sc_11 fun cdv A outer s H E hr2 => ?_
  have hr := hr2.mono (Nat.le_succ (2 * k + 2))
  have tk : Takes (cxOf (L2.CX P w) P w G.K mg base N_11 "_law_source" (defScope (top 16)) (ad 11) cdv A outer s H E) (fun c d _ H => E c d H) := takes_of rfl rfl rfl rfl
  exact (sm_cons (sm_set pm_int (fun h => ps_set (i := 1) sc_11.nd rfl (Or.inl rfl) h))
      (sm_cons (sm_for (ps_for (passes_of rfl) rfl (im_seq rfl (pm_var 0 (pv 0))) (gm_name (pg_name (i := 2) sc_11.nd rfl (Or.inl rfl)))
      (sm_one (sm_set (pm_op op_mod s_mod (pm_op op_plus s_plus (pm_op op_plus s_plus (pm_op op_times s_times (pm_var 1 (pv 1)) pm_int) (pm_op op_mod s_mod (pm_cb s_int1 (pe_callTy call_int1 (by rfl) T.z_int PyProof.Rows.boot_int (am_cons (pm_var 2 (pv 2)) am_nil))) pm_int)) pm_int) pm_int) (fun h => ps_set (i := 1) sc_11.nd rfl (Or.inl rfl) h)))))
      (sm_one (sm_ret (pm_lst (am_cons (pm_cb s_lst (pe_callTy call_list_of (by rfl) T.z_list PyProof.Rows.boot_list (am_cons (pm_var 0 (pv 0)) am_nil))) (am_cons pm_int (am_cons pm_int (am_cons (pm_op op_plus s_plus (pm_var 1 (pv 1)) pm_int) (am_cons (pm_op op_plus s_plus (pm_op op_times s_times (pm_var 1 (pv 1)) pm_int) pm_int) am_nil))))))))))
theorem d_12 (T : Txt G.K w mg G.cad ad fd) (IH : All G M P w mg base ad fd k) : FnOk P w G.K mg base (L2.CX P w) (2 * k + 2 + 1 + 1) (ad 12) (fd 12) ["source", "many"] (spF G 2 (fn M (k + 1) 12)) := by
  refine fn_okF (N := N_12) (m := b_12 (fn M k) M) T.F12 sc_12 fun cdv A outer s H E hr2 => ?_
  have hr := hr2.mono (Nat.le_succ (2 * k + 2))
  have tk : Takes (cxOf (L2.CX P w) P w G.K mg base N_12 "_law_draw" (defScope (top 17)) (ad 12) cdv A outer s H E) (fun c d _ H => E c d H) := takes_of rfl rfl rfl rfl
  exact (sm_cons (sm_if (tm_bool (wm_and (tm_cmp op_eq s_eq (pm_ix ix_seq s_ix (pm_var 0 (pv 0)) pm_int) pm_int (nomark _)) (wm_and1 (tm_cmp op_lt s_lt (pm_ix ix_seq s_ix (pm_var 0 (pv 0)) pm_int) (pm_cb s_len (pe_callB call_lenA (by rfl) T.z_len PySem.boot_len (am_cons (pm_ix ix_seq s_ix (pm_var 0 (pv 0)) pm_int) am_nil))) (nomark _)))))
      (sm_cons (sm_set (pm_ix ix_seq s_ix (pm_ix ix_seq s_ix (pm_var 0 (pv 0)) pm_int) (pm_ix ix_seq s_ix (pm_var 0 (pv 0)) pm_int)) (fun h => ps_set (i := 2) sc_12.nd rfl (Or.inl rfl) h))
      (sm_cons (sm_asg (pm_op op_plus s_plus (pm_ix ix_seq s_ix (pm_var 0 (pv 0)) pm_int) pm_int) (gm_sub (W := WF) s_set (pg_sub (pm_var 0 (pv 0)) pm_int set_list)))
      (sm_cons (sm_if (tm_cmp op_lt s_lt (pm_cb s_abs (pe_callB call_abs (by rfl) T.z_abs PyProof.Rows.boot_abs (am_cons (pm_var 2 (pv 2)) am_nil))) (pm_op op_pow s_pow pm_int pm_int) (nomark _))
      (sm_one (sm_ret (pm_op op_mod s_mod (pm_cb s_int1 (pe_callTy call_int1 (by rfl) T.z_int PyProof.Rows.boot_int (am_cons (pm_var 2 (pv 2)) am_nil))) (pm_var 1 (pv 1)))))
      sm_nil)
      (sm_one (sm_asg (pm_cb s_abs (pe_callB call_abs (by rfl) T.z_abs PyProof.Rows.boot_abs (am_cons (pm_var 2 (pv 2)) am_nil))) (gm_sub (W := WF) s_set (pg_sub (pm_var 0 (pv 0)) pm_int set_list)))))))
      sm_nil)
      (sm_cons (sm_if (tm_cmp op_gt s_gt (pm_ix ix_seq s_ix (pm_var 0 (pv 0)) pm_int) pm_int (nomark _))
      (sm_cons (sm_set (pm_op op_mod s_mod (pm_cb s_int1 (pe_callTy call_int1 (by rfl) T.z_int PyProof.Rows.boot_int (am_cons (pm_ix ix_seq s_ix (pm_var 0 (pv 0)) pm_int) am_nil))) (pm_var 1 (pv 1))) (fun h => ps_set (i := 3) sc_12.nd rfl (Or.inl rfl) h))
      (sm_cons (sm_asg (pm_op op_fdiv s_fdiv (pm_ix ix_seq s_ix (pm_var 0 (pv 0)) pm_int) (pm_var 1 (pv 1))) (gm_sub (W := WF) s_set (pg_sub (pm_var 0 (pv 0)) pm_int set_list)))
      (sm_one (sm_ret (pm_var 3 (pv 3))))))
      sm_nil)
      (sm_cons (sm_asg (pm_op op_mod s_mod (pm_cb s_int1 (pe_callTy call_int1 (by rfl) T.z_int PyProof.Rows.boot_int (am_cons (pm_op op_times s_times (pm_ix ix_seq s_ix (pm_var 0 (pv 0)) pm_int) pm_int) am_nil))) pm_int) (gm_sub (W := WF) s_set (pg_sub (pm_var 0 (pv 0)) pm_int set_list)))
      (sm_cons (sm_asg (pm_op op_mod s_mod (pm_cb s_int1 (pe_callTy call_int1 (by rfl) T.z_int PyProof.Rows.boot_int (am_cons (pm_op op_plus s_plus (pm_op op_times s_times (pm_ix ix_seq s_ix (pm_var 0 (pv 0)) pm_int) pm_int) pm_int) am_nil))) pm_int) (gm_sub (W := WF) s_set (pg_sub (pm_var 0 (pv 0)) pm_int set_list)))
      (sm_one (sm_ret (pm_op op_mod s_mod (pm_cb s_int1 (pe_callTy call_int1 (by rfl) T.z_int PyProof.Rows.boot_int (am_cons (pm_op op_plus s_plus (pm_op op_fdiv s_fdiv (pm_ix ix_seq s_ix (pm_var 0 (pv 0)) pm_int) pm_int) (pm_op op_fdiv s_fdiv (pm_ix ix_seq s_ix (pm_var 0 (pv 0)) pm_int) pm_int)) am_nil))) (pm_var 1 (pv 1)))))))))
theorem d_13 (T : Txt G.K w mg G.cad ad fd) (IH : All G M P w mg base ad fd k) : FnOk P w G.K mg base (L2.CX P w) (2 * k + 2 + 1 + 1) (ad 13) (fd 13) [] (spF G 0 (fn M (k + 1) 13)) := by
  refine fn_okF (N := N_13) (m := b_13 (fn M k) M) T.F13 sc_13 fun cdv A outer s H E hr2 => ?_
  have hr := hr2.mono (Nat.le_succ (2 * k + 2))
  have tk : Takes (cxOf (L2.CX P w) P w G.K mg base N_13 "_law_words" (defScope (top 18)) (ad 13) cdv A outer s H E) (fun c d _ H => E c d H) := takes_of rfl rfl rfl rfl
  exact (sm_cons (sm_set pm_str (fun h => ps_set (i := 0) sc_13.nd rfl (Or.inl rfl) h))
      (sm_one (sm_ret (pm_mt s_split (pe_bm PySem.F.plainAttrs_str PySem.F.slot_str_split PySem.F.type_str_split mt_split (pm_var 0 (pv 0)) (am_cons pm_str am_nil))))))
theorem d_14 (T : Txt G.K w mg G.cad ad fd) (IH : All G M P w mg base ad fd k) : FnOk P w G.K mg base (L2.CX P w) (2 * k + 2 + 1 + 1) (ad 14) (fd 14) ["source"] (spF G 1 (fn M (k + 1) 14)) := by
  refine fn_okF (N := N_14) (m := b_14 (fn M k) M) T.F14 sc_14 fun cdv A outer s H E hr2 => ?_
  have hr := hr2.mono (Nat.le_succ (2 * k + 2))
  have tk : Takes (cxOf (L2.CX P w) P w G.K mg base N_14 "_law_number" (defScope (top 20)) (ad 14) cdv A outer s H E) (fun c d _ H => E c d H) := takes_of rfl rfl rfl rfl
  exact (sm_cons (sm_set (pm_call fn_len_12 (pe_callS IH.f12 hr rfl T.m12 T.F12.kp T.b12 (fun σ => passAt tk σ) (am_cons (pm_var 0 (pv 0)) (am_cons pm_int am_nil)))) (fun h => ps_set (i := 1) sc_14.nd rfl (Or.inl rfl) h))
      (sm_cons (sm_if (tm_cmp op_lt s_lt (pm_var 1 (pv 1)) pm_int (nomark _))
      (sm_one (sm_ret (pm_call fn_len_12 (pe_callS IH.f12 hr rfl T.m12 T.F12.kp T.b12 (fun σ => passAt tk σ) (am_cons (pm_var 0 (pv 0)) (am_cons pm_int am_nil))))))
      sm_nil)
      (sm_cons (sm_if (tm_cmp op_eq s_eq (pm_var 1 (pv 1)) pm_int (nomark _))
      (sm_one (sm_ret (pm_cb s_intS (pe_callTy call_int_str (by rfl) T.z_int PyProof.Rows.boot_int (am_cons (pm_op op_plus s_plus pm_str (pm_op op_times s_times pm_str (pm_call fn_len_12 (pe_callS IH.f12 hr rfl T.m12 T.F12.kp T.b12 (fun σ => passAt tk σ) (am_cons (pm_var 0 (pv 0)) (am_cons pm_int am_nil)))))) am_nil)))))
      sm_nil)
      (sm_cons (sm_if (tm_cmp op_eq s_eq (pm_var 1 (pv 1)) pm_int (nomark _))
      (sm_one (sm_ret (pm_cb s_intS (pe_callTy call_int_str (by rfl) T.z_int PyProof.Rows.boot_int (am_cons (pm_op op_times s_times pm_str (pm_op op_plus s_plus pm_int (pm_call fn_len_12 (pe_callS IH.f12 hr rfl T.m12 T.F12.kp T.b12 (fun σ => passAt tk σ) (am_cons (pm_var 0 (pv 0)) (am_cons pm_int am_nil)))))) am_nil)))))
      sm_nil)
      (sm_one (sm_ret (pm_op op_plus s_plus (pm_op op_times s_times (pm_call fn_len_12 (pe_callS IH.f12 hr rfl T.m12 T.F12.kp T.b12 (fun σ => passAt tk σ) (am_cons (pm_var 0 (pv 0)) (am_cons (pm_op op_pow s_pow pm_int pm_int) am_nil)))) (pm_op op_pow s_pow pm_int pm_int)) (pm_call fn_len_12 (pe_callS IH.f12 hr rfl T.m12 T.F12.kp T.b12 (fun σ => passAt tk σ) (am_cons (pm_var 0 (pv 0)) (am_cons (pm_op op_pow s_pow pm_int pm_int) am_nil)))))))))))
theorem d_15 (T : Txt G.K w mg G.cad ad fd) (IH : All G M P w mg base ad fd k) : FnOk P w G.K mg base (L2.CX P w) (2 * k + 2 + 1 + 1) (ad 15) (fd 15) ["source"] (spF G 1 (fn M (k + 1) 15)) := by
  refine fn_okF (N := N_15) (m := b_15 (fn M k) M) T.F15 sc_15 fun cdv A outer s H E hr2 => ?_
  have hr := hr2.mono (Nat.le_succ (2 * k + 2))
  have tk : Takes (cxOf (L2.CX P w) P w G.K mg base N_15 "_law_name" (defScope (top 21)) (ad 15) cdv A outer s H E) (fun c d _ H => E c d H) := takes_of rfl rfl rfl rfl
  exact (sm_cons (sm_set (pm_call fn_len_13 (pe_callS0 IH.f13 hr rfl T.m13 T.F13.kp T.b13 (fun σ => passAt tk σ) (fun σ H Q h => nil_args h))) (fun h => ps_set (i := 1) sc_15.nd rfl (Or.inl rfl) h))
      (sm_cons (sm_set pm_str (fun h => ps_set (i := 2) sc_15.nd rfl (Or.inl rfl) h))
      (sm_cons (sm_set (pm_op op_plus s_plus (pm_var 2 (pv 2)) pm_str) (fun h => ps_set (i := 3) sc_15.nd rfl (Or.inl rfl) h))
      (sm_cons (sm_set (pm_ix ix_seq s_ix (pm_var 2 (pv 2)) (pm_call fn_len_12 (pe_callS IH.f12 hr rfl T.m12 T.F12.kp T.b12 (fun σ => passAt tk σ) (am_cons (pm_var 0 (pv 0)) (am_cons pm_int am_nil))))) (fun h => ps_set (i := 4) sc_15.nd rfl (Or.inl rfl) h))
      (sm_cons (sm_set (pm_call fn_len_12 (pe_callS IH.f12 hr rfl T.m12 T.F12.kp T.b12 (fun σ => passAt tk σ) (am_cons (pm_var 0 (pv 0)) (am_cons pm_int am_nil)))) (fun h => ps_set (i := 5) sc_15.nd rfl (Or.inl rfl) h))
      (sm_cons (sm_if (tm_cmp op_eq s_eq (pm_call fn_len_12 (pe_callS IH.f12 hr rfl T.m12 T.F12.kp T.b12 (fun σ => passAt tk σ) (am_cons (pm_var 0 (pv 0)) (am_cons pm_int am_nil)))) pm_int (nomark _))
      (sm_one (sm_set pm_int (fun h => ps_set (i := 5) sc_15.nd rfl (Or.inl rfl) h)))
      sm_nil)
      (sm_cons (sm_if (tm_cmp op_eq s_eq (pm_call fn_len_12 (pe_callS IH.f12 hr rfl T.m12 T.F12.kp T.b12 (fun σ => passAt tk σ) (am_cons (pm_var 0 (pv 0)) (am_cons pm_int am_nil)))) pm_int (nomark _))
      (sm_cons (sm_setLc (j := 8) (vs := [8]) (by decide) (ps_setLc (i := 7) (own := [("word", 8)]) (g := gName 8) rfl sc_15.nd rfl rfl (sw_true rfl rfl rfl (by decide +kernel)) (im_seq rfl (pm_var 1 (pv 1))) (blkOk_by (N := N_15) (sc := defScope (top 21)) (by decide +kernel)) (fun _ _ _ _ _ => pg_name (i := 8) sc_15.nd rfl (Or.inl rfl)) (fun _ _ _ _ _ => (tms_one (tm_val (pm_mt0 s_pred (pe_bm0 PySem.F.plainAttrs_str PySem.F.slot_str_islower PySem.F.type_str_islower mt_islower (pm_var 8 (pv 8))))))) (fun _ _ _ _ _ => (pm_var 8 (pv 8)))))
      (sm_cons (sm_set (pm_ix ix_seq s_ix (pm_var 7 (pv 7)) (pm_call fn_len_12 (pe_callS IH.f12 hr rfl T.m12 T.F12.kp T.b12 (fun σ => passAt tk σ) (am_cons (pm_var 0 (pv 0)) (am_cons pm_int am_nil))))) (fun h => ps_set (i := 4) sc_15.nd rfl (Or.inl rfl) h))
      (sm_one (sm_set (pm_slice sl_any s_sl (pm_var 4 (pv 4)) om_none (om_some (pm_op op_plus s_plus pm_int (pm_call fn_len_12 (pe_callS IH.f12 hr rfl T.m12 T.F12.kp T.b12 (fun σ => passAt tk σ) (am_cons (pm_var 0 (pv 0)) (am_cons (pm_cb s_len (pe_callB call_lenA (by rfl) T.z_len PySem.boot_len (am_cons (pm_var 4 (pv 4)) am_nil))) am_nil))))))) (fun h => ps_set (i := 4) sc_15.nd rfl (Or.inl rfl) h)))))
      sm_nil)
      (sm_cons (sm_for (ps_for (passes_of rfl) rfl (im_r1 (pi_range1 rfl T.z_range (am_cons (pm_var 5 (pv 5)) am_nil))) (gm_name (pg_name (i := 6) sc_15.nd rfl (Or.inl rfl)))
      (sm_one (sm_set (pm_op op_plus s_plus (pm_var 4 (pv 4)) (pm_ix ix_seq s_ix (pm_var 3 (pv 3)) (pm_call fn_len_12 (pe_callS IH.f12 hr rfl T.m12 T.F12.kp T.b12 (fun σ => passAt tk σ) (am_cons (pm_var 0 (pv 0)) (am_cons pm_int am_nil)))))) (fun h => ps_set (i := 4) sc_15.nd rfl (Or.inl rfl) h)))))
      (sm_cons (sm_if (tm_cmp (op_inDD (units65 hr)) s_inDD (pm_var 4 (pv 4)) (pm_var 1 (pv 1)))
      (sm_one (sm_set (pm_op op_plus s_plus (pm_var 4 (pv 4)) pm_str) (fun h => ps_set (i := 4) sc_15.nd rfl (Or.inl rfl) h)))
      sm_nil)
      (sm_one (sm_ret (pm_var 4 (pv 4)))))))))))))
theorem d_16 (T : Txt G.K w mg G.cad ad fd) (IH : All G M P w mg base ad fd k) : FnOk P w G.K mg base (L2.CX P w) (2 * k + 2 + 1 + 1) (ad 16) (fd 16) ["source"] (spF G 1 (fn M (k + 1) 16)) := by
  refine fn_okF (N := N_16) (m := b_16 (fn M k) M) T.F16 sc_16 fun cdv A outer s H E hr2 => ?_
  have hr := hr2.mono (Nat.le_succ (2 * k + 2))
  have tk : Takes (cxOf (L2.CX P w) P w G.K mg base N_16 "_law_names" (defScope (top 22)) (ad 16) cdv A outer s H E) (fun c d _ H => E c d H) := takes_of rfl rfl rfl rfl
  exact (sm_cons (sm_set (pm_lst am_nil) (fun h => ps_set (i := 1) sc_16.nd rfl (Or.inl rfl) h))
      (sm_cons (sm_for (ps_for (passes_of rfl) rfl (im_r1 (pi_range1 rfl T.z_range (am_cons (pm_op op_plus s_plus pm_int (pm_call fn_len_12 (pe_callS IH.f12 hr rfl T.m12 T.F12.kp T.b12 (fun σ => passAt tk σ) (am_cons (pm_var 0 (pv 0)) (am_cons pm_int am_nil))))) am_nil))) (gm_name (pg_name (i := 2) sc_16.nd rfl (Or.inl rfl)))
      (sm_cons (sm_set (pm_call fn_len_15 (pe_callS IH.f15 hr rfl T.m15 T.F15.kp T.b15 (fun σ => passAt tk σ) (am_cons (pm_var 0 (pv 0)) am_nil))) (fun h => ps_set (i := 3) sc_16.nd rfl (Or.inl rfl) h))
      (sm_cons (sm_if (tm_cmp (op_inDD (units65 hr)) s_inDD (pm_var 3 (pv 3)) (pm_var 1 (pv 1)))
      (sm_one (sm_set (pm_op op_plus s_plus (pm_cb s_maxLen (pe_maxLen rfl (by rfl) T.z_max (by rfl) T.z_len (am_cons (pm_var 1 (pv 1)) am_nil))) pm_str) (fun h => ps_set (i := 3) sc_16.nd rfl (Or.inl rfl) h)))
      sm_nil)
      (sm_one (sm_expr (pm_mt s_app (pe_bm PySem.F.plainAttrs_list PySem.F.slot_list_append PySem.F.type_list_append mt_append (pm_var 1 (pv 1)) (am_cons (pm_var 3 (pv 3)) am_nil)))))))))
      (sm_one (sm_ret (pm_var 1 (pv 1))))))
theorem d_17 (T : Txt G.K w mg G.cad ad fd) (IH : All G M P w mg base ad fd k) : FnOk P w G.K mg base (L2.CX P w) (2 * k + 2 + 1 + 1) (ad 17) (fd 17) ["source", "size", "names"] (spF G 3 (fn M (k + 1) 17)) := by
  refine fn_okF (N := N_17) (m := b_17 (fn M k) M) T.F17 sc_17 fun cdv A outer s H E hr2 => ?_
  have hr := hr2.mono (Nat.le_succ (2 * k + 2))
  have tk : Takes (cxOf (L2.CX P w) P w G.K mg base N_17 "_law_term" (defScope (top 23)) (ad 17) cdv A outer s H E) (fun c d _ H => E c d H) := takes_of rfl rfl rfl rfl
  exact (sm_cons (sm_if (tm_cmp op_eq s_eq (pm_var 1 (pv 1)) pm_int (nomark _))
      (sm_cons (sm_if (tm_cmp op_eq s_eq (pm_call fn_len_12 (pe_callS IH.f12 hr rfl T.m12 T.F12.kp T.b12 (fun σ => passAt tk σ) (am_cons (pm_var 0 (pv 0)) (am_cons pm_int am_nil)))) pm_int (nomark _))
      (sm_one (sm_ret (pm_tup (am_cons pm_str (am_cons (pm_call fn_len_14 (pe_callS IH.f14 hr rfl T.m14 T.F14.kp T.b14 (fun σ => passAt tk σ) (am_cons (pm_var 0 (pv 0)) am_nil))) am_nil)))))
      sm_nil)
      (sm_one (sm_ret (pm_tup (am_cons pm_str (am_cons (pm_ix ix_seq s_ix (pm_var 2 (pv 2)) (pm_call fn_len_12 (pe_callS IH.f12 hr rfl T.m12 T.F12.kp T.b12 (fun σ => passAt tk σ) (am_cons (pm_var 0 (pv 0)) (am_cons (pm_cb s_len (pe_callB call_lenA (by rfl) T.z_len PySem.boot_len (am_cons (pm_var 2 (pv 2)) am_nil))) am_nil))))) am_nil))))))
      sm_nil)
      (sm_cons (sm_set (pm_call fn_len_12 (pe_callS IH.f12 hr rfl T.m12 T.F12.kp T.b12 (fun σ => passAt tk σ) (am_cons (pm_var 0 (pv 0)) (am_cons pm_int am_nil)))) (fun h => ps_set (i := 3) sc_17.nd rfl (Or.inl rfl) h))
      (sm_cons (sm_if (tm_cmp op_eq s_eq (pm_var 3 (pv 3)) pm_int (nomark _))
      (sm_one (sm_ret (pm_tup (am_cons pm_str (am_cons (pm_call fn_len_17 (pe_callS IH.f17 hr rfl T.m17 T.F17.kp T.b17 (fun σ => passAt tk σ) (am_cons (pm_var 0 (pv 0)) (am_cons (pm_op op_sub s_sub (pm_var 1 (pv 1)) pm_int) (am_cons (pm_var 2 (pv 2)) am_nil))))) am_nil)))))
      sm_nil)
      (sm_cons (sm_if (tm_cmp op_gt s_gt (pm_var 3 (pv 3)) pm_int (nomark _))
      (sm_cons (sm_set (pm_ix ix_seq s_ix (pm_lst (am_cons pm_str (am_cons pm_str am_nil))) (pm_op op_sub s_sub (pm_var 3 (pv 3)) pm_int)) (fun h => ps_set (i := 6) sc_17.nd rfl (Or.inl rfl) h))
      (sm_one (sm_ret (pm_tup (am_cons (pm_var 6 (pv 6)) (am_cons (pm_call fn_len_17 (pe_callS IH.f17 hr rfl T.m17 T.F17.kp T.b17 (fun σ => passAt tk σ) (am_cons (pm_var 0 (pv 0)) (am_cons (pm_op op_sub s_sub (pm_var 1 (pv 1)) pm_int) (am_cons (pm_var 2 (pv 2)) am_nil))))) (am_cons (pm_cb s_max2 (pe_callB (call_max2 rfl) (by rfl) T.z_max PyProof.Rows.boot_max (am_cons pm_int (am_cons (pm_call fn_len_14 (pe_callS IH.f14 hr rfl T.m14 T.F14.kp T.b14 (fun σ => passAt tk σ) (am_cons (pm_var 0 (pv 0)) am_nil))) am_nil)))) am_nil)))))))
      sm_nil)
      (sm_cons (sm_set (pm_call fn_len_12 (pe_callS IH.f12 hr rfl T.m12 T.F12.kp T.b12 (fun σ => passAt tk σ) (am_cons (pm_var 0 (pv 0)) (am_cons (pm_var 1 (pv 1)) am_nil)))) (fun h => ps_set (i := 4) sc_17.nd rfl (Or.inl rfl) h))
      (sm_cons (sm_set (pm_call fn_len_17 (pe_callS IH.f17 hr rfl T.m17 T.F17.kp T.b17 (fun σ => passAt tk σ) (am_cons (pm_var 0 (pv 0)) (am_cons (pm_var 4 (pv 4)) (am_cons (pm_var 2 (pv 2)) am_nil))))) (fun h => ps_set (i := 5) sc_17.nd rfl (Or.inl rfl) h))
      (sm_cons (sm_set (pm_ix ix_seq s_ix (pm_lst (am_cons pm_str (am_cons pm_str (am_cons pm_str (am_cons pm_str (am_cons pm_str am_nil)))))) (pm_var 3 (pv 3))) (fun h => ps_set (i := 6) sc_17.nd rfl (Or.inl rfl) h))
      (sm_one (sm_ret (pm_tup (am_cons (pm_var 6 (pv 6)) (am_cons (pm_var 5 (pv 5)) (am_cons (pm_call fn_len_17 (pe_callS IH.f17 hr rfl T.m17 T.F17.kp T.b17 (fun σ => passAt tk σ) (am_cons (pm_var 0 (pv 0)) (am_cons (pm_op op_sub s_sub (pm_op op_sub s_sub (pm_var 1 (pv 1)) pm_int) (pm_var 4 (pv 4))) (am_cons (pm_var 2 (pv 2)) am_nil))))) am_nil)))))))))))))
theorem d_18 (T : Txt G.K w mg G.cad ad fd) (IH : All G M P w mg base ad fd k) : FnOk P w G.K mg base (L2.CX P w) (2 * k + 2 + 1 + 1) (ad 18) (fd 18) ["source", "size", "names"] (spF G 3 (fn M (k + 1) 18)) := by
  refine fn_okF (N := N_18) (m := b_18 (fn M k) M) T.F18 sc_18 fun cdv A outer s H E hr2 => ?_
  have hr := hr2.mono (Nat.le_succ (2 * k + 2))
  have tk : Takes (cxOf (L2.CX P w) P w G.K mg base N_18 "_law_comparison" (defScope (top 24)) (ad 18) cdv A outer s H E) (fun c d _ H => E c d H) := takes_of rfl rfl rfl rfl
  exact (sm_cons (sm_set (pm_ix ix_seq s_ix (pm_lst (am_cons pm_str (am_cons pm_str (am_cons pm_str am_nil)))) (pm_call fn_len_12 (pe_callS IH.f12 hr rfl T.m12 T.F12.kp T.b12 (fun σ => passAt tk σ) (am_cons (pm_var 0 (pv 0)) (am_cons pm_int am_nil))))) (fun h => ps_set (i := 3) sc_18.nd rfl (Or.inl rfl) h))
      (sm_cons (sm_set (pm_call fn_len_12 (pe_callS IH.f12 hr rfl T.m12 T.F12.kp T.b12 (fun σ => passAt tk σ) (am_cons (pm_var 0 (pv 0)) (am_cons (pm_op op_plus s_plus (pm_var 1 (pv 1)) pm_int) am_nil)))) (fun h => ps_set (i := 4) sc_18.nd rfl (Or.inl rfl) h))
      (sm_cons (sm_set (pm_call fn_len_17 (pe_callS IH.f17 hr rfl T.m17 T.F17.kp T.b17 (fun σ => passAt tk σ) (am_cons (pm_var 0 (pv 0)) (am_cons (pm_var 4 (pv 4)) (am_cons (pm_var 2 (pv 2)) am_nil))))) (fun h => ps_set (i := 5) sc_18.nd rfl (Or.inl rfl) h))
      (sm_one (sm_ret (pm_tup (am_cons (pm_var 3 (pv 3)) (am_cons (pm_var 5 (pv 5)) (am_cons (pm_call fn_len_17 (pe_callS IH.f17 hr rfl T.m17 T.F17.kp T.b17 (fun σ => passAt tk σ) (am_cons (pm_var 0 (pv 0)) (am_cons (pm_op op_sub s_sub (pm_var 1 (pv 1)) (pm_var 4 (pv 4))) (am_cons (pm_var 2 (pv 2)) am_nil))))) am_nil)))))))))
theorem d_19 (T : Txt G.K w mg G.cad ad fd) (IH : All G M P w mg base ad fd k) : FnOk P w G.K mg base (L2.CX P w) (2 * k + 2 + 1 + 1) (ad 19) (fd 19) ["source", "size", "names"] (spF G 3 (fn M (k + 1) 19)) := by
  refine fn_okF (N := N_19) (m := b_19 (fn M k) M) T.F19 sc_19 fun cdv A outer s H E hr2 => ?_
  have hr := hr2.mono (Nat.le_succ (2 * k + 2))
  have tk : Takes (cxOf (L2.CX P w) P w G.K mg base N_19 "_law_condition" (defScope (top 25)) (ad 19) cdv A outer s H E) (fun c d _ H => E c d H) := takes_of rfl rfl rfl rfl
  exact (sm_cons (sm_if (tm_cmp op_eq s_eq (pm_var 1 (pv 1)) pm_int (nomark _))
      (sm_one (sm_ret (pm_tup (am_cons (pm_ix ix_seq s_ix (pm_lst (am_cons pm_str (am_cons pm_str am_nil))) (pm_call fn_len_12 (pe_callS IH.f12 hr rfl T.m12 T.F12.kp T.b12 (fun σ => passAt tk σ) (am_cons (pm_var 0 (pv 0)) (am_cons pm_int am_nil))))) am_nil))))
      sm_nil)
      (sm_cons (sm_set (pm_call fn_len_12 (pe_callS IH.f12 hr rfl T.m12 T.F12.kp T.b12 (fun σ => passAt tk σ) (am_cons (pm_var 0 (pv 0)) (am_cons pm_int am_nil)))) (fun h => ps_set (i := 3) sc_19.nd rfl (Or.inl rfl) h))
      (sm_cons (sm_if (tm_cmp op_lt s_lt (pm_var 3 (pv 3)) pm_int (nomark _))
      (sm_one (sm_ret (pm_call fn_len_18 (pe_callS IH.f18 hr rfl T.m18 T.F18.kp T.b18 (fun σ => passAt tk σ) (am_cons (pm_var 0 (pv 0)) (am_cons (pm_op op_sub s_sub (pm_var 1 (pv 1)) pm_int) (am_cons (pm_var 2 (pv 2)) am_nil)))))))
      sm_nil)
      (sm_cons (sm_if (tm_cmp op_eq s_eq (pm_var 3 (pv 3)) pm_int (nomark _))
      (sm_one (sm_ret (pm_tup (am_cons pm_str (am_cons (pm_call fn_len_19 (pe_callS IH.f19 hr rfl T.m19 T.F19.kp T.b19 (fun σ => passAt tk σ) (am_cons (pm_var 0 (pv 0)) (am_cons (pm_op op_sub s_sub (pm_var 1 (pv 1)) pm_int) (am_cons (pm_var 2 (pv 2)) am_nil))))) am_nil)))))
      sm_nil)
      (sm_cons (sm_set (pm_call fn_len_12 (pe_callS IH.f12 hr rfl T.m12 T.F12.kp T.b12 (fun σ => passAt tk σ) (am_cons (pm_var 0 (pv 0)) (am_cons (pm_var 1 (pv 1)) am_nil)))) (fun h => ps_set (i := 4) sc_19.nd rfl (Or.inl rfl) h))
      (sm_cons (sm_set (pm_call fn_len_19 (pe_callS IH.f19 hr rfl T.m19 T.F19.kp T.b19 (fun σ => passAt tk σ) (am_cons (pm_var 0 (pv 0)) (am_cons (pm_var 4 (pv 4)) (am_cons (pm_var 2 (pv 2)) am_nil))))) (fun h => ps_set (i := 5) sc_19.nd rfl (Or.inl rfl) h))
      (sm_cons (sm_set (pm_ix ix_seq s_ix (pm_lst (am_cons pm_str (am_cons pm_str (am_cons pm_str (am_cons pm_str am_nil))))) (pm_op op_sub s_sub (pm_var 3 (pv 3)) pm_int)) (fun h => ps_set (i := 6) sc_19.nd rfl (Or.inl rfl) h))
      (sm_one (sm_ret (pm_tup (am_cons (pm_var 6 (pv 6)) (am_cons (pm_var 5 (pv 5)) (am_cons (pm_call fn_len_19 (pe_callS IH.f19 hr rfl T.m19 T.F19.kp T.b19 (fun σ => passAt tk σ) (am_cons (pm_var 0 (pv 0)) (am_cons (pm_op op_sub s_sub (pm_op op_sub s_sub (pm_var 1 (pv 1)) pm_int) (pm_var 4 (pv 4))) (am_cons (pm_var 2 (pv 2)) am_nil))))) am_nil)))))))))))))
theorem d_20 (T : Txt G.K w mg G.cad ad fd) (IH : All G M P w mg base ad fd k) : FnOk P w G.K mg base (L2.CX P w) (2 * k + 2 + 1 + 1) (ad 20) (fd 20) ["source", "tree", "is_term"] (spF G 3 (fn M (k + 1) 20)) := by
  refine fn_okF (N := N_20) (m := b_20 (fn M k) M) T.F20 sc_20 fun cdv A outer s H E hr2 => ?_
  have hr := hr2.mono (Nat.le_succ (2 * k + 2))
  have tk : Takes (cxOf (L2.CX P w) P w G.K mg base N_20 "_law_higher" (defScope (top 26)) (ad 20) cdv A outer s H E) (fun c d _ H => E c d H) := takes_of rfl rfl rfl rfl
  exact (sm_cons (sm_for (ps_for (passes_of rfl) rfl (im_r1 (pi_range1 rfl T.z_range (am_cons (pm_op op_plus s_plus pm_int (pm_call fn_len_12 (pe_callS IH.f12 hr rfl T.m12 T.F12.kp T.b12 (fun σ => passAt tk σ) (am_cons (pm_var 0 (pv 0)) (am_cons pm_int am_nil))))) am_nil))) (gm_name (pg_name (i := 3) sc_20.nd rfl (Or.inl rfl)))
      (sm_cons (sm_set (pm_call fn_len_12 (pe_callS IH.f12 hr rfl T.m12 T.F12.kp T.b12 (fun σ => passAt tk σ) (am_cons (pm_var 0 (pv 0)) (am_cons pm_int am_nil)))) (fun h => ps_set (i := 4) sc_20.nd rfl (Or.inl rfl) h))
      (sm_one (sm_if (tm_bool (wm_and (tm_val (pm_var 2 (pv 2))) (wm_and1 (tm_cmp op_eq s_eq (pm_var 4 (pv 4)) pm_int (nomark _)))))
      (sm_one (sm_set (pm_tup (am_cons pm_str (am_cons (pm_var 1 (pv 1)) am_nil))) (fun h => ps_set (i := 1) sc_20.nd rfl (Or.inl rfl) h)))
      (sm_one (sm_if (tm_bool (wm_and (tm_val (pm_var 2 (pv 2))) (wm_and1 (tm_cmp op_eq s_eq (pm_var 4 (pv 4)) pm_int (nomark _)))))
      (sm_one (sm_set (pm_tup (am_cons pm_str (am_cons (pm_tup (am_cons pm_str (am_cons (pm_call fn_len_12 (pe_callS IH.f12 hr rfl T.m12 T.F12.kp T.b12 (fun σ => passAt tk σ) (am_cons (pm_var 0 (pv 0)) (am_cons pm_int am_nil)))) am_nil))) (am_cons (pm_var 1 (pv 1)) am_nil)))) (fun h => ps_set (i := 1) sc_20.nd rfl (Or.inl rfl) h)))
      (sm_one (sm_if (tm_val (pm_var 2 (pv 2)))
      (sm_one (sm_set (pm_tup (am_cons pm_str (am_cons (pm_var 1 (pv 1)) (am_cons (pm_tup (am_cons pm_str (am_cons (pm_call fn_len_14 (pe_callS IH.f14 hr rfl T.m14 T.F14.kp T.b14 (fun σ => passAt tk σ) (am_cons (pm_var 0 (pv 0)) am_nil))) am_nil))) am_nil)))) (fun h => ps_set (i := 1) sc_20.nd rfl (Or.inl rfl) h)))
      (sm_one (sm_if (tm_cmp op_eq s_eq (pm_var 4 (pv 4)) pm_int (nomark _))
      (sm_one (sm_set (pm_tup (am_cons pm_str (am_cons (pm_var 1 (pv 1)) am_nil))) (fun h => ps_set (i := 1) sc_20.nd rfl (Or.inl rfl) h)))
      (sm_one (sm_if (tm_cmp op_eq s_eq (pm_var 4 (pv 4)) pm_int (nomark _))
      (sm_one (sm_set (pm_tup (am_cons pm_str (am_cons (pm_tup (am_cons pm_str am_nil)) (am_cons (pm_var 1 (pv 1)) am_nil)))) (fun h => ps_set (i := 1) sc_20.nd rfl (Or.inl rfl) h)))
      (sm_one (sm_set (pm_tup (am_cons pm_str (am_cons (pm_var 1 (pv 1)) (am_cons (pm_tup (am_cons pm_str (am_cons (pm_tup (am_cons pm_str (am_cons pm_int am_nil))) (am_cons (pm_tup (am_cons pm_str (am_cons (pm_call fn_len_12 (pe_callS IH.f12 hr rfl T.m12 T.F12.kp T.b12 (fun σ => passAt tk σ) (am_cons (pm_var 0 (pv 0)) (am_cons pm_int am_nil)))) am_nil))) am_nil)))) am_nil)))) (fun h => ps_set (i := 1) sc_20.nd rfl (Or.inl rfl) h))))))))))))))))
      (sm_one (sm_ret (pm_var 1 (pv 1)))))
theorem d_21 (T : Txt G.K w mg G.cad ad fd) (IH : All G M P w mg base ad fd k) : FnOk P w G.K mg base (L2.CX P w) (2 * k + 2 + 1 + 1) (ad 21) (fd 21) ["tree", "found"] (spF G 2 (fn M (k + 1) 21)) := by
  refine fn_okF (N := N_21) (m := b_21 (fn M k) M) T.F21 sc_21 fun cdv A outer s H E hr2 => ?_
  have hr := hr2.mono (Nat.le_succ (2 * k + 2))
  have tk : Takes (cxOf (L2.CX P w) P w G.K mg base N_21 "_law_gather" (defScope (top 27)) (ad 21) cdv A outer s H E) (fun c d _ H => E c d H) := takes_of rfl rfl rfl rfl
  exact (sm_one (sm_if (tm_cmp op_eq s_eq (pm_ix ix_seq s_ix (pm_var 0 (pv 0)) pm_int) pm_str (nomark _))
      (sm_one (sm_if (tm_cmp (op_ninDD (units65 hr)) s_inDD (pm_ix ix_seq s_ix (pm_var 0 (pv 0)) pm_int) (pm_var 1 (pv 1)))
      (sm_one (sm_expr (pm_mt s_app (pe_bm PySem.F.plainAttrs_list PySem.F.slot_list_append PySem.F.type_list_append mt_append (pm_var 1 (pv 1)) (am_cons (pm_ix ix_seq s_ix (pm_var 0 (pv 0)) pm_int) am_nil)))))
      sm_nil))
      (sm_one (sm_for (ps_for (passes_of rfl) rfl (im_seq rfl (pm_slice sl_any s_sl (pm_var 0 (pv 0)) (om_some pm_int) om_none)) (gm_name (pg_name (i := 2) sc_21.nd rfl (Or.inl rfl)))
      (sm_one (sm_if (tm_val (pm_isi rfl (pe_callB call_isi (by rfl) T.z_isinstance PyProof.Rows.boot_isinstance (pa_cons (pm_var 2 (pv 2)) (pa_cons (pe_bltn (by rfl) T.z_tuple PyProof.Rows.boot_tuple rfl) pa_nil)))))
      (sm_one (sm_expr (pm_call fn_len_21 (pe_callS IH.f21 hr rfl T.m21 T.F21.kp T.b21 (fun σ => passAt tk σ) (am_cons (pm_var 2 (pv 2)) (am_cons (pm_var 1 (pv 1)) am_nil))))))
      sm_nil)))))))
theorem d_22 (T : Txt G.K w mg G.cad ad fd) (IH : All G M P w mg base ad fd k) : FnOk P w G.K mg base (L2.CX P w) (2 * k + 2 + 1 + 1) (ad 22) (fd 22) ["term", "values"] (spF G 2 (fn M (k + 1) 22)) := by
  refine fn_okF (N := N_22) (m := b_22 (fn M k) M) T.F22 sc_22 fun cdv A outer s H E hr2 => ?_
  have hr := hr2.mono (Nat.le_succ (2 * k + 2))
  have tk : Takes (cxOf (L2.CX P w) P w G.K mg base N_22 "_law_value" (defScope (top 28)) (ad 22) cdv A outer s H E) (fun c d _ H => E c d H) := takes_of rfl rfl rfl rfl
  exact (sm_cons (sm_set (pm_ix ix_seq s_ix (pm_var 0 (pv 0)) pm_int) (fun h => ps_set (i := 2) sc_22.nd rfl (Or.inl rfl) h))
      (sm_cons (sm_if (tm_cmp op_eq s_eq (pm_var 2 (pv 2)) pm_str (nomark _))
      (sm_one (sm_ret (pm_ix ix_seq s_ix (pm_var 0 (pv 0)) pm_int)))
      sm_nil)
      (sm_cons (sm_if (tm_cmp op_eq s_eq (pm_var 2 (pv 2)) pm_str (nomark _))
      (sm_one (sm_ret (pm_dget (un1 hr) (pm_var 1 (pv 1)) (pm_ix ix_seq s_ix (pm_var 0 (pv 0)) pm_int) (fun _ _ => rfl))))
      sm_nil)
      (sm_cons (sm_set (pm_call fn_len_22 (pe_callS IH.f22 hr rfl T.m22 T.F22.kp T.b22 (fun σ => passAt tk σ) (am_cons (pm_ix ix_seq s_ix (pm_var 0 (pv 0)) pm_int) (am_cons (pm_var 1 (pv 1)) am_nil)))) (fun h => ps_set (i := 3) sc_22.nd rfl (Or.inl rfl) h))
      (sm_cons (sm_if (tm_cmp op_eq s_eq (pm_var 2 (pv 2)) pm_str (nomark _))
      (sm_one (sm_ret (pm_un un_neg s_neg (pm_var 3 (pv 3)))))
      sm_nil)
      (sm_cons (sm_if (tm_cmp op_eq s_eq (pm_var 2 (pv 2)) pm_str (nomark _))
      (sm_one (sm_ret (pm_op op_fdivW s_fdivW (pm_var 3 (pv 3)) (pm_ix ix_seq s_ix (pm_var 0 (pv 0)) pm_int))))
      sm_nil)
      (sm_cons (sm_if (tm_cmp op_eq s_eq (pm_var 2 (pv 2)) pm_str (nomark _))
      (sm_one (sm_ret (pm_op op_sub s_sub (pm_var 3 (pv 3)) (pm_op op_mulX s_mulX (pm_op op_fdivW s_fdivW (pm_var 3 (pv 3)) (pm_ix ix_seq s_ix (pm_var 0 (pv 0)) pm_int)) (pm_ix ix_seq s_ix (pm_var 0 (pv 0)) pm_int)))))
      sm_nil)
      (sm_cons (sm_set (pm_call fn_len_22 (pe_callS IH.f22 hr rfl T.m22 T.F22.kp T.b22 (fun σ => passAt tk σ) (am_cons (pm_ix ix_seq s_ix (pm_var 0 (pv 0)) pm_int) (am_cons (pm_var 1 (pv 1)) am_nil)))) (fun h => ps_set (i := 4) sc_22.nd rfl (Or.inl rfl) h))
      (sm_cons (sm_if (tm_cmp op_eq s_eq (pm_var 2 (pv 2)) pm_str (nomark _))
      (sm_one (sm_ret (pm_op op_plus s_plus (pm_var 3 (pv 3)) (pm_var 4 (pv 4)))))
      sm_nil)
      (sm_cons (sm_if (tm_cmp op_eq s_eq (pm_var 2 (pv 2)) pm_str (nomark _))
      (sm_one (sm_ret (pm_op op_sub s_sub (pm_var 3 (pv 3)) (pm_var 4 (pv 4)))))
      sm_nil)
      (sm_cons (sm_if (tm_cmp op_eq s_eq (pm_var 2 (pv 2)) pm_str (nomark _))
      (sm_one (sm_ret (pm_op op_mulX s_mulX (pm_var 3 (pv 3)) (pm_var 4 (pv 4)))))
      sm_nil)
      (sm_cons (sm_if (tm_cmp (op_eqA (units150 hr)) s_eqA (pm_cmp op_eq s_eq (pm_var 2 (pv 2)) pm_str (nomark _)) (pm_cmp op_lt s_lt (pm_var 3 (pv 3)) (pm_var 4 (pv 4)) (nomark _)) (nomark _))
      (sm_one (sm_ret (pm_var 3 (pv 3))))
      sm_nil)
      (sm_one (sm_ret (pm_var 4 (pv 4))))))))))))))))
theorem d_23 (T : Txt G.K w mg G.cad ad fd) (IH : All G M P w mg base ad fd k) : FnOk P w G.K mg base (L2.CX P w) (2 * k + 2 + 1 + 1) (ad 23) (fd 23) ["condition", "values"] (spF G 2 (fn M (k + 1) 23)) := by
  refine fn_okF (N := N_23) (m := b_23 (fn M k) M) T.F23 sc_23 fun cdv A outer s H E hr2 => ?_
  have hr := hr2.mono (Nat.le_succ (2 * k + 2))
  have tk : Takes (cxOf (L2.CX P w) P w G.K mg base N_23 "_law_truth" (defScope (top 29)) (ad 23) cdv A outer s H E) (fun c d _ H => E c d H) := takes_of rfl rfl rfl rfl
  exact (sm_cons (sm_set (pm_ix ix_seq s_ix (pm_var 0 (pv 0)) pm_int) (fun h => ps_set (i := 2) sc_23.nd rfl (Or.inl rfl) h))
      (sm_cons (sm_if (tm_bool (wm_or (tm_cmp op_eq s_eq (pm_var 2 (pv 2)) pm_str (nomark _)) (wm_or1 (tm_cmp op_eq s_eq (pm_var 2 (pv 2)) pm_str (nomark _)))))
      (sm_one (sm_ret (pm_cmp op_eq s_eq (pm_var 2 (pv 2)) pm_str (nomark _))))
      sm_nil)
      (sm_cons (sm_if (tm_cmp (op_inDD (units65 hr)) s_inDD (pm_var 2 (pv 2)) (pm_lst (am_cons pm_str (am_cons pm_str (am_cons pm_str am_nil)))))
      (sm_cons (sm_set (pm_call fn_len_22 (pe_callS IH.f22 hr rfl T.m22 T.F22.kp T.b22 (fun σ => passAt tk σ) (am_cons (pm_ix ix_seq s_ix (pm_var 0 (pv 0)) pm_int) (am_cons (pm_var 1 (pv 1)) am_nil)))) (fun h => ps_set (i := 3) sc_23.nd rfl (Or.inl rfl) h))
      (sm_cons (sm_set (pm_call fn_len_22 (pe_callS IH.f22 hr rfl T.m22 T.F22.kp T.b22 (fun σ => passAt tk σ) (am_cons (pm_ix ix_seq s_ix (pm_var 0 (pv 0)) pm_int) (am_cons (pm_var 1 (pv 1)) am_nil)))) (fun h => ps_set (i := 4) sc_23.nd rfl (Or.inl rfl) h))
      (sm_cons (sm_if (tm_cmp op_eq s_eq (pm_var 2 (pv 2)) pm_str (nomark _))
      (sm_one (sm_ret (pm_cmp (op_eqA (units150 hr)) s_eqA (pm_var 3 (pv 3)) (pm_var 4 (pv 4)) (nomark _))))
      sm_nil)
      (sm_one (sm_ret (pm_or (pm_cmp op_lt s_lt (pm_var 3 (pv 3)) (pm_var 4 (pv 4)) (nomark _)) (pm_one (pm_and (pm_cmp op_eq s_eq (pm_var 2 (pv 2)) pm_str (nomark _)) (pm_one (pm_cmp (op_eqA (units150 hr)) s_eqA (pm_var 3 (pv 3)) (pm_var 4 (pv 4)) (nomark _)))))))))))
      sm_nil)
      (sm_cons (sm_set (pm_call fn_len_23 (pe_callS IH.f23 hr rfl T.m23 T.F23.kp T.b23 (fun σ => passAt tk σ) (am_cons (pm_ix ix_seq s_ix (pm_var 0 (pv 0)) pm_int) (am_cons (pm_var 1 (pv 1)) am_nil)))) (fun h => ps_set (i := 3) sc_23.nd rfl (Or.inl rfl) h))
      (sm_cons (sm_if (tm_cmp op_eq s_eq (pm_var 2 (pv 2)) pm_str (nomark _))
      (sm_one (sm_ret (pm_not (pm_var 3 (pv 3)))))
      sm_nil)
      (sm_cons (sm_set (pm_call fn_len_23 (pe_callS IH.f23 hr rfl T.m23 T.F23.kp T.b23 (fun σ => passAt tk σ) (am_cons (pm_ix ix_seq s_ix (pm_var 0 (pv 0)) pm_int) (am_cons (pm_var 1 (pv 1)) am_nil)))) (fun h => ps_set (i := 4) sc_23.nd rfl (Or.inl rfl) h))
      (sm_cons (sm_if (tm_cmp op_eq s_eq (pm_var 2 (pv 2)) pm_str (nomark _))
      (sm_one (sm_ret (pm_and (pm_var 3 (pv 3)) (pm_one (pm_var 4 (pv 4))))))
      sm_nil)
      (sm_cons (sm_if (tm_cmp op_eq s_eq (pm_var 2 (pv 2)) pm_str (nomark _))
      (sm_one (sm_ret (pm_or (pm_var 3 (pv 3)) (pm_one (pm_var 4 (pv 4))))))
      sm_nil)
      (sm_cons (sm_if (tm_cmp op_eq s_eq (pm_var 2 (pv 2)) pm_str (nomark _))
      (sm_one (sm_ret (pm_or (pm_var 4 (pv 4)) (pm_one (pm_not (pm_var 3 (pv 3)))))))
      sm_nil)
      (sm_one (sm_ret (pm_cmp (op_eqA (units150 hr)) s_eqA (pm_var 3 (pv 3)) (pm_var 4 (pv 4)) (nomark _)))))))))))))
theorem d_24 (T : Txt G.K w mg G.cad ad fd) (IH : All G M P w mg base ad fd k) : FnOk P w G.K mg base (L2.CX P w) (2 * k + 2 + 1 + 1) (ad 24) (fd 24) ["tree", "is_term", "values"] (spF G 3 (fn M (k + 1) 24)) := by
  refine fn_okF (N := N_24) (m := b_24 (fn M k) M) T.F24 sc_24 fun cdv A outer s H E hr2 => ?_
  have hr := hr2.mono (Nat.le_succ (2 * k + 2))
  have tk : Takes (cxOf (L2.CX P w) P w G.K mg base N_24 "_law_answer" (defScope (top 30)) (ad 24) cdv A outer s H E) (fun c d _ H => E c d H) := takes_of rfl rfl rfl rfl
  exact (sm_one (sm_try rfl rfl sc_24.nd rfl rfl ⟨by rfl, rfl, .inl T.og_51⟩ tk (cfOne_ok T.ex_51_UnknownName) (fun W2 pn xe tk2 po => (sm_cons (sm_if (tm_val (pm_var 1 (pv 1)))
      (sm_one (sm_ret (pm_tup (am_cons pm_str (am_cons (pm_call fn_len_3 (pe_callS IH.f3 hr rfl T.m3 T.F3.kp T.b3 (fun σ => passAt tk2 σ) (am_cons (pm_var 0 (pv 0)) (am_cons (pm_var 2 (pv 2)) am_nil)))) am_nil)))))
      sm_nil)
      (sm_one (sm_ret (pm_tup (am_cons pm_str (am_cons (pm_call fn_len_4 (pe_callS IH.f4 hr rfl T.m4 T.F4.kp T.b4 (fun σ => passAt tk2 σ) (am_cons (pm_var 0 (pv 0)) (am_cons (pm_var 2 (pv 2)) am_nil)))) am_nil))))))) (fun a oe cls d pn hz hf => (qs_cons (qs_if (q_bool (qw_or (q_not (q_val (q_isx (cv := .ref (G.cad 50)) (u := .ref (G.cad 50)) T.ec_51 T.ek_51 hz hf (fun _ r => r) T.ki_51_LassoError (by rfl) T.z_isinstance (pv 3) (pe_glob (v := .ref (G.cad 50)) (by rfl) T.og_50 rfl)))) (qw_or (q_not (q_val (q_isx (cv := .ty "ValueError") (u := .type "ValueError") T.ec_51 T.ek_51 hz hf (fun _ r => r) T.ki_51_ValueError (by rfl) T.z_isinstance (pv 3) (pe_bltn (v := .ty "ValueError") (by rfl) T.z_ValueError PyProof.Rows.Boot.ValueError rfl)))) (qw_or1 (q_not (q_val (q_isi rfl (pe_callB call_isi (by rfl) T.z_isinstance PyProof.Rows.boot_isinstance (pa_cons (q_fld T.xf_51 T.on_51 hz hf (pv 3)) (pa_cons (pe_bltn (by rfl) T.z_str PyProof.Rows.boot_str rfl) pa_nil)))))))))) (qs_one (qs_ret (q_tup (qa_cons (q_lift (dv := (.str "wrong")) (m := (mC (.str "wrong"))) pm_str fun _ _ => rfl) (qa_cons (q_lift (dv := (.int (0))) (m := (mC (.int 0))) pm_int fun _ _ => rfl) qa_nil))))) qs_nil)
      (qs_one (qs_ret (q_tup (qa_cons (q_lift (dv := (.str "unknown")) (m := (mC (.str "unknown"))) pm_str fun _ _ => rfl) (qa_cons (q_fld T.xf_51 T.on_51 hz hf (pv 3)) qa_nil)))))))))
theorem d_25 (T : Txt G.K w mg G.cad ad fd) (IH : All G M P w mg base ad fd k) : FnOk P w G.K mg base (L2.CX P w) (2 * k + 2 + 1 + 1) (ad 25) (fd 25) ["tree", "is_term", "values", "names"] (spF G 4 (fn M (k + 1) 25)) := by
  refine fn_okF (N := N_25) (m := b_25 (fn M k) M) T.F25 sc_25 fun cdv A outer s H E hr2 => ?_
  have hr := hr2.mono (Nat.le_succ (2 * k + 2))
  have tk : Takes (cxOf (L2.CX P w) P w G.K mg base N_25 "_law_due" (defScope (top 31)) (ad 25) cdv A outer s H E) (fun c d _ H => E c d H) := takes_of rfl rfl rfl rfl
  exact (sm_cons (sm_for (ps_for (passes_of rfl) rfl (im_seq rfl (pm_var 3 (pv 3))) (gm_name (pg_name (i := 4) sc_25.nd rfl (Or.inl rfl)))
      (sm_one (sm_if (tm_dnin (un1 hr) (pm_var 4 (pv 4)) (pm_var 2 (pv 2)) (by rfl))
      (sm_one (sm_ret (pm_tup (am_cons pm_str (am_cons (pm_var 4 (pv 4)) am_nil)))))
      sm_nil))))
      (sm_cons (sm_if (tm_val (pm_var 1 (pv 1)))
      (sm_one (sm_ret (pm_tup (am_cons pm_str (am_cons (pm_call fn_len_22 (pe_callS IH.f22 hr rfl T.m22 T.F22.kp T.b22 (fun σ => passAt tk σ) (am_cons (pm_var 0 (pv 0)) (am_cons (pm_var 2 (pv 2)) am_nil)))) am_nil)))))
      sm_nil)
      (sm_one (sm_ret (pm_tup (am_cons pm_str (am_cons (pm_call fn_len_23 (pe_callS IH.f23 hr rfl T.m23 T.F23.kp T.b23 (fun σ => passAt tk σ) (am_cons (pm_var 0 (pv 0)) (am_cons (pm_var 2 (pv 2)) am_nil)))) am_nil)))))))
theorem d_26 (T : Txt G.K w mg G.cad ad fd) (IH : All G M P w mg base ad fd k) : FnOk P w G.K mg base (L2.CX P w) (2 * k + 2 + 1 + 1) (ad 26) (fd 26) ["script"] (spF G 1 (fn M (k + 1) 26)) := by
  refine fn_okF (N := N_26) (m := b_26 (fn M k) M) T.F26 sc_26 fun cdv A outer s H E hr2 => ?_
  have hr := hr2.mono (Nat.le_succ (2 * k + 2))
  have tk : Takes (cxOf (L2.CX P w) P w G.K mg base N_26 "law" (defScope (top 32)) (ad 26) cdv A outer s H E) (fun c d _ H => E c d H) := takes_of rfl rfl rfl rfl
  exact (sm_cons (sm_set (pm_call fn_len_11 (pe_callS IH.f11 hr rfl T.m11 T.F11.kp T.b11 (fun σ => passAt tk σ) (am_cons (pm_var 0 (pv 0)) am_nil))) (fun h => ps_set (i := 1) sc_26.nd rfl (Or.inl rfl) h))
      (sm_cons (sm_set (pm_cmp op_eq s_eq (pm_call fn_len_12 (pe_callS IH.f12 hr rfl T.m12 T.F12.kp T.b12 (fun σ => passAt tk σ) (am_cons (pm_var 1 (pv 1)) (am_cons pm_int am_nil)))) pm_int (nomark _)) (fun h => ps_set (i := 2) sc_26.nd rfl (Or.inl rfl) h))
      (sm_cons (sm_set (pm_call fn_len_12 (pe_callS IH.f12 hr rfl T.m12 T.F12.kp T.b12 (fun σ => passAt tk σ) (am_cons (pm_var 1 (pv 1)) (am_cons pm_int am_nil)))) (fun h => ps_set (i := 3) sc_26.nd rfl (Or.inl rfl) h))
      (sm_cons (sm_set (pm_call fn_len_12 (pe_callS IH.f12 hr rfl T.m12 T.F12.kp T.b12 (fun σ => passAt tk σ) (am_cons (pm_var 1 (pv 1)) (am_cons pm_int am_nil)))) (fun h => ps_set (i := 4) sc_26.nd rfl (Or.inl rfl) h))
      (sm_cons (sm_set (pm_call fn_len_16 (pe_callS IH.f16 hr rfl T.m16 T.F16.kp T.b16 (fun σ => passAt tk σ) (am_cons (pm_var 1 (pv 1)) am_nil))) (fun h => ps_set (i := 5) sc_26.nd rfl (Or.inl rfl) h))
      (sm_cons (sm_if (tm_val (pm_var 2 (pv 2)))
      (sm_one (sm_set (pm_call fn_len_17 (pe_callS IH.f17 hr rfl T.m17 T.F17.kp T.b17 (fun σ => passAt tk σ) (am_cons (pm_var 1 (pv 1)) (am_cons (pm_var 3 (pv 3)) (am_cons (pm_var 5 (pv 5)) am_nil))))) (fun h => ps_set (i := 12) sc_26.nd rfl (Or.inl rfl) h)))
      (sm_one (sm_set (pm_call fn_len_19 (pe_callS IH.f19 hr rfl T.m19 T.F19.kp T.b19 (fun σ => passAt tk σ) (am_cons (pm_var 1 (pv 1)) (am_cons (pm_var 3 (pv 3)) (am_cons (pm_var 5 (pv 5)) am_nil))))) (fun h => ps_set (i := 12) sc_26.nd rfl (Or.inl rfl) h))))
      (sm_cons (sm_if (tm_cmp op_eq s_eq (pm_call fn_len_12 (pe_callS IH.f12 hr rfl T.m12 T.F12.kp T.b12 (fun σ => passAt tk σ) (am_cons (pm_var 1 (pv 1)) (am_cons pm_int am_nil)))) pm_int (nomark _))
      (sm_one (sm_set (pm_call fn_len_20 (pe_callS IH.f20 hr rfl T.m20 T.F20.kp T.b20 (fun σ => passAt tk σ) (am_cons (pm_var 1 (pv 1)) (am_cons (pm_var 12 (pv 12)) (am_cons (pm_var 2 (pv 2)) am_nil))))) (fun h => ps_set (i := 12) sc_26.nd rfl (Or.inl rfl) h)))
      sm_nil)
      (sm_cons (sm_set pm_dnew (fun h => ps_set (i := 6) sc_26.nd rfl (Or.inl rfl) h))
      (sm_cons (sm_for (ps_for (passes_of rfl) rfl (im_r1 (pi_range1 rfl T.z_range (am_cons (pm_cb s_len (pe_callB call_lenA (by rfl) T.z_len PySem.boot_len (am_cons (pm_var 5 (pv 5)) am_nil))) am_nil))) (gm_name (pg_name (i := 7) sc_26.nd rfl (Or.inl rfl)))
      (sm_cons (sm_set (pm_op op_times s_times (pm_call fn_len_14 (pe_callS IH.f14 hr rfl T.m14 T.F14.kp T.b14 (fun σ => passAt tk σ) (am_cons (pm_var 1 (pv 1)) am_nil))) (pm_ix ix_seq s_ix (pm_lst (am_cons pm_int (am_cons (pm_un un_neg s_neg pm_int) am_nil))) (pm_call fn_len_12 (pe_callS IH.f12 hr rfl T.m12 T.F12.kp T.b12 (fun σ => passAt tk σ) (am_cons (pm_var 1 (pv 1)) (am_cons pm_int am_nil)))))) (fun h => ps_set (i := 13) sc_26.nd rfl (Or.inl rfl) h))
      (sm_one (sm_if (tm_bool (wm_or (tm_cmp op_gt s_gt (pm_var 4 (pv 4)) pm_int (nomark _)) (wm_or1 (tm_cmp (op_neA (units150 hr)) s_neA (pm_op op_mod s_mod (pm_cb s_int1 (pe_callTy call_int1 (by rfl) T.z_int PyProof.Rows.boot_int (am_cons (pm_var 4 (pv 4)) am_nil))) (pm_cb s_len (pe_callB call_lenA (by rfl) T.z_len PySem.boot_len (am_cons (pm_var 5 (pv 5)) am_nil)))) (pm_var 7 (pv 7)) (nomark _)))))
      (sm_one (sm_dput (un1 hr) (pm_var 6 (pv 6)) (pm_ix ix_seq s_ix (pm_var 5 (pv 5)) (pm_var 7 (pv 7))) (pm_var 13 (pv 13))))
      sm_nil)))))
      (sm_cons (sm_set (pm_lst am_nil) (fun h => ps_set (i := 8) sc_26.nd rfl (Or.inl rfl) h))
      (sm_cons (sm_expr (pm_call fn_len_21 (pe_callS IH.f21 hr rfl T.m21 T.F21.kp T.b21 (fun σ => passAt tk σ) (am_cons (pm_var 12 (pv 12)) (am_cons (pm_var 8 (pv 8)) am_nil)))))
      (sm_cons (sm_set (pm_call fn_len_0 (pe_callS IH.f0 hr rfl T.m0 T.F0.kp T.b0 (fun σ => passAt tk σ) (am_cons (pm_var 12 (pv 12)) am_nil))) (fun h => ps_set (i := 9) sc_26.nd rfl (Or.inl rfl) h))
      (sm_cons (sm_if (tm_bool (wm_or (tm_not (tm_val (pm_isi rfl (pe_callB call_isi (by rfl) T.z_isinstance PyProof.Rows.boot_isinstance (pa_cons (pm_var 9 (pv 9)) (pa_cons (pe_bltn (by rfl) T.z_list PyProof.Rows.boot_list rfl) pa_nil)))))) (wm_or1 (tm_cmp (op_neA (units150 hr)) s_neA (pm_var 9 (pv 9)) (pm_var 8 (pv 8)) (nomark _)))))
      (sm_one (sm_ret pm_bl))
      sm_nil)
      (sm_cons (sm_set (pm_cb s_dcp (pe_callTy call_dictD (by rfl) T.z_dict PyProof.Rows.boot_dict (am_cons (pm_var 6 (pv 6)) am_nil))) (fun h => ps_set (i := 10) sc_26.nd rfl (Or.inl rfl) h))
      (sm_cons (sm_set (pm_call fn_len_24 (pe_callS IH.f24 hr rfl T.m24 T.F24.kp T.b24 (fun σ => passAt tk σ) (am_cons (pm_var 12 (pv 12)) (am_cons (pm_var 2 (pv 2)) (am_cons (pm_var 10 (pv 10)) am_nil))))) (fun h => ps_set (i := 11) sc_26.nd rfl (Or.inl rfl) h))
      (sm_cons (sm_if (tm_cmp (op_neDc (units150 hr)) s_eqDc (pm_var 10 (pv 10)) (pm_var 6 (pv 6)) (nomark _))
      (sm_one (sm_ret pm_bl))
      sm_nil)
      (sm_cons (sm_if (tm_bool (wm_and (tm_cmp op_eq s_eq (pm_ix ix_seq s_ix (pm_var 11 (pv 11)) pm_int) pm_str (nomark _)) (wm_and (tm_val (pm_var 2 (pv 2))) (wm_and1 (tm_not (tm_val (pm_call fn_len_10 (pe_callS IH.f10 hr rfl T.m10 T.F10.kp T.b10 (fun σ => passAt tk σ) (am_cons (pm_ix ix_seq s_ix (pm_var 11 (pv 11)) pm_int) am_nil)))))))))
      (sm_one (sm_ret pm_bl))
      sm_nil)
      (sm_cons (sm_if (tm_bool (wm_and (tm_cmp op_eq s_eq (pm_ix ix_seq s_ix (pm_var 11 (pv 11)) pm_int) pm_str (nomark _)) (wm_and (tm_not (tm_val (pm_var 2 (pv 2)))) (wm_and1 (tm_not (tm_val (pm_isi rfl (pe_callB call_isi (by rfl) T.z_isinstance PyProof.Rows.boot_isinstance (pa_cons (pm_ix ix_seq s_ix (pm_var 11 (pv 11)) pm_int) (pa_cons (pe_bltn (by rfl) T.z_bool PyProof.Rows.boot_bool rfl) pa_nil))))))))))
      (sm_one (sm_ret pm_bl))
      sm_nil)
      (sm_one (sm_ret (pm_cmp (op_eqA (units150 hr)) s_eqA (pm_var 11 (pv 11)) (pm_call fn_len_25 (pe_callS IH.f25 hr rfl T.m25 T.F25.kp T.b25 (fun σ => passAt tk σ) (am_cons (pm_var 12 (pv 12)) (am_cons (pm_var 2 (pv 2)) (am_cons (pm_var 6 (pv 6)) (am_cons (pm_var 8 (pv 8)) am_nil)))))) (nomark _))))))))))))))))))))))
theorem all (T : Txt G.K w mg G.cad ad fd) : ∀ k, All G M P w mg base ad fd k
  | 0 => ⟨(fn_zero fun _ _ => rfl).mono (by omega), (fn_zero fun _ _ => rfl).mono (by omega), (fn_zero fun _ _ => rfl).mono (by omega), (fn_zero fun _ _ => rfl).mono (by omega), (fn_zero fun _ _ => rfl).mono (by omega), (fn_zero fun _ _ => rfl).mono (by omega), (fn_zero fun _ _ => rfl).mono (by omega), (fn_zero fun _ _ => rfl).mono (by omega), (fn_zero fun _ _ => rfl).mono (by omega), (fn_zero fun _ _ => rfl).mono (by omega), (fn_zero fun _ _ => rfl).mono (by omega), (fn_zero fun _ _ => rfl).mono (by omega), (fn_zero fun _ _ => rfl).mono (by omega), (fn_zero fun _ _ => rfl).mono (by omega), (fn_zero fun _ _ => rfl).mono (by omega), (fn_zero fun _ _ => rfl).mono (by omega), (fn_zero fun _ _ => rfl).mono (by omega), (fn_zero fun _ _ => rfl).mono (by omega), (fn_zero fun _ _ => rfl).mono (by omega), (fn_zero fun _ _ => rfl).mono (by omega), (fn_zero fun _ _ => rfl).mono (by omega), (fn_zero fun _ _ => rfl).mono (by omega), (fn_zero fun _ _ => rfl).mono (by omega), (fn_zero fun _ _ => rfl).mono (by omega), (fn_zero fun _ _ => rfl).mono (by omega), (fn_zero fun _ _ => rfl).mono (by omega), (fn_zero fun _ _ => rfl).mono (by omega)⟩
  | k + 1 => have IH := all T k; ⟨d_0 T IH, d_1 T IH, d_2 T IH, d_3 T IH, d_4 T IH, d_5 T IH, d_6 T IH, d_7 T IH, d_8 T IH, d_9 T IH, d_10 T IH, d_11 T IH, d_12 T IH, d_13 T IH, d_14 T IH, d_15 T IH, d_16 T IH, d_17 T IH, d_18 T IH, d_19 T IH, d_20 T IH, d_21 T IH, d_22 T IH, d_23 T IH, d_24 T IH, d_25 T IH, d_26 T IH⟩
end
def cad (K : PySem.W.Frag) : Nat → Addr := fun n => match n with | 51 => (match PySem.W.nsIn K mainGlobals "UnknownName" with | some (some (.ref a)) => a | _ => 0) | 50 => (match PySem.W.nsIn K mainGlobals "LassoError" with | some (some (.ref a)) => a | _ => 0) | _ => 0
theorem all_mk {l : PySem.W.OpenLaw} {w : World} {K : PySem.W.Frag} {h : Heap} {mg : Str → Option Value} {fa : Addr} {M dep : Nat} (X : K.In h) (Gn : h.Ns mainGlobals mg) (hfa : mg "law" = some (.ref fa))
    {f0 f1 f2 f3 f4 f5 f6 f7 f8 f9 f10 f11 f12 f13 f14 f15 f16 f17 f18 f19 f20 f21 f22 f23 f24 f25 f26 : Addr} {od0 od1 od2 od3 od4 od5 od6 od7 od8 od9 od10 od11 od12 od13 od14 od15 od16 od17 od18 od19 od20 od21 od22 od23 od24 od25 od26 an0 an1 an2 an3 an4 an5 an6 an7 an8 an9 an10 an11 an12 an13 an14 an15 an16 an17 an18 an19 an20 an21 an22 an23 an24 an25 an26 : Option Addr} {sl0 sl1 sl2 sl3 sl4 sl5 sl6 sl7 sl8 sl9 sl10 sl11 sl12 sl13 sl14 sl15 sl16 sl17 sl18 sl19 sl20 sl21 sl22 sl23 sl24 sl25 sl26 : Array (Option Value)} {oc0 oc1 oc2 oc3 oc4 oc5 oc6 oc7 oc8 oc9 oc10 oc11 oc12 oc13 oc14 oc15 oc16 oc17 oc18 oc19 oc20 oc21 oc22 oc23 oc24 oc25 oc26 kV0 kV1 kV2 kV3 kV4 kV5 kV6 kV7 kV8 kV9 kV10 kV11 kV12 kV13 kV14 kV15 kV16 kV17 kV18 kV19 kV20 kV21 kV22 kV23 kV24 kV25 kV26 dc0 dc1 dc2 dc3 dc4 dc5 dc6 dc7 dc8 dc9 dc10 dc11 dc12 dc13 dc14 dc15 dc16 dc17 dc18 dc19 dc20 dc21 dc22 dc23 dc24 dc25 dc26 pm0 pm1 pm2 pm3 pm4 pm5 pm6 pm7 pm8 pm9 pm10 pm11 pm12 pm13 pm14 pm15 pm16 pm17 pm18 pm19 pm20 pm21 pm22 pm23 pm24 pm25 pm26 cd0 cd1 cd2 cd3 cd4 cd5 cd6 cd7 cd8 cd9 cd10 cd11 cd12 cd13 cd14 cd15 cd16 cd17 cd18 cd19 cd20 cd21 cd22 cd23 cd24 cd25 cd26 ct0 ct1 ct2 ct3 ct4 ct5 ct6 ct7 ct8 ct9 ct10 ct11 ct12 ct13 ct14 ct15 ct16 ct17 ct18 ct19 ct20 ct21 ct22 ct23 ct24 ct25 ct26 : Value}
    {C51 C50 : Addr}
    {fx51 N51 : Addr} {nm51 qn51 : Str} {bs51 bm51 : List Value} {sn51 : List Str} {sub51 : List Value} {ab51 : Bool} {col51 : Option Bool} {dd51 odx51 anx51 : Option Addr} {ka51 kb51 kc51 kd51 ke51 : Option Value} {slx51 : Array (Option Value)} {ocx51 kVx51 dcx51 pmx51 cdx51 ctx51 : Value}
    {dT9 : Addr} {dO9 : Value} {dX9 : Option Addr} {dI9 : Array Value} {dN9 : Nat} {dS9 : Array (Option Value)}
    (aC51 : PySem.W.nsIn K mainGlobals "UnknownName" = some (some (.ref C51)))
    (aC50 : PySem.W.nsIn K mainGlobals "LassoError" = some (some (.ref C50)))
    (xL51 : K.lookup C51 = some (excClassObj nm51 qn51 C51 N51 bs51 bm51 true sn51 sub51 ab51 col51 dd51 ka51 kb51 kc51 kd51 ke51 "ValueError.__new__"))
    (rv51 : PySem.HandSPX.refsVE bm51 = true)
    (sa51 : PySem.W.findIn K (.ref C51) "__setattr__" = some (some (.builtin "object.__setattr__")))
    (eC51 : PySem.W.subIn K (.ref C51) (.type "BaseException") = some true)
    (tC51 : PySem.W.typeIn K (.ref C51) = some (.type "type"))
    (kC51 : PySem.W.keepIn K (.ref C51) = true)
    (ax51 : PySem.W.findIn K (.ref C51) "__init__" = some (some (.ref fx51)))
    (tx51 : PySem.W.typeIn K (.ref fx51) = some (.type "function"))
    (lx51 : K.lookup fx51 = some ⟨ocx51, odx51, .func (PySem.W.fnOf "__init__" "UnknownName.__init__" (defArgs (inClass (top 2) 0)) (defBody (inClass (top 2) 0)) (defScope (inClass (top 2) 0)) .none kVx51 dcx51 pmx51 anx51 cdx51 ctx51), slx51⟩)
    (cx51 : PySem.W.codeIn K cdx51 "UnknownName.__init__" = true)
    (kx51 : PySem.W.keepIn K (.ref fx51) = true)
    (nx51 : PySem.W.findIn K (.ref C51) "name" = some none)
    (ga51 : PySem.W.findIn K (.ref C51) "__getattribute__" = some (some (.builtin "BaseException.__getattribute__")))
    (gg51 : PySem.W.findIn K (.ref C51) "__getattr__" = some none)
    (hd51 : PySem.W.hasDictIn K C51 = true)
    (ia51 : PySem.W.findIn K (.ref C51) "__class__" = some (some (.builtin "object.__class__")))
    (ib51 : PySem.W.specialIn K (.builtin "object.__class__") "__get__" = some (some (.builtin "getset_descriptor.__get__")))
    (ic51 : PySem.W.takesIn K (.builtin "object.__class__") = some true)
    (im51 : PySem.W.mroIn K C51 (.type "object") = some true)
    (ek51 : (PySem.W.clsIn K C51).isSome = true)
    (ex_UnknownName_51 : PySem.W.exmOne K (.ref C51) (.ref C51) = some true)
    (ki_LassoError_51 : PySem.W.kitOne K (.ref C51) (.ref C50) = some true)
    (ki_ValueError_51 : PySem.W.kitOne K (.ref C51) (.type "ValueError") = some true)
    (sB : PySem.W.specialIn K (.ref C50) "__getattribute__" = some (some (.builtin "type.__getattribute__"))) (rB : PySem.W.readsIn K C50 (.type "type") = true) (fB : PySem.W.findCls K (.ref C50) (.type "type") "__init__" = some (.val (.builtin "ValueError.__init__")))
    (a0 : PySem.W.nsIn K mainGlobals "names_in" = some (some (.ref f0)))
    (l0 : K.lookup f0 = some ⟨oc0, od0, .func (PySem.W.fnOf "names_in" "names_in" (defArgs (top 4)) (defBody (top 4)) (defScope (top 4)) .none kV0 dc0 pm0 an0 cd0 ct0), sl0⟩)
    (c0 : PySem.W.codeIn K cd0 "names_in" = true)
    (k0 : PySem.W.keepIn K (.ref f0) = true)
    (a1 : PySem.W.nsIn K mainGlobals "note_names" = some (some (.ref f1)))
    (l1 : K.lookup f1 = some ⟨oc1, od1, .func (PySem.W.fnOf "note_names" "note_names" (defArgs (top 5)) (defBody (top 5)) (defScope (top 5)) .none kV1 dc1 pm1 an1 cd1 ct1), sl1⟩)
    (c1 : PySem.W.codeIn K cd1 "note_names" = true)
    (k1 : PySem.W.keepIn K (.ref f1) = true)
    (a2 : PySem.W.nsIn K mainGlobals "parts_of" = some (some (.ref f2)))
    (l2 : K.lookup f2 = some ⟨oc2, od2, .func (PySem.W.fnOf "parts_of" "parts_of" (defArgs (top 6)) (defBody (top 6)) (defScope (top 6)) .none kV2 dc2 pm2 an2 cd2 ct2), sl2⟩)
    (c2 : PySem.W.codeIn K cd2 "parts_of" = true)
    (k2 : PySem.W.keepIn K (.ref f2) = true)
    (a3 : PySem.W.nsIn K mainGlobals "value" = some (some (.ref f3)))
    (l3 : K.lookup f3 = some ⟨oc3, od3, .func (PySem.W.fnOf "value" "value" (defArgs (top 7)) (defBody (top 7)) (defScope (top 7)) .none kV3 dc3 pm3 an3 cd3 ct3), sl3⟩)
    (c3 : PySem.W.codeIn K cd3 "value" = true)
    (k3 : PySem.W.keepIn K (.ref f3) = true)
    (a4 : PySem.W.nsIn K mainGlobals "truth" = some (some (.ref f4)))
    (l4 : K.lookup f4 = some ⟨oc4, od4, .func (PySem.W.fnOf "truth" "truth" (defArgs (top 8)) (defBody (top 8)) (defScope (top 8)) .none kV4 dc4 pm4 an4 cd4 ct4), sl4⟩)
    (c4 : PySem.W.codeIn K cd4 "truth" = true)
    (k4 : PySem.W.keepIn K (.ref f4) = true)
    (a5 : PySem.W.nsIn K mainGlobals "require_names" = some (some (.ref f5)))
    (l5 : K.lookup f5 = some ⟨oc5, od5, .func (PySem.W.fnOf "require_names" "require_names" (defArgs (top 9)) (defBody (top 9)) (defScope (top 9)) .none kV5 dc5 pm5 an5 cd5 ct5), sl5⟩)
    (c5 : PySem.W.codeIn K cd5 "require_names" = true)
    (k5 : PySem.W.keepIn K (.ref f5) = true)
    (a6 : PySem.W.nsIn K mainGlobals "number_of" = some (some (.ref f6)))
    (l6 : K.lookup f6 = some ⟨oc6, od6, .func (PySem.W.fnOf "number_of" "number_of" (defArgs (top 10)) (defBody (top 10)) (defScope (top 10)) .none kV6 dc6 pm6 an6 cd6 ct6), sl6⟩)
    (c6 : PySem.W.codeIn K cd6 "number_of" = true)
    (k6 : PySem.W.keepIn K (.ref f6) = true)
    (a7 : PySem.W.nsIn K mainGlobals "combined" = some (some (.ref f7)))
    (l7 : K.lookup f7 = some ⟨oc7, od7, .func (PySem.W.fnOf "combined" "combined" (defArgs (top 11)) (defBody (top 11)) (defScope (top 11)) .none kV7 dc7 pm7 an7 cd7 ct7), sl7⟩)
    (c7 : PySem.W.codeIn K cd7 "combined" = true)
    (k7 : PySem.W.keepIn K (.ref f7) = true)
    (a8 : PySem.W.nsIn K mainGlobals "holds" = some (some (.ref f8)))
    (l8 : K.lookup f8 = some ⟨oc8, od8, .func (PySem.W.fnOf "holds" "holds" (defArgs (top 12)) (defBody (top 12)) (defScope (top 12)) .none kV8 dc8 pm8 an8 cd8 ct8), sl8⟩)
    (c8 : PySem.W.codeIn K cd8 "holds" = true)
    (k8 : PySem.W.keepIn K (.ref f8) = true)
    (a9 : PySem.W.nsIn K mainGlobals "connected" = some (some (.ref f9)))
    (l9 : K.lookup f9 = some ⟨oc9, od9, .func (PySem.W.fnOf "connected" "connected" (defArgs (top 13)) (defBody (top 13)) (defScope (top 13)) (.ref dT9) kV9 dc9 pm9 an9 cd9 ct9), sl9⟩)
    (c9 : PySem.W.codeIn K cd9 "connected" = true)
    (k9 : PySem.W.keepIn K (.ref f9) = true)
    (lT9 : K.lookup dT9 = some ⟨dO9, dX9, .seq dI9 dN9, dS9⟩) (vT9 : Vals [.bl true] dI9.toList)
    (a10 : PySem.W.nsIn K mainGlobals "_law_is_integer" = some (some (.ref f10)))
    (l10 : K.lookup f10 = some ⟨oc10, od10, .func (PySem.W.fnOf "_law_is_integer" "_law_is_integer" (defArgs (top 15)) (defBody (top 15)) (defScope (top 15)) .none kV10 dc10 pm10 an10 cd10 ct10), sl10⟩)
    (c10 : PySem.W.codeIn K cd10 "_law_is_integer" = true)
    (k10 : PySem.W.keepIn K (.ref f10) = true)
    (a11 : PySem.W.nsIn K mainGlobals "_law_source" = some (some (.ref f11)))
    (l11 : K.lookup f11 = some ⟨oc11, od11, .func (PySem.W.fnOf "_law_source" "_law_source" (defArgs (top 16)) (defBody (top 16)) (defScope (top 16)) .none kV11 dc11 pm11 an11 cd11 ct11), sl11⟩)
    (c11 : PySem.W.codeIn K cd11 "_law_source" = true)
    (k11 : PySem.W.keepIn K (.ref f11) = true)
    (a12 : PySem.W.nsIn K mainGlobals "_law_draw" = some (some (.ref f12)))
    (l12 : K.lookup f12 = some ⟨oc12, od12, .func (PySem.W.fnOf "_law_draw" "_law_draw" (defArgs (top 17)) (defBody (top 17)) (defScope (top 17)) .none kV12 dc12 pm12 an12 cd12 ct12), sl12⟩)
    (c12 : PySem.W.codeIn K cd12 "_law_draw" = true)
    (k12 : PySem.W.keepIn K (.ref f12) = true)
    (a13 : PySem.W.nsIn K mainGlobals "_law_words" = some (some (.ref f13)))
    (l13 : K.lookup f13 = some ⟨oc13, od13, .func (PySem.W.fnOf "_law_words" "_law_words" (defArgs (top 18)) (defBody (top 18)) (defScope (top 18)) .none kV13 dc13 pm13 an13 cd13 ct13), sl13⟩)
    (c13 : PySem.W.codeIn K cd13 "_law_words" = true)
    (k13 : PySem.W.keepIn K (.ref f13) = true)
    (a14 : PySem.W.nsIn K mainGlobals "_law_number" = some (some (.ref f14)))
    (l14 : K.lookup f14 = some ⟨oc14, od14, .func (PySem.W.fnOf "_law_number" "_law_number" (defArgs (top 20)) (defBody (top 20)) (defScope (top 20)) .none kV14 dc14 pm14 an14 cd14 ct14), sl14⟩)
    (c14 : PySem.W.codeIn K cd14 "_law_number" = true)
    (k14 : PySem.W.keepIn K (.ref f14) = true)
    (a15 : PySem.W.nsIn K mainGlobals "_law_name" = some (some (.ref f15)))
    (l15 : K.lookup f15 = some ⟨oc15, od15, .func (PySem.W.fnOf "_law_name" "_law_name" (defArgs (top 21)) (defBody (top 21)) (defScope (top 21)) .none kV15 dc15 pm15 an15 cd15 ct15), sl15⟩)
    (c15 : PySem.W.codeIn K cd15 "_law_name" = true)
    (k15 : PySem.W.keepIn K (.ref f15) = true)
    (a16 : PySem.W.nsIn K mainGlobals "_law_names" = some (some (.ref f16)))
    (l16 : K.lookup f16 = some ⟨oc16, od16, .func (PySem.W.fnOf "_law_names" "_law_names" (defArgs (top 22)) (defBody (top 22)) (defScope (top 22)) .none kV16 dc16 pm16 an16 cd16 ct16), sl16⟩)
    (c16 : PySem.W.codeIn K cd16 "_law_names" = true)
    (k16 : PySem.W.keepIn K (.ref f16) = true)
    (a17 : PySem.W.nsIn K mainGlobals "_law_term" = some (some (.ref f17)))
    (l17 : K.lookup f17 = some ⟨oc17, od17, .func (PySem.W.fnOf "_law_term" "_law_term" (defArgs (top 23)) (defBody (top 23)) (defScope (top 23)) .none kV17 dc17 pm17 an17 cd17 ct17), sl17⟩)
    (c17 : PySem.W.codeIn K cd17 "_law_term" = true)
    (k17 : PySem.W.keepIn K (.ref f17) = true)
    (a18 : PySem.W.nsIn K mainGlobals "_law_comparison" = some (some (.ref f18)))
    (l18 : K.lookup f18 = some ⟨oc18, od18, .func (PySem.W.fnOf "_law_comparison" "_law_comparison" (defArgs (top 24)) (defBody (top 24)) (defScope (top 24)) .none kV18 dc18 pm18 an18 cd18 ct18), sl18⟩)
    (c18 : PySem.W.codeIn K cd18 "_law_comparison" = true)
    (k18 : PySem.W.keepIn K (.ref f18) = true)
    (a19 : PySem.W.nsIn K mainGlobals "_law_condition" = some (some (.ref f19)))
    (l19 : K.lookup f19 = some ⟨oc19, od19, .func (PySem.W.fnOf "_law_condition" "_law_condition" (defArgs (top 25)) (defBody (top 25)) (defScope (top 25)) .none kV19 dc19 pm19 an19 cd19 ct19), sl19⟩)
    (c19 : PySem.W.codeIn K cd19 "_law_condition" = true)
    (k19 : PySem.W.keepIn K (.ref f19) = true)
    (a20 : PySem.W.nsIn K mainGlobals "_law_higher" = some (some (.ref f20)))
    (l20 : K.lookup f20 = some ⟨oc20, od20, .func (PySem.W.fnOf "_law_higher" "_law_higher" (defArgs (top 26)) (defBody (top 26)) (defScope (top 26)) .none kV20 dc20 pm20 an20 cd20 ct20), sl20⟩)
    (c20 : PySem.W.codeIn K cd20 "_law_higher" = true)
    (k20 : PySem.W.keepIn K (.ref f20) = true)
    (a21 : PySem.W.nsIn K mainGlobals "_law_gather" = some (some (.ref f21)))
    (l21 : K.lookup f21 = some ⟨oc21, od21, .func (PySem.W.fnOf "_law_gather" "_law_gather" (defArgs (top 27)) (defBody (top 27)) (defScope (top 27)) .none kV21 dc21 pm21 an21 cd21 ct21), sl21⟩)
    (c21 : PySem.W.codeIn K cd21 "_law_gather" = true)
    (k21 : PySem.W.keepIn K (.ref f21) = true)
    (a22 : PySem.W.nsIn K mainGlobals "_law_value" = some (some (.ref f22)))
    (l22 : K.lookup f22 = some ⟨oc22, od22, .func (PySem.W.fnOf "_law_value" "_law_value" (defArgs (top 28)) (defBody (top 28)) (defScope (top 28)) .none kV22 dc22 pm22 an22 cd22 ct22), sl22⟩)
    (c22 : PySem.W.codeIn K cd22 "_law_value" = true)
    (k22 : PySem.W.keepIn K (.ref f22) = true)
    (a23 : PySem.W.nsIn K mainGlobals "_law_truth" = some (some (.ref f23)))
    (l23 : K.lookup f23 = some ⟨oc23, od23, .func (PySem.W.fnOf "_law_truth" "_law_truth" (defArgs (top 29)) (defBody (top 29)) (defScope (top 29)) .none kV23 dc23 pm23 an23 cd23 ct23), sl23⟩)
    (c23 : PySem.W.codeIn K cd23 "_law_truth" = true)
    (k23 : PySem.W.keepIn K (.ref f23) = true)
    (a24 : PySem.W.nsIn K mainGlobals "_law_answer" = some (some (.ref f24)))
    (l24 : K.lookup f24 = some ⟨oc24, od24, .func (PySem.W.fnOf "_law_answer" "_law_answer" (defArgs (top 30)) (defBody (top 30)) (defScope (top 30)) .none kV24 dc24 pm24 an24 cd24 ct24), sl24⟩)
    (c24 : PySem.W.codeIn K cd24 "_law_answer" = true)
    (k24 : PySem.W.keepIn K (.ref f24) = true)
    (a25 : PySem.W.nsIn K mainGlobals "_law_due" = some (some (.ref f25)))
    (l25 : K.lookup f25 = some ⟨oc25, od25, .func (PySem.W.fnOf "_law_due" "_law_due" (defArgs (top 31)) (defBody (top 31)) (defScope (top 31)) .none kV25 dc25 pm25 an25 cd25 ct25), sl25⟩)
    (c25 : PySem.W.codeIn K cd25 "_law_due" = true)
    (k25 : PySem.W.keepIn K (.ref f25) = true)
    (a26 : PySem.W.nsIn K mainGlobals "law" = some (some (.ref f26)))
    (l26 : K.lookup f26 = some ⟨oc26, od26, .func (PySem.W.fnOf "law" "law" (defArgs (top 32)) (defBody (top 32)) (defScope (top 32)) .none kV26 dc26 pm26 an26 cd26 ct26), sl26⟩)
    (c26 : PySem.W.codeIn K cd26 "law" = true)
    (k26 : PySem.W.keepIn K (.ref f26) = true)
    (z_ValueError : PySem.W.nsIn K mainGlobals "ValueError" = some none)
    (z_abs : PySem.W.nsIn K mainGlobals "abs" = some none)
    (z_bool : PySem.W.nsIn K mainGlobals "bool" = some none)
    (z_dict : PySem.W.nsIn K mainGlobals "dict" = some none)
    (z_int : PySem.W.nsIn K mainGlobals "int" = some none)
    (z_isinstance : PySem.W.nsIn K mainGlobals "isinstance" = some none)
    (z_len : PySem.W.nsIn K mainGlobals "len" = some none)
    (z_list : PySem.W.nsIn K mainGlobals "list" = some none)
    (z_max : PySem.W.nsIn K mainGlobals "max" = some none)
    (z_min : PySem.W.nsIn K mainGlobals "min" = some none)
    (z_range : PySem.W.nsIn K mainGlobals "range" = some none)
    (z_str : PySem.W.nsIn K mainGlobals "str" = some none)
    (z_tuple : PySem.W.nsIn K mainGlobals "tuple" = some none)
    : ∃ fd : FuncData, (∀ (s : Shared) (v : Value), BindsTo s fd ⟨[v], []⟩ [("script", v)]) ∧ ∀ base : Heap, K.In base → base.Ns mainGlobals mg → FnOk l.prog w K mg base (L2.CX l.prog w) (2 * dep + 2) fa fd ["script"] (spF ⟨K, cad K, []⟩ 1 (fn M dep 26)) := by
  have e := hfa.symm.trans (PySem.W.mg_of X Gn a26)
  cases e
  have F0 := fun_mk (st := (top 4)) l0 c0 k0
  have F1 := fun_mk (st := (top 5)) l1 c1 k1
  have F2 := fun_mk (st := (top 6)) l2 c2 k2
  have F3 := fun_mk (st := (top 7)) l3 c3 k3
  have F4 := fun_mk (st := (top 8)) l4 c4 k4
  have F5 := fun_mk (st := (top 9)) l5 c5 k5
  have F6 := fun_mk (st := (top 10)) l6 c6 k6
  have F7 := fun_mk (st := (top 11)) l7 c7 k7
  have F8 := fun_mk (st := (top 12)) l8 c8 k8
  have F9 := fund_mk (st := (top 13)) (dvs := [.bl true]) (by simp) l9 c9 k9 lT9 vT9
  have F10 := fun_mk (st := (top 15)) l10 c10 k10
  have F11 := fun_mk (st := (top 16)) l11 c11 k11
  have F12 := fun_mk (st := (top 17)) l12 c12 k12
  have F13 := fun_mk (st := (top 18)) l13 c13 k13
  have F14 := fun_mk (st := (top 20)) l14 c14 k14
  have F15 := fun_mk (st := (top 21)) l15 c15 k15
  have F16 := fun_mk (st := (top 22)) l16 c16 k16
  have F17 := fun_mk (st := (top 23)) l17 c17 k17
  have F18 := fun_mk (st := (top 24)) l18 c18 k18
  have F19 := fun_mk (st := (top 25)) l19 c19 k19
  have F20 := fun_mk (st := (top 26)) l20 c20 k20
  have F21 := fun_mk (st := (top 27)) l21 c21 k21
  have F22 := fun_mk (st := (top 28)) l22 c22 k22
  have F23 := fun_mk (st := (top 29)) l23 c23 k23
  have F24 := fun_mk (st := (top 30)) l24 c24 k24
  have F25 := fun_mk (st := (top 31)) l25 c25 k25
  have F26 := fun_mk (st := (top 32)) l26 c26 k26
  have b9 := binds_all (ps := ["word", "left", "right", "every"]) F9 (by simp) fun _ _ _ _ _ _ _ us its hl hi => match us, hl, its, hi with | [_, _, _, _], _, [_], _ => ⟨_, rfl, rfl⟩
  have bd9_1 := F9.binds1 (ps := ["word", "left", "right", "every"]) 3 0 (by simp) rfl fun _ _ _ _ _ _ _ us its hl hi => match us, hl, its, hi with | [_, _, _], _, [_], _ => ⟨_, rfl, rfl⟩
  have b0 := F0.binds (ps := ["tree"]) fun _ _ _ _ _ _ us hl => match us, hl with | [_], _ => rfl
  have b1 := F1.binds (ps := ["tree", "names"]) fun _ _ _ _ _ _ us hl => match us, hl with | [_, _], _ => rfl
  have b2 := F2.binds (ps := ["tree"]) fun _ _ _ _ _ _ us hl => match us, hl with | [_], _ => rfl
  have b3 := F3.binds (ps := ["term", "values"]) fun _ _ _ _ _ _ us hl => match us, hl with | [_, _], _ => rfl
  have b4 := F4.binds (ps := ["condition", "values"]) fun _ _ _ _ _ _ us hl => match us, hl with | [_, _], _ => rfl
  have b5 := F5.binds (ps := ["tree", "known"]) fun _ _ _ _ _ _ us hl => match us, hl with | [_, _], _ => rfl
  have b6 := F6.binds (ps := ["term", "values"]) fun _ _ _ _ _ _ us hl => match us, hl with | [_, _], _ => rfl
  have b7 := F7.binds (ps := ["word", "left", "right"]) fun _ _ _ _ _ _ us hl => match us, hl with | [_, _, _], _ => rfl
  have b8 := F8.binds (ps := ["condition", "values"]) fun _ _ _ _ _ _ us hl => match us, hl with | [_, _], _ => rfl
  have b10 := F10.binds (ps := ["actual"]) fun _ _ _ _ _ _ us hl => match us, hl with | [_], _ => rfl
  have b11 := F11.binds (ps := ["script"]) fun _ _ _ _ _ _ us hl => match us, hl with | [_], _ => rfl
  have b12 := F12.binds (ps := ["source", "many"]) fun _ _ _ _ _ _ us hl => match us, hl with | [_, _], _ => rfl
  have b13 := F13.binds (ps := []) fun _ _ _ _ _ _ us hl => match us, hl with | [], _ => rfl
  have b14 := F14.binds (ps := ["source"]) fun _ _ _ _ _ _ us hl => match us, hl with | [_], _ => rfl
  have b15 := F15.binds (ps := ["source"]) fun _ _ _ _ _ _ us hl => match us, hl with | [_], _ => rfl
  have b16 := F16.binds (ps := ["source"]) fun _ _ _ _ _ _ us hl => match us, hl with | [_], _ => rfl
  have b17 := F17.binds (ps := ["source", "size", "names"]) fun _ _ _ _ _ _ us hl => match us, hl with | [_, _, _], _ => rfl
  have b18 := F18.binds (ps := ["source", "size", "names"]) fun _ _ _ _ _ _ us hl => match us, hl with | [_, _, _], _ => rfl
  have b19 := F19.binds (ps := ["source", "size", "names"]) fun _ _ _ _ _ _ us hl => match us, hl with | [_, _, _], _ => rfl
  have b20 := F20.binds (ps := ["source", "tree", "is_term"]) fun _ _ _ _ _ _ us hl => match us, hl with | [_, _, _], _ => rfl
  have b21 := F21.binds (ps := ["tree", "found"]) fun _ _ _ _ _ _ us hl => match us, hl with | [_, _], _ => rfl
  have b22 := F22.binds (ps := ["term", "values"]) fun _ _ _ _ _ _ us hl => match us, hl with | [_, _], _ => rfl
  have b23 := F23.binds (ps := ["condition", "values"]) fun _ _ _ _ _ _ us hl => match us, hl with | [_, _], _ => rfl
  have b24 := F24.binds (ps := ["tree", "is_term", "values"]) fun _ _ _ _ _ _ us hl => match us, hl with | [_, _, _], _ => rfl
  have b25 := F25.binds (ps := ["tree", "is_term", "values", "names"]) fun _ _ _ _ _ _ us hl => match us, hl with | [_, _, _, _], _ => rfl
  have b26 := F26.binds (ps := ["script"]) fun _ _ _ _ _ _ us hl => match us, hl with | [_], _ => rfl
  let ad : Nat → Addr := fun i => match i with | 0 => f0 | 1 => f1 | 2 => f2 | 3 => f3 | 4 => f4 | 5 => f5 | 6 => f6 | 7 => f7 | 8 => f8 | 9 => f9 | 10 => f10 | 11 => f11 | 12 => f12 | 13 => f13 | 14 => f14 | 15 => f15 | 16 => f16 | 17 => f17 | 18 => f18 | 19 => f19 | 20 => f20 | 21 => f21 | 22 => f22 | 23 => f23 | 24 => f24 | 25 => f25 | 26 => fa | _ => 0
  let fd : Nat → FuncData := fun i => match i with | 0 => PySem.W.fnOf "names_in" "names_in" (defArgs (top 4)) (defBody (top 4)) (defScope (top 4)) .none kV0 dc0 pm0 an0 cd0 ct0 | 1 => PySem.W.fnOf "note_names" "note_names" (defArgs (top 5)) (defBody (top 5)) (defScope (top 5)) .none kV1 dc1 pm1 an1 cd1 ct1 | 2 => PySem.W.fnOf "parts_of" "parts_of" (defArgs (top 6)) (defBody (top 6)) (defScope (top 6)) .none kV2 dc2 pm2 an2 cd2 ct2 | 3 => PySem.W.fnOf "value" "value" (defArgs (top 7)) (defBody (top 7)) (defScope (top 7)) .none kV3 dc3 pm3 an3 cd3 ct3 | 4 => PySem.W.fnOf "truth" "truth" (defArgs (top 8)) (defBody (top 8)) (defScope (top 8)) .none kV4 dc4 pm4 an4 cd4 ct4 | 5 => PySem.W.fnOf "require_names" "require_names" (defArgs (top 9)) (defBody (top 9)) (defScope (top 9)) .none kV5 dc5 pm5 an5 cd5 ct5 | 6 => PySem.W.fnOf "number_of" "number_of" (defArgs (top 10)) (defBody (top 10)) (defScope (top 10)) .none kV6 dc6 pm6 an6 cd6 ct6 | 7 => PySem.W.fnOf "combined" "combined" (defArgs (top 11)) (defBody (top 11)) (defScope (top 11)) .none kV7 dc7 pm7 an7 cd7 ct7 | 8 => PySem.W.fnOf "holds" "holds" (defArgs (top 12)) (defBody (top 12)) (defScope (top 12)) .none kV8 dc8 pm8 an8 cd8 ct8 | 9 => PySem.W.fnOf "connected" "connected" (defArgs (top 13)) (defBody (top 13)) (defScope (top 13)) (.ref dT9) kV9 dc9 pm9 an9 cd9 ct9 | 10 => PySem.W.fnOf "_law_is_integer" "_law_is_integer" (defArgs (top 15)) (defBody (top 15)) (defScope (top 15)) .none kV10 dc10 pm10 an10 cd10 ct10 | 11 => PySem.W.fnOf "_law_source" "_law_source" (defArgs (top 16)) (defBody (top 16)) (defScope (top 16)) .none kV11 dc11 pm11 an11 cd11 ct11 | 12 => PySem.W.fnOf "_law_draw" "_law_draw" (defArgs (top 17)) (defBody (top 17)) (defScope (top 17)) .none kV12 dc12 pm12 an12 cd12 ct12 | 13 => PySem.W.fnOf "_law_words" "_law_words" (defArgs (top 18)) (defBody (top 18)) (defScope (top 18)) .none kV13 dc13 pm13 an13 cd13 ct13 | 14 => PySem.W.fnOf "_law_number" "_law_number" (defArgs (top 20)) (defBody (top 20)) (defScope (top 20)) .none kV14 dc14 pm14 an14 cd14 ct14 | 15 => PySem.W.fnOf "_law_name" "_law_name" (defArgs (top 21)) (defBody (top 21)) (defScope (top 21)) .none kV15 dc15 pm15 an15 cd15 ct15 | 16 => PySem.W.fnOf "_law_names" "_law_names" (defArgs (top 22)) (defBody (top 22)) (defScope (top 22)) .none kV16 dc16 pm16 an16 cd16 ct16 | 17 => PySem.W.fnOf "_law_term" "_law_term" (defArgs (top 23)) (defBody (top 23)) (defScope (top 23)) .none kV17 dc17 pm17 an17 cd17 ct17 | 18 => PySem.W.fnOf "_law_comparison" "_law_comparison" (defArgs (top 24)) (defBody (top 24)) (defScope (top 24)) .none kV18 dc18 pm18 an18 cd18 ct18 | 19 => PySem.W.fnOf "_law_condition" "_law_condition" (defArgs (top 25)) (defBody (top 25)) (defScope (top 25)) .none kV19 dc19 pm19 an19 cd19 ct19 | 20 => PySem.W.fnOf "_law_higher" "_law_higher" (defArgs (top 26)) (defBody (top 26)) (defScope (top 26)) .none kV20 dc20 pm20 an20 cd20 ct20 | 21 => PySem.W.fnOf "_law_gather" "_law_gather" (defArgs (top 27)) (defBody (top 27)) (defScope (top 27)) .none kV21 dc21 pm21 an21 cd21 ct21 | 22 => PySem.W.fnOf "_law_value" "_law_value" (defArgs (top 28)) (defBody (top 28)) (defScope (top 28)) .none kV22 dc22 pm22 an22 cd22 ct22 | 23 => PySem.W.fnOf "_law_truth" "_law_truth" (defArgs (top 29)) (defBody (top 29)) (defScope (top 29)) .none kV23 dc23 pm23 an23 cd23 ct23 | 24 => PySem.W.fnOf "_law_answer" "_law_answer" (defArgs (top 30)) (defBody (top 30)) (defScope (top 30)) .none kV24 dc24 pm24 an24 cd24 ct24 | 25 => PySem.W.fnOf "_law_due" "_law_due" (defArgs (top 31)) (defBody (top 31)) (defScope (top 31)) .none kV25 dc25 pm25 an25 cd25 ct25 | 26 => PySem.W.fnOf "law" "law" (defArgs (top 32)) (defBody (top 32)) (defScope (top 32)) .none kV26 dc26 pm26 an26 cd26 ct26 | _ => PySem.W.fnOf "" "" (defArgs (top 0)) (defBody (top 0)) (defScope (top 0)) .none .none .none .none none .none .none
  have hc51 : cad K 51 = C51 := by show (match PySem.W.nsIn K mainGlobals "UnknownName" with | some (some (.ref a)) => a | _ => 0) = C51; rw [aC51]
  have hc50 : cad K 50 = C50 := by show (match PySem.W.nsIn K mainGlobals "LassoError" with | some (some (.ref a)) => a | _ => 0) = C50; rw [aC50]
  have Fx51 := fun_mk (st := (inClass (top 2) 0)) lx51 cx51 kx51
  have bx51 := Fx51.binds (ps := ["self", "name"]) fun _ _ _ _ _ _ us hl => match us, hl with | [_, _], _ => rfl
  have T : Txt K w mg (cad K) ad fd := ⟨F0, PySem.W.mg_of X Gn a0, b0, F1, PySem.W.mg_of X Gn a1, b1, F2, PySem.W.mg_of X Gn a2, b2, F3, PySem.W.mg_of X Gn a3, b3, F4, PySem.W.mg_of X Gn a4, b4, F5, PySem.W.mg_of X Gn a5, b5, F6, PySem.W.mg_of X Gn a6, b6, F7, PySem.W.mg_of X Gn a7, b7, F8, PySem.W.mg_of X Gn a8, b8, F9, PySem.W.mg_of X Gn a9, b9, bd9_1, F10, PySem.W.mg_of X Gn a10, b10, F11, PySem.W.mg_of X Gn a11, b11, F12, PySem.W.mg_of X Gn a12, b12, F13, PySem.W.mg_of X Gn a13, b13, F14, PySem.W.mg_of X Gn a14, b14, F15, PySem.W.mg_of X Gn a15, b15, F16, PySem.W.mg_of X Gn a16, b16, F17, PySem.W.mg_of X Gn a17, b17, F18, PySem.W.mg_of X Gn a18, b18, F19, PySem.W.mg_of X Gn a19, b19, F20, PySem.W.mg_of X Gn a20, b20, F21, PySem.W.mg_of X Gn a21, b21, F22, PySem.W.mg_of X Gn a22, b22, F23, PySem.W.mg_of X Gn a23, b23, F24, PySem.W.mg_of X Gn a24, b24, F25, PySem.W.mg_of X Gn a25, b25, F26, PySem.W.mg_of X Gn a26, b26, by rw [hc51]; exact PySem.W.mg_of X Gn aC51, by rw [hc50]; exact PySem.W.mg_of X Gn aC50, by rw [hc51]; exact ⟨⟨_, _, _, _, _, _, _, _, _, _, _, _, _, _, _, xL51, rv51⟩, sa51, eC51, tC51, kC51⟩, by rw [hc51]; exact ⟨fx51, _, ax51, tx51, Fx51, bx51⟩, by rw [hc51]; exact nx51, by rw [hc51]; exact ⟨ga51, gg51, eC51, hd51⟩, by rw [hc51]; exact ⟨ga51, gg51, eC51, hd51, ia51, ib51, ic51, im51⟩, by rw [hc51]; exact ek51, by rw [hc51]; exact ex_UnknownName_51, by rw [hc51, hc50]; exact ki_LassoError_51, by rw [hc51]; exact ki_ValueError_51, ⟨_, _, PySem.W.mg_of X Gn aC50, sB, rB, fB⟩, PySem.W.mg_none_of X Gn z_ValueError, PySem.W.mg_none_of X Gn z_abs, PySem.W.mg_none_of X Gn z_bool, PySem.W.mg_none_of X Gn z_dict, PySem.W.mg_none_of X Gn z_int, PySem.W.mg_none_of X Gn z_isinstance, PySem.W.mg_none_of X Gn z_len, PySem.W.mg_none_of X Gn z_list, PySem.W.mg_none_of X Gn z_max, PySem.W.mg_none_of X Gn z_min, PySem.W.mg_none_of X Gn z_range, PySem.W.mg_none_of X Gn z_str, PySem.W.mg_none_of X Gn z_tuple⟩
  exact ⟨fd 26, fun s v => .of_eq rfl, fun base _ _ => (all (G := ⟨K, cad K, []⟩) (M := M) (P := l.prog) (w := w) (base := base) T dep).f26⟩
end K03
namespace K03
open PySem L2 Mi Fu
def s_0 (Φ : Nat → List T → Option T) (M : Nat) : FS :=
  (fSeqS (fOwn fDNew 1)
      (fSeqS (fCallP (Φ 1) 1 1 (fCons (fVar 0) (fCons (fC .non) fNil)))
      (fRet (fCB dkeysT (fCons (fVar 1) fNil)))))
def s_1 (Φ : Nat → List T → Option T) (M : Nat) : FS :=
  (fSeqS (fIfS (fTest (fOp (oBl eqST) (fOp ixT (fVar 0) (fC (.int 0))) (fC (.str "name"))))
      (fSeqS (fDPut 1 (pVar 1) (fOp ixT (fVar 0) (fC (.int 1))) (fC (.bl true)))
      fRetN)
      fNext)
      (fFor (fSeq (fCB (Φ 2) (fCons (fVar 0) fNil))) (gtNm 2)
      (fCallP (Φ 1) 1 1 (fCons (fVar 2) (fCons (fC .non) fNil)))))
def s_2 (Φ : Nat → List T → Option T) (M : Nat) : FS :=
  (fRet (fLc (fSeq (fSl slT (fVar 0) (foSome (fC (.int 1))) foNone)) 1 (fTest (fIsi Ty.tuple (fVar 1))) (fVar 1) [1]))
def s_3 (Φ : Nat → List T → Option T) (M : Nat) : FS :=
  (fSeqS (fDrop (fCB (Φ 5) (fCons (fVar 0) (fCons (fVar 1) fNil))))
      (fRet (fCB (Φ 6) (fCons (fVar 0) (fCons (fVar 1) fNil)))))
def s_4 (Φ : Nat → List T → Option T) (M : Nat) : FS :=
  (fSeqS (fDrop (fCB (Φ 5) (fCons (fVar 0) (fCons (fVar 1) fNil))))
      (fRet (fCB (Φ 8) (fCons (fVar 0) (fCons (fVar 1) fNil)))))
def s_5 (Φ : Nat → List T → Option T) (M : Nat) : FS :=
  (fFor (fSeq (fCB (Φ 0) (fCons (fVar 0) fNil))) (gtNm 2)
      (fIfS (fTest (fOp (dinT true) (fVar 2) (fVar 1)))
      fNo
      fNext))
def s_6 (Φ : Nat → List T → Option T) (M : Nat) : FS :=
  (fSeqS (fSet (fOp ixT (fVar 0) (fC (.int 0))) 2)
      (fSeqS (fIfS (fTest (fOp (oBl eqST) (fVar 2) (fC (.str "number"))))
      (fRet (fOp ixT (fVar 0) (fC (.int 1))))
      fNext)
      (fSeqS (fIfS (fTest (fOp (oBl eqST) (fVar 2) (fC (.str "name"))))
      (fRet (fOp dgetT (fVar 1) (fOp ixT (fVar 0) (fC (.int 1)))))
      fNext)
      (fSeqS (fSet (fCB (Φ 6) (fCons (fOp ixT (fVar 0) (fC (.int 1))) (fCons (fVar 1) fNil))) 3)
      (fSeqS (fIfS (fTest (fOp (oBl eqST) (fVar 2) (fC (.str "negative"))))
      (fRet (fUn negT (fVar 3)))
      fNext)
      (fSeqS (fIfS (fTest (fOp (oBl eqST) (fVar 2) (fC (.str "quotient"))))
      (fRet (fOp fdivWT (fVar 3) (fOp ixT (fVar 0) (fC (.int 2)))))
      fNext)
      (fSeqS (fIfS (fTest (fOp (oBl eqST) (fVar 2) (fC (.str "remainder"))))
      (fRet (fOp modT (fVar 3) (fOp ixT (fVar 0) (fC (.int 2)))))
      fNext)
      (fRet (fCB (Φ 7) (fCons (fVar 2) (fCons (fVar 3) (fCons (fCB (Φ 6) (fCons (fOp ixT (fVar 0) (fC (.int 2))) (fCons (fVar 1) fNil))) fNil))))))))))))
def s_7 (Φ : Nat → List T → Option T) (M : Nat) : FS :=
  (fSeqS (fIfS (fTest (fOp (oBl eqST) (fVar 0) (fC (.str "plus"))))
      (fRet (fOp addT (fVar 1) (fVar 2)))
      fNext)
      (fSeqS (fIfS (fTest (fOp (oBl eqST) (fVar 0) (fC (.str "minus"))))
      (fRet (fOp subT (fVar 1) (fVar 2)))
      fNext)
      (fSeqS (fIfS (fTest (fOp (oBl eqST) (fVar 0) (fC (.str "times"))))
      (fRet (fOp mulWT (fVar 1) (fVar 2)))
      fNext)
      (fSeqS (fIfS (fTest (fOp (oBl eqST) (fVar 0) (fC (.str "least"))))
      (fRet (fCB min2T (fCons (fVar 1) (fCons (fVar 2) fNil))))
      fNext)
      (fRet (fCB max2T (fCons (fVar 1) (fCons (fVar 2) fNil))))))))
def s_8 (Φ : Nat → List T → Option T) (M : Nat) : FS :=
  (fSeqS (fSet (fOp ixT (fVar 0) (fC (.int 0))) 2)
      (fSeqS (fIfS (fOr (fTest (fOp (oBl eqST) (fVar 2) (fC (.str "true")))) (fTest (fOp (oBl eqST) (fVar 2) (fC (.str "false")))))
      (fRet (fOp (oBl eqST) (fVar 2) (fC (.str "true"))))
      fNext)
      (fSeqS (fIfS (fTest (fOp (oBl eqST) (fVar 2) (fC (.str "equal"))))
      (fRet (fOp (oBl eqT) (fCB (Φ 6) (fCons (fOp ixT (fVar 0) (fC (.int 1))) (fCons (fVar 1) fNil))) (fCB (Φ 6) (fCons (fOp ixT (fVar 0) (fC (.int 2))) (fCons (fVar 1) fNil)))))
      fNext)
      (fSeqS (fIfS (fTest (fOp (oBl eqST) (fVar 2) (fC (.str "below"))))
      (fRet (fOp ltT (fCB (Φ 6) (fCons (fOp ixT (fVar 0) (fC (.int 1))) (fCons (fVar 1) fNil))) (fCB (Φ 6) (fCons (fOp ixT (fVar 0) (fC (.int 2))) (fCons (fVar 1) fNil)))))
      fNext)
      (fSeqS (fIfS (fTest (fOp (oBl eqST) (fVar 2) (fC (.str "upto"))))
      (fRet (fOp leT (fCB (Φ 6) (fCons (fOp ixT (fVar 0) (fC (.int 1))) (fCons (fVar 1) fNil))) (fCB (Φ 6) (fCons (fOp ixT (fVar 0) (fC (.int 2))) (fCons (fVar 1) fNil)))))
      fNext)
      (fSeqS (fSet (fCB (Φ 8) (fCons (fOp ixT (fVar 0) (fC (.int 1))) (fCons (fVar 1) fNil))) 3)
      (fSeqS (fIfS (fTest (fOp (oBl eqST) (fVar 2) (fC (.str "not"))))
      (fRet (fNotV (fVar 3)))
      fNext)
      (fRet (fCB (Φ 9) (fDef (fCons (fVar 2) (fCons (fVar 3) (fCons (fCB (Φ 8) (fCons (fOp ixT (fVar 0) (fC (.int 2))) (fCons (fVar 1) fNil))) fNil))) [.bl true]))))))))))
def s_9 (Φ : Nat → List T → Option T) (M : Nat) : FS :=
  (fSeqS (fIfS (fTest (fOp (oBl eqST) (fVar 0) (fC (.str "and"))))
      (fRet (fOp (bOpT (· && ·)) (fVar 1) (fVar 2)))
      fNext)
      (fSeqS (fIfS (fTest (fOp (oBl eqST) (fVar 0) (fC (.str "or"))))
      (fRet (fOp (bOpT (· || ·)) (fVar 1) (fVar 2)))
      fNext)
      (fSeqS (fIfS (fTest (fOp (oBl eqST) (fVar 0) (fC (.str "implies"))))
      (fRet (fOp (bOpT (· || ·)) (fVar 2) (fOp (bOpT (· != ·)) (fVar 3) (fVar 1))))
      fNext)
      (fRet (fOp (bOpT (· != ·)) (fOp (bOpT (· != ·)) (fVar 3) (fVar 1)) (fVar 2))))))
def s_10 (Φ : Nat → List T → Option T) (M : Nat) : FS :=
  (fRet (fAndV (fIsi Ty.int (fVar 0)) (fNotV (fIsi Ty.bool (fVar 0)))))
def s_11 (Φ : Nat → List T → Option T) (M : Nat) : FS :=
  (fSeqS (fSet (fC (.int 7)) 1)
      (fSeqS (fFor (fSeq (fVar 0)) (gtNm 2)
      (fSet (fOp modT (fOp addT (fOp addT (fOp mulT (fVar 1) (fC (.int 48271))) (fOp modT (fCB intT (fCons (fVar 2) fNil)) (fC (.int 2147483629)))) (fC (.int 13))) (fC (.int 2147483647))) 1))
      (fRet (fLst (fCons (fCB lstT (fCons (fVar 0) fNil)) (fCons (fC (.int 0)) (fCons (fC (.int 0)) (fCons (fOp addT (fVar 1) (fC (.int 1))) (fCons (fOp addT (fOp mulT (fVar 1) (fC (.int 5))) (fC (.int 3))) fNil)))))))))
def s_12 (Φ : Nat → List T → Option T) (M : Nat) : FS :=
  (fSeqS (fIfS (fAnd (fTest (fOp (oBl eqST) (fOp ixT (fVar 0) (fC (.int 2))) (fC (.int 0)))) (fTest (fOp ltT (fOp ixT (fVar 0) (fC (.int 1))) (fCB lenT (fCons (fOp ixT (fVar 0) (fC (.int 0))) fNil)))))
      (fSeqS (fSet (fOp ixT (fOp ixT (fVar 0) (fC (.int 0))) (fOp ixT (fVar 0) (fC (.int 1)))) 2)
      (fSeqS (fPut 0 (pVar 0) (fC (.int 1)) (fOp addT (fOp ixT (fVar 0) (fC (.int 1))) (fC (.int 1))))
      (fSeqS (fIfS (fTest (fOp ltT (fCB absT (fCons (fVar 2) fNil)) (fOp powT (fC (.int 10)) (fC (.int 18)))))
      (fRet (fOp modT (fCB intT (fCons (fVar 2) fNil)) (fVar 1)))
      fNext)
      (fPut 0 (pVar 0) (fC (.int 2)) (fCB absT (fCons (fVar 2) fNil))))))
      fNext)
      (fSeqS (fIfS (fTest (fOp gtT (fOp ixT (fVar 0) (fC (.int 2))) (fC (.int 0))))
      (fSeqS (fSet (fOp modT (fCB intT (fCons (fOp ixT (fVar 0) (fC (.int 2))) fNil)) (fVar 1)) 3)
      (fSeqS (fPut 0 (pVar 0) (fC (.int 2)) (fOp fdivT (fOp ixT (fVar 0) (fC (.int 2))) (fVar 1)))
      (fRet (fVar 3))))
      fNext)
      (fSeqS (fPut 0 (pVar 0) (fC (.int 3)) (fOp modT (fCB intT (fCons (fOp mulT (fOp ixT (fVar 0) (fC (.int 3))) (fC (.int 48271))) fNil)) (fC (.int 2147483647))))
      (fSeqS (fPut 0 (pVar 0) (fC (.int 4)) (fOp modT (fCB intT (fCons (fOp addT (fOp mulT (fOp ixT (fVar 0) (fC (.int 4))) (fC (.int 69621))) (fC (.int 11))) fNil)) (fC (.int 2147483629))))
      (fRet (fOp modT (fCB intT (fCons (fOp addT (fOp fdivT (fOp ixT (fVar 0) (fC (.int 3))) (fC (.int 8))) (fOp fdivT (fOp ixT (fVar 0) (fC (.int 4))) (fC (.int 16)))) fNil)) (fVar 1)))))))
def s_13 (Φ : Nat → List T → Option T) (M : Nat) : FS :=
  (fSeqS (fSet (fC (.str "true false not and or div mod min max X F G U R W M var in start process when do skip justice compassion")) 0)
      (fRet (fOp splitT (fVar 0) (fC (.str " ")))))
def s_14 (Φ : Nat → List T → Option T) (M : Nat) : FS :=
  (fSeqS (fCallR (Φ 12) 0 0 (fCons (fC .non) (fCons (fC (.int 8)) fNil)) 1)
      (fSeqS (fIfS (fTest (fOp ltT (fVar 1) (fC (.int 5))))
      (fRetC (fHo (Φ 12) 0 0 (fCons (fC .non) (fCons (fC (.int 10)) fNil)) 2 (fLet (fVar 2))))
      fNext)
      (fSeqS (fIfS (fTest (fOp (oBl eqST) (fVar 1) (fC (.int 5))))
      (fRetC (fHo (Φ 12) 0 0 (fCons (fC .non) (fCons (fC (.int 18)) fNil)) 2 (fLet (fCB intST (fCons (fOp addT (fC (.str "1")) (fOp mulT (fC (.str "0")) (fVar 2))) fNil)))))
      fNext)
      (fSeqS (fIfS (fTest (fOp (oBl eqST) (fVar 1) (fC (.int 6))))
      (fRetC (fHo (Φ 12) 0 0 (fCons (fC .non) (fCons (fC (.int 18)) fNil)) 2 (fLet (fCB intST (fCons (fOp mulT (fC (.str "9")) (fOp addT (fC (.int 1)) (fVar 2))) fNil)))))
      fNext)
      (fRetC (fHo (Φ 12) 0 0 (fCons (fC .non) (fCons (fOp powT (fC (.int 10)) (fC (.int 9))) fNil)) 2 (fHe (fOp mulT (fVar 2) (fOp powT (fC (.int 10)) (fC (.int 9)))) 3 (fHo (Φ 12) 0 0 (fCons (fC .non) (fCons (fOp powT (fC (.int 10)) (fC (.int 9))) fNil)) 4 (fLet (fOp addT (fVar 3) (fVar 4)))))))))))
def s_15 (Φ : Nat → List T → Option T) (M : Nat) : FS :=
  (fSeqS (fSet (fCB (Φ 13) fNil) 1)
      (fSeqS (fSet (fC (.str "abcdefghijklmnopqrstuvwxyz")) 2)
      (fSeqS (fSet (fOp addT (fVar 2) (fC (.str "ABCDEFGHIJKLMNOPQRSTUVWXYZ0123456789_"))) 3)
      (fSeqS (fSetC (fHo (Φ 12) 0 0 (fCons (fC .non) (fCons (fC (.int 26)) fNil)) 9 (fLet (fOp ixT (fVar 2) (fVar 9)))) 4)
      (fSeqS (fCallR (Φ 12) 0 0 (fCons (fC .non) (fCons (fC (.int 4)) fNil)) 5)
      (fSeqS (fIfC (fTestC (fHo (Φ 12) 0 0 (fCons (fC .non) (fCons (fC (.int 16)) fNil)) 9 (fLet (fOp (oBl eqST) (fVar 9) (fC (.int 5))))))
      (fSet (fC (.int 40)) 5)
      fNext)
      (fSeqS (fIfC (fTestC (fHo (Φ 12) 0 0 (fCons (fC .non) (fCons (fC (.int 4)) fNil)) 9 (fLet (fOp (oBl eqST) (fVar 9) (fC (.int 3))))))
      (fSeqS (fSet (fLc (fSeq (fVar 1)) 8 (fTest (fUn (predT Txt.islower) (fVar 8))) (fVar 8) [8]) 7)
      (fSeqS (fSetC (fHo (Φ 12) 0 0 (fCons (fC .non) (fCons (fC (.int 18)) fNil)) 9 (fLet (fOp ixT (fVar 7) (fVar 9)))) 4)
      (fSetC (fHo (Φ 12) 0 0 (fCons (fC .non) (fCons (fCB lenT (fCons (fVar 4) fNil)) fNil)) 9 (fLet (fSl slT (fVar 4) foNone (foSome (fOp addT (fC (.int 1)) (fVar 9)))))) 4)))
      fNext)
      (fSeqS (fFor (fR1 (fVar 5)) (gtNm 6)
      (fSetC (fHo (Φ 12) 0 0 (fCons (fC .non) (fCons (fC (.int 63)) fNil)) 9 (fLet (fOp addT (fVar 4) (fOp ixT (fVar 3) (fVar 9))))) 4))
      (fSeqS (fIfS (fTest (fOp (memDT false) (fVar 4) (fVar 1)))
      (fSet (fOp addT (fVar 4) (fC (.str "_"))) 4)
      fNext)
      (fRet (fVar 4)))))))))))
def s_16 (Φ : Nat → List T → Option T) (M : Nat) : FS :=
  (fSeqS (fOwn (fLst fNil) 1)
      (fSeqS (fForC (fHo (Φ 12) 0 0 (fCons (fC .non) (fCons (fC (.int 4)) fNil)) 4 (fLet (fOp addT (fC (.int 1)) (fVar 4)))) (gtNm 2)
      (fSeqS (fCallR (Φ 15) 0 0 (fCons (fC .non) fNil) 3)
      (fSeqS (fIfS (fTest (fOp (memDT false) (fVar 3) (fVar 1)))
      (fSet (fOp addT (fCB maxLenT (fCons (fVar 1) fNil)) (fC (.str "_z"))) 3)
      fNext)
      (fApp 1 (pVar 1) (fVar 3)))))
      (fRet (fVar 1))))
def s_17 (Φ : Nat → List T → Option T) (M : Nat) : FS :=
  (fSeqS (fIfS (fTest (fOp (oBl eqST) (fVar 1) (fC (.int 0))))
      (fSeqS (fIfC (fTestC (fHo (Φ 12) 0 0 (fCons (fC .non) (fCons (fC (.int 3)) fNil)) 7 (fLet (fOp (oBl eqST) (fVar 7) (fC (.int 0))))))
      (fRetC (fHo (Φ 14) 0 0 (fCons (fC .non) fNil) 7 (fLet (fTup (fCons (fC (.str "number")) (fCons (fVar 7) fNil))))))
      fNext)
      (fRetC (fHo (Φ 12) 0 0 (fCons (fC .non) (fCons (fCB lenT (fCons (fVar 2) fNil)) fNil)) 7 (fLet (fTup (fCons (fC (.str "name")) (fCons (fOp ixT (fVar 2) (fVar 7)) fNil)))))))
      fNext)
      (fSeqS (fCallR (Φ 12) 0 0 (fCons (fC .non) (fCons (fC (.int 8)) fNil)) 3)
      (fSeqS (fIfS (fTest (fOp (oBl eqST) (fVar 3) (fC (.int 5))))
      (fRetC (fHo (Φ 17) 0 0 (fCons (fC .non) (fCons (fOp subT (fVar 1) (fC (.int 1))) (fCons (fVar 2) fNil))) 7 (fLet (fTup (fCons (fC (.str "negative")) (fCons (fVar 7) fNil))))))
      fNext)
      (fSeqS (fIfS (fTest (fOp gtT (fVar 3) (fC (.int 5))))
      (fSeqS (fSet (fOp ixT (fLst (fCons (fC (.str "quotient")) (fCons (fC (.str "remainder")) fNil))) (fOp subT (fVar 3) (fC (.int 6)))) 6)
      (fRetC (fHo (Φ 17) 0 0 (fCons (fC .non) (fCons (fOp subT (fVar 1) (fC (.int 1))) (fCons (fVar 2) fNil))) 7 (fHo (Φ 14) 0 0 (fCons (fC .non) fNil) 8 (fLet (fTup (fCons (fVar 6) (fCons (fVar 7) (fCons (fCB max2T (fCons (fC (.int 1)) (fCons (fVar 8) fNil))) fNil)))))))))
      fNext)
      (fSeqS (fCallR (Φ 12) 0 0 (fCons (fC .non) (fCons (fVar 1) fNil)) 4)
      (fSeqS (fCallR (Φ 17) 0 0 (fCons (fC .non) (fCons (fVar 4) (fCons (fVar 2) fNil))) 5)
      (fSeqS (fSet (fOp ixT (fLst (fCons (fC (.str "plus")) (fCons (fC (.str "minus")) (fCons (fC (.str "times")) (fCons (fC (.str "least")) (fCons (fC (.str "most")) fNil)))))) (fVar 3)) 6)
      (fRetC (fHo (Φ 17) 0 0 (fCons (fC .non) (fCons (fOp subT (fOp subT (fVar 1) (fC (.int 1))) (fVar 4)) (fCons (fVar 2) fNil))) 7 (fLet (fTup (fCons (fVar 6) (fCons (fVar 5) (fCons (fVar 7) fNil))))))))))))))
def s_18 (Φ : Nat → List T → Option T) (M : Nat) : FS :=
  (fSeqS (fSetC (fHe (fLst (fCons (fC (.str "equal")) (fCons (fC (.str "below")) (fCons (fC (.str "upto")) fNil)))) 6 (fHo (Φ 12) 0 0 (fCons (fC .non) (fCons (fC (.int 3)) fNil)) 7 (fLet (fOp ixT (fVar 6) (fVar 7))))) 3)
      (fSeqS (fCallR (Φ 12) 0 0 (fCons (fC .non) (fCons (fOp addT (fVar 1) (fC (.int 1))) fNil)) 4)
      (fSeqS (fCallR (Φ 17) 0 0 (fCons (fC .non) (fCons (fVar 4) (fCons (fVar 2) fNil))) 5)
      (fRetC (fHo (Φ 17) 0 0 (fCons (fC .non) (fCons (fOp subT (fVar 1) (fVar 4)) (fCons (fVar 2) fNil))) 6 (fLet (fTup (fCons (fVar 3) (fCons (fVar 5) (fCons (fVar 6) fNil))))))))))
def s_19 (Φ : Nat → List T → Option T) (M : Nat) : FS :=
  (fSeqS (fIfS (fTest (fOp (oBl eqST) (fVar 1) (fC (.int 0))))
      (fRetC (fHe (fLst (fCons (fC (.str "true")) (fCons (fC (.str "false")) fNil))) 7 (fHo (Φ 12) 0 0 (fCons (fC .non) (fCons (fC (.int 2)) fNil)) 8 (fLet (fTup (fCons (fOp ixT (fVar 7) (fVar 8)) fNil))))))
      fNext)
      (fSeqS (fCallR (Φ 12) 0 0 (fCons (fC .non) (fCons (fC (.int 8)) fNil)) 3)
      (fSeqS (fIfS (fTest (fOp ltT (fVar 3) (fC (.int 3))))
      (fRetC (fHo (Φ 18) 0 0 (fCons (fC .non) (fCons (fOp subT (fVar 1) (fC (.int 1))) (fCons (fVar 2) fNil))) 7 (fLet (fVar 7))))
      fNext)
      (fSeqS (fIfS (fTest (fOp (oBl eqST) (fVar 3) (fC (.int 3))))
      (fRetC (fHo (Φ 19) 0 0 (fCons (fC .non) (fCons (fOp subT (fVar 1) (fC (.int 1))) (fCons (fVar 2) fNil))) 7 (fLet (fTup (fCons (fC (.str "not")) (fCons (fVar 7) fNil))))))
      fNext)
      (fSeqS (fCallR (Φ 12) 0 0 (fCons (fC .non) (fCons (fVar 1) fNil)) 4)
      (fSeqS (fCallR (Φ 19) 0 0 (fCons (fC .non) (fCons (fVar 4) (fCons (fVar 2) fNil))) 5)
      (fSeqS (fSet (fOp ixT (fLst (fCons (fC (.str "and")) (fCons (fC (.str "or")) (fCons (fC (.str "implies")) (fCons (fC (.str "same")) fNil))))) (fOp subT (fVar 3) (fC (.int 4)))) 6)
      (fRetC (fHo (Φ 19) 0 0 (fCons (fC .non) (fCons (fOp subT (fOp subT (fVar 1) (fC (.int 1))) (fVar 4)) (fCons (fVar 2) fNil))) 7 (fLet (fTup (fCons (fVar 6) (fCons (fVar 5) (fCons (fVar 7) fNil))))))))))))))
def s_20 (Φ : Nat → List T → Option T) (M : Nat) : FS :=
  (fSeqS (fForC (fHo (Φ 12) 0 0 (fCons (fC .non) (fCons (fC (.int 9)) fNil)) 5 (fLet (fOp addT (fC (.int 16)) (fVar 5)))) (gtNm 3)
      (fSeqS (fCallR (Φ 12) 0 0 (fCons (fC .non) (fCons (fC (.int 3)) fNil)) 4)
      (fIfS (fAnd (fTest (fVar 2)) (fTest (fOp (oBl eqST) (fVar 4) (fC (.int 0)))))
      (fSet (fTup (fCons (fC (.str "negative")) (fCons (fVar 1) fNil))) 1)
      (fIfS (fAnd (fTest (fVar 2)) (fTest (fOp (oBl eqST) (fVar 4) (fC (.int 1)))))
      (fSetC (fHo (Φ 12) 0 0 (fCons (fC .non) (fCons (fC (.int 10)) fNil)) 5 (fLet (fTup (fCons (fC (.str "plus")) (fCons (fTup (fCons (fC (.str "number")) (fCons (fVar 5) fNil))) (fCons (fVar 1) fNil)))))) 1)
      (fIfS (fTest (fVar 2))
      (fSetC (fHo (Φ 14) 0 0 (fCons (fC .non) fNil) 5 (fLet (fTup (fCons (fC (.str "least")) (fCons (fVar 1) (fCons (fTup (fCons (fC (.str "number")) (fCons (fVar 5) fNil))) fNil)))))) 1)
      (fIfS (fTest (fOp (oBl eqST) (fVar 4) (fC (.int 0))))
      (fSet (fTup (fCons (fC (.str "not")) (fCons (fVar 1) fNil))) 1)
      (fIfS (fTest (fOp (oBl eqST) (fVar 4) (fC (.int 1))))
      (fSet (fTup (fCons (fC (.str "same")) (fCons (fTup (fCons (fC (.str "false")) fNil)) (fCons (fVar 1) fNil)))) 1)
      (fSetC (fHe (fTup (fCons (fC (.str "number")) (fCons (fC (.int 1)) fNil))) 5 (fHo (Φ 12) 0 0 (fCons (fC .non) (fCons (fC (.int 4)) fNil)) 6 (fLet (fTup (fCons (fC (.str "implies")) (fCons (fVar 1) (fCons (fTup (fCons (fC (.str "below")) (fCons (fVar 5) (fCons (fTup (fCons (fC (.str "number")) (fCons (fVar 6) fNil))) fNil)))) fNil))))))) 1))))))))
      (fRet (fVar 1)))
def s_21 (Φ : Nat → List T → Option T) (M : Nat) : FS :=
  (fIfS (fTest (fOp (oBl eqST) (fOp ixT (fVar 0) (fC (.int 0))) (fC (.str "name"))))
      (fIfS (fTest (fOp (memDT true) (fOp ixT (fVar 0) (fC (.int 1))) (fVar 1)))
      (fApp 1 (pVar 1) (fOp ixT (fVar 0) (fC (.int 1))))
      fNext)
      (fFor (fSeq (fSl slT (fVar 0) (foSome (fC (.int 1))) foNone)) (gtNm 2)
      (fIfS (fTest (fIsi Ty.tuple (fVar 2)))
      (fCallP (Φ 21) 1 1 (fCons (fVar 2) (fCons (fC .non) fNil)))
      fNext)))
def s_22 (Φ : Nat → List T → Option T) (M : Nat) : FS :=
  (fSeqS (fSet (fOp ixT (fVar 0) (fC (.int 0))) 2)
      (fSeqS (fIfS (fTest (fOp (oBl eqST) (fVar 2) (fC (.str "number"))))
      (fRet (fOp ixT (fVar 0) (fC (.int 1))))
      fNext)
      (fSeqS (fIfS (fTest (fOp (oBl eqST) (fVar 2) (fC (.str "name"))))
      (fRet (fOp dgetT (fVar 1) (fOp ixT (fVar 0) (fC (.int 1)))))
      fNext)
      (fSeqS (fSet (fCB (Φ 22) (fCons (fOp ixT (fVar 0) (fC (.int 1))) (fCons (fVar 1) fNil))) 3)
      (fSeqS (fIfS (fTest (fOp (oBl eqST) (fVar 2) (fC (.str "negative"))))
      (fRet (fUn negT (fVar 3)))
      fNext)
      (fSeqS (fIfS (fTest (fOp (oBl eqST) (fVar 2) (fC (.str "quotient"))))
      (fRet (fOp fdivWT (fVar 3) (fOp ixT (fVar 0) (fC (.int 2)))))
      fNext)
      (fSeqS (fIfS (fTest (fOp (oBl eqST) (fVar 2) (fC (.str "remainder"))))
      (fRet (fOp subT (fVar 3) (fOp mulWT (fOp fdivWT (fVar 3) (fOp ixT (fVar 0) (fC (.int 2)))) (fOp ixT (fVar 0) (fC (.int 2))))))
      fNext)
      (fSeqS (fSet (fCB (Φ 22) (fCons (fOp ixT (fVar 0) (fC (.int 2))) (fCons (fVar 1) fNil))) 4)
      (fSeqS (fIfS (fTest (fOp (oBl eqST) (fVar 2) (fC (.str "plus"))))
      (fRet (fOp addT (fVar 3) (fVar 4)))
      fNext)
      (fSeqS (fIfS (fTest (fOp (oBl eqST) (fVar 2) (fC (.str "minus"))))
      (fRet (fOp subT (fVar 3) (fVar 4)))
      fNext)
      (fSeqS (fIfS (fTest (fOp (oBl eqST) (fVar 2) (fC (.str "times"))))
      (fRet (fOp mulWT (fVar 3) (fVar 4)))
      fNext)
      (fSeqS (fIfS (fTest (fOp (oBl eqT) (fOp (oBl eqST) (fVar 2) (fC (.str "least"))) (fOp ltT (fVar 3) (fVar 4))))
      (fRet (fVar 3))
      fNext)
      (fRet (fVar 4))))))))))))))
def s_23 (Φ : Nat → List T → Option T) (M : Nat) : FS :=
  (fSeqS (fSet (fOp ixT (fVar 0) (fC (.int 0))) 2)
      (fSeqS (fIfS (fOr (fTest (fOp (oBl eqST) (fVar 2) (fC (.str "true")))) (fTest (fOp (oBl eqST) (fVar 2) (fC (.str "false")))))
      (fRet (fOp (oBl eqST) (fVar 2) (fC (.str "true"))))
      fNext)
      (fSeqS (fIfS (fTest (fOp (memDT false) (fVar 2) (fLst (fCons (fC (.str "equal")) (fCons (fC (.str "below")) (fCons (fC (.str "upto")) fNil))))))
      (fSeqS (fSet (fCB (Φ 22) (fCons (fOp ixT (fVar 0) (fC (.int 1))) (fCons (fVar 1) fNil))) 3)
      (fSeqS (fSet (fCB (Φ 22) (fCons (fOp ixT (fVar 0) (fC (.int 2))) (fCons (fVar 1) fNil))) 4)
      (fSeqS (fIfS (fTest (fOp (oBl eqST) (fVar 2) (fC (.str "equal"))))
      (fRet (fOp (oBl eqT) (fVar 3) (fVar 4)))
      fNext)
      (fRet (fOrV (fOp ltT (fVar 3) (fVar 4)) (fAndV (fOp (oBl eqST) (fVar 2) (fC (.str "upto"))) (fOp (oBl eqT) (fVar 3) (fVar 4))))))))
      fNext)
      (fSeqS (fSet (fCB (Φ 23) (fCons (fOp ixT (fVar 0) (fC (.int 1))) (fCons (fVar 1) fNil))) 3)
      (fSeqS (fIfS (fTest (fOp (oBl eqST) (fVar 2) (fC (.str "not"))))
      (fRet (fNotV (fVar 3)))
      fNext)
      (fSeqS (fSet (fCB (Φ 23) (fCons (fOp ixT (fVar 0) (fC (.int 2))) (fCons (fVar 1) fNil))) 4)
      (fSeqS (fIfS (fTest (fOp (oBl eqST) (fVar 2) (fC (.str "and"))))
      (fRet (fAndV (fVar 3) (fVar 4)))
      fNext)
      (fSeqS (fIfS (fTest (fOp (oBl eqST) (fVar 2) (fC (.str "or"))))
      (fRet (fOrV (fVar 3) (fVar 4)))
      fNext)
      (fSeqS (fIfS (fTest (fOp (oBl eqST) (fVar 2) (fC (.str "implies"))))
      (fRet (fOrV (fVar 4) (fNotV (fVar 3))))
      fNext)
      (fRet (fOp (oBl eqT) (fVar 3) (fVar 4))))))))))))
def s_24 (Φ : Nat → List T → Option T) (M : Nat) : FS :=
  (fTry (cfOne 51) 3 [] (fSeqS (fIfS (fTest (fVar 1))
      (fRet (fTup (fCons (fC (.str "known")) (fCons (fCB (Φ 3) (fCons (fVar 0) (fCons (fVar 2) fNil))) fNil))))
      fNext)
      (fRet (fTup (fCons (fC (.str "known")) (fCons (fCB (Φ 4) (fCons (fVar 0) (fCons (fVar 2) fNil))) fNil))))) (xIf (fTest (fVar 1)) (xAt (fC (.str "known")) (xCall (fun ts => ((Φ 1003) ts).bind decX) (fCons (fVar 0) (fCons (fVar 2) fNil)))) (xAt (fC (.str "known")) (xCall (fun ts => ((Φ 1004) ts).bind decX) (fCons (fVar 0) (fCons (fVar 2) fNil)))))
      (qSeq (qIf (qOr (qNot (qVal (qIsx 51 true))) (qOr (qNot (qVal (qIsx 51 true))) (qNot (qVal (qIsi .str (qFld 51 "name")))))) (qRet (qTup (qaC (qC (.str "wrong")) (qaC (qC (.int (0))) qaN)))) qNx)
      (qRet (qTup (qaC (qC (.str "unknown")) (qaC (qFld 51 "name") qaN))))))
def s_25 (Φ : Nat → List T → Option T) (M : Nat) : FS :=
  (fSeqS (fFor (fSeq (fVar 3)) (gtNm 4)
      (fIfS (fTest (fOp (dinT true) (fVar 4) (fVar 2)))
      (fRet (fTup (fCons (fC (.str "unknown")) (fCons (fVar 4) fNil))))
      fNext))
      (fSeqS (fIfS (fTest (fVar 1))
      (fRet (fTup (fCons (fC (.str "known")) (fCons (fCB (Φ 22) (fCons (fVar 0) (fCons (fVar 2) fNil))) fNil))))
      fNext)
      (fRet (fTup (fCons (fC (.str "known")) (fCons (fCB (Φ 23) (fCons (fVar 0) (fCons (fVar 2) fNil))) fNil))))))
def s_26 (Φ : Nat → List T → Option T) (M : Nat) : FS :=
  (fSeqS (fOwn (fCB (Φ 11) (fCons (fVar 0) fNil)) 1)
      (fSeqS (fSetC (fHo (Φ 12) 1 0 (fCons (fC .non) (fCons (fC (.int 2)) fNil)) 14 (fLet (fOp (oBl eqST) (fVar 14) (fC (.int 1))))) 2)
      (fSeqS (fCallR (Φ 12) 1 0 (fCons (fC .non) (fCons (fC (.int 12)) fNil)) 3)
      (fSeqS (fCallR (Φ 12) 1 0 (fCons (fC .non) (fCons (fC (.int 12)) fNil)) 4)
      (fSeqS (fCallR (Φ 16) 1 0 (fCons (fC .non) fNil) 5)
      (fSeqS (fIfS (fTest (fVar 2))
      (fCallR (Φ 17) 1 0 (fCons (fC .non) (fCons (fVar 3) (fCons (fVar 5) fNil))) 12)
      (fCallR (Φ 19) 1 0 (fCons (fC .non) (fCons (fVar 3) (fCons (fVar 5) fNil))) 12))
      (fSeqS (fIfC (fTestC (fHo (Φ 12) 1 0 (fCons (fC .non) (fCons (fC (.int 8)) fNil)) 14 (fLet (fOp (oBl eqST) (fVar 14) (fC (.int 5))))))
      (fCallR (Φ 20) 1 0 (fCons (fC .non) (fCons (fVar 12) (fCons (fVar 2) fNil))) 12)
      fNext)
      (fSeqS (fOwn fDNew 6)
      (fSeqS (fFor (fR1 (fCB lenT (fCons (fVar 5) fNil))) (gtNm 7)
      (fSeqS (fSetC (fHo (Φ 14) 1 0 (fCons (fC .non) fNil) 14 (fHe (fLst (fCons (fC (.int 1)) (fCons (fUn negT (fC (.int 1))) fNil))) 15 (fHo (Φ 12) 1 0 (fCons (fC .non) (fCons (fC (.int 2)) fNil)) 16 (fLet (fOp mulT (fVar 14) (fOp ixT (fVar 15) (fVar 16))))))) 13)
      (fIfS (fOr (fTest (fOp gtT (fVar 4) (fC (.int 3)))) (fTest (fOp (oNb eqT) (fOp modT (fCB intT (fCons (fVar 4) fNil)) (fCB lenT (fCons (fVar 5) fNil))) (fVar 7))))
      (fDPut 6 (pVar 6) (fOp ixT (fVar 5) (fVar 7)) (fVar 13))
      fNext)))
      (fSeqS (fOwn (fLst fNil) 8)
      (fSeqS (fCallP (Φ 21) 8 1 (fCons (fVar 12) (fCons (fC .non) fNil)))
      (fSeqS (fSet (fCB (Φ 0) (fCons (fVar 12) fNil)) 9)
      (fSeqS (fIfS (fOr (fNot (fTest (fIsi Ty.list (fVar 9)))) (fTest (fOp (oNb eqT) (fVar 9) (fVar 8))))
      (fRet (fC (.bl false)))
      fNext)
      (fSeqS (fSet (fDcp (fVar 6)) 10)
      (fSeqS (fSet (fCB (Φ 24) (fCons (fVar 12) (fCons (fVar 2) (fCons (fVar 10) fNil)))) 11)
      (fSeqS (fIfS (fTest (fOp (eqDcT true) (fVar 10) (fVar 6)))
      (fRet (fC (.bl false)))
      fNext)
      (fSeqS (fIfS (fAnd (fTest (fOp (oBl eqST) (fOp ixT (fVar 11) (fC (.int 0))) (fC (.str "known")))) (fAnd (fTest (fVar 2)) (fNot (fTest (fCB (Φ 10) (fCons (fOp ixT (fVar 11) (fC (.int 1))) fNil))))))
      (fRet (fC (.bl false)))
      fNext)
      (fSeqS (fIfS (fAnd (fTest (fOp (oBl eqST) (fOp ixT (fVar 11) (fC (.int 0))) (fC (.str "known")))) (fAnd (fNot (fTest (fVar 2))) (fNot (fTest (fIsi Ty.bool (fOp ixT (fVar 11) (fC (.int 1))))))))
      (fRet (fC (.bl false)))
      fNext)
      (fRet (fOp (oBl eqT) (fVar 11) (fCB (Φ 25) (fCons (fVar 12) (fCons (fVar 2) (fCons (fVar 6) (fCons (fVar 8) fNil)))))))))))))))))))))))))
def x_3 (Φ : Nat → List T → Option T) (M : Nat) : FX :=
  (xCall (fun ts => ((Φ 1005) ts).bind decX) (fCons (fVar 0) (fCons (fVar 1) fNil)))
def x_4 (Φ : Nat → List T → Option T) (M : Nat) : FX :=
  (xCall (fun ts => ((Φ 1005) ts).bind decX) (fCons (fVar 0) (fCons (fVar 1) fNil)))
def x_5 (Φ : Nat → List T → Option T) (M : Nat) : FX :=
  (xFor (fSeq (fCB (Φ 0) (fCons (fVar 0) fNil))) (gtNm 2) (fIfS (fTest (fOp (dinT true) (fVar 2) (fVar 1)))
      fNo
      fNext) (xIf (fTest (fOp (dinT true) (fVar 2) (fVar 1))) (xRz 51 "name" (fVar 2)) xNo))
section
def fuB (M : Nat) (Φ : Nat → List T → Option T) : Nat → List T → Option T
  | 0 => funT true 1 2 (s_0 Φ M)
  | 1 => funP false 1 2 3 (s_1 Φ M)
  | 2 => funT true 1 2 (s_2 Φ M)
  | 3 => funT false 2 2 (s_3 Φ M)
  | 4 => funT false 2 2 (s_4 Φ M)
  | 5 => funT false 2 3 (s_5 Φ M)
  | 6 => funT false 2 4 (s_6 Φ M)
  | 7 => funT false 3 3 (s_7 Φ M)
  | 8 => funT false 2 4 (s_8 Φ M)
  | 9 => funT false 4 4 (s_9 Φ M)
  | 10 => funT false 1 1 (s_10 Φ M)
  | 11 => funT true 1 3 (s_11 Φ M)
  | 12 => funP true 0 2 4 (s_12 Φ M)
  | 13 => funT true 0 1 (s_13 Φ M)
  | 14 => funP true 0 1 2 (s_14 Φ M)
  | 15 => funP true 0 1 9 (s_15 Φ M)
  | 16 => funP true 0 1 4 (s_16 Φ M)
  | 17 => funP true 0 3 7 (s_17 Φ M)
  | 18 => funP true 0 3 6 (s_18 Φ M)
  | 19 => funP true 0 3 7 (s_19 Φ M)
  | 20 => funP true 0 3 5 (s_20 Φ M)
  | 21 => funP false 1 2 3 (s_21 Φ M)
  | 22 => funT false 2 5 (s_22 Φ M)
  | 23 => funT false 2 5 (s_23 Φ M)
  | 24 => funT false 3 4 (s_24 Φ M)
  | 25 => funT false 4 5 (s_25 Φ M)
  | 26 => funT false 1 14 (s_26 Φ M)
  | 1003 => fun ts => (funX 2 2 (x_3 Φ M) ts).map encX
  | 1004 => fun ts => (funX 2 2 (x_4 Φ M) ts).map encX
  | 1005 => fun ts => (funX 2 3 (x_5 Φ M) ts).map encX
  | _ => fun _ => none
def fu (M : Nat) : Nat → Nat → List T → Option T
  | 0 => fun _ _ => none
  | k + 1 => fuB M (fu M k)
theorem u_3 {M k : Nat} {xs : List T} : fu M (k + 1) 3 xs = funT false 2 2 (s_3 (fu M k) M) xs := rfl
theorem u_4 {M k : Nat} {xs : List T} : fu M (k + 1) 4 xs = funT false 2 2 (s_4 (fu M k) M) xs := rfl
theorem u_5 {M k : Nat} {xs : List T} : fu M (k + 1) 5 xs = funT false 2 3 (s_5 (fu M k) M) xs := rfl
theorem u_6 {M k : Nat} {xs : List T} : fu M (k + 1) 6 xs = funT false 2 4 (s_6 (fu M k) M) xs := rfl
theorem u_7 {M k : Nat} {xs : List T} : fu M (k + 1) 7 xs = funT false 3 3 (s_7 (fu M k) M) xs := rfl
theorem u_8 {M k : Nat} {xs : List T} : fu M (k + 1) 8 xs = funT false 2 4 (s_8 (fu M k) M) xs := rfl
theorem u_9 {M k : Nat} {xs : List T} : fu M (k + 1) 9 xs = funT false 4 4 (s_9 (fu M k) M) xs := rfl
theorem u_10 {M k : Nat} {xs : List T} : fu M (k + 1) 10 xs = funT false 1 1 (s_10 (fu M k) M) xs := rfl
theorem u_18 {M k : Nat} {xs : List T} : fu M (k + 1) 18 xs = funP true 0 3 6 (s_18 (fu M k) M) xs := rfl
theorem u_20 {M k : Nat} {xs : List T} : fu M (k + 1) 20 xs = funP true 0 3 5 (s_20 (fu M k) M) xs := rfl
theorem u_21 {M k : Nat} {xs : List T} : fu M (k + 1) 21 xs = funP false 1 2 3 (s_21 (fu M k) M) xs := rfl
theorem u_22 {M k : Nat} {xs : List T} : fu M (k + 1) 22 xs = funT false 2 5 (s_22 (fu M k) M) xs := rfl
theorem u_23 {M k : Nat} {xs : List T} : fu M (k + 1) 23 xs = funT false 2 5 (s_23 (fu M k) M) xs := rfl
theorem u_24 {M k : Nat} {xs : List T} : fu M (k + 1) 24 xs = funT false 3 4 (s_24 (fu M k) M) xs := rfl
theorem u_25 {M k : Nat} {xs : List T} : fu M (k + 1) 25 xs = funT false 4 5 (s_25 (fu M k) M) xs := rfl
theorem u_26 {M k : Nat} {xs : List T} : fu M (k + 1) 26 xs = funT false 1 14 (s_26 (fu M k) M) xs := rfl
theorem ux_5 {M k : Nat} {xs : List T} : fu M (k + 1) 1005 xs = (funX 2 3 (x_5 (fu M k) M) xs).map encX := rfl
structure Sims (M k : Nat) : Prop where
  f0 : SF (.l .s) (fn M k 0) (fu M k 0)
  f1 : SFP 1 .any (.d .s) (fn M k 1) (fu M k 1)
  f2 : SF (.l .s) (fn M k 2) (fu M k 2)
  f3 : SF .s (fn M k 3) (fu M k 3)
  f4 : SF .s (fn M k 4) (fu M k 4)
  f5 : SF .s (fn M k 5) (fu M k 5)
  f6 : SF .s (fn M k 6) (fu M k 6)
  f7 : SF .s (fn M k 7) (fu M k 7)
  f8 : SF .s (fn M k 8) (fu M k 8)
  f9 : SF .s (fn M k 9) (fu M k 9)
  f10 : SF .s (fn M k 10) (fu M k 10)
  f11 : SF (.l .s) (fn M k 11) (fu M k 11)
  f12 : SFP 0 (.sh .s) (.l .s) (fn M k 12) (fu M k 12)
  f13 : SF (.l .s) (fn M k 13) (fu M k 13)
  f14 : SFP 0 (.sh .s) (.l .s) (fn M k 14) (fu M k 14)
  f15 : SFP 0 (.sh .s) (.l .s) (fn M k 15) (fu M k 15)
  f16 : SFP 0 (.sh .s) (.l .s) (fn M k 16) (fu M k 16)
  f17 : SFP 0 (.sh .s) (.l .s) (fn M k 17) (fu M k 17)
  f18 : SFP 0 (.sh .s) (.l .s) (fn M k 18) (fu M k 18)
  f19 : SFP 0 (.sh .s) (.l .s) (fn M k 19) (fu M k 19)
  f20 : SFP 0 (.sh .s) (.l .s) (fn M k 20) (fu M k 20)
  f21 : SFP 1 .any (.l .s) (fn M k 21) (fu M k 21)
  f22 : SF .s (fn M k 22) (fu M k 22)
  f23 : SF .s (fn M k 23) (fu M k 23)
  f24 : SF .s (fn M k 24) (fu M k 24)
  f25 : SF .s (fn M k 25) (fu M k 25)
  f26 : SF .s (fn M k 26) (fu M k 26)
  x3 : SRF (fn M k 3) (fun ts => (fu M k 1003 ts).bind decX)
  x4 : SRF (fn M k 4) (fun ts => (fu M k 1004 ts).bind decX)
  x5 : SRF (fn M k 5) (fun ts => (fu M k 1005 ts).bind decX)
theorem qx_3 {M k : Nat} (H : Sims M k) : SRF (fn M (k + 1) 3) (fun ts => (fu M (k + 1) 1003 ts).bind decX) := by
  refine srf_enc (F := runF 2 2 (b_3 (fn M k) M)) (G := funX 2 2 (x_3 (fu M k) M)) (srf_def ?_)
  unfold b_3 x_3
  exact (sr_seq0 (sr_of (srt_drop (sre_call H.x5 (sa_cons (se_var (by decide)) (sa_cons (se_var (by decide)) sa_nil))))))
theorem qx_4 {M k : Nat} (H : Sims M k) : SRF (fn M (k + 1) 4) (fun ts => (fu M (k + 1) 1004 ts).bind decX) := by
  refine srf_enc (F := runF 2 2 (b_4 (fn M k) M)) (G := funX 2 2 (x_4 (fu M k) M)) (srf_def ?_)
  unfold b_4 x_4
  exact (sr_seq0 (sr_of (srt_drop (sre_call H.x5 (sa_cons (se_var (by decide)) (sa_cons (se_var (by decide)) sa_nil))))))
theorem qx_5 {M k : Nat} (H : Sims M k) : SRF (fn M (k + 1) 5) (fun ts => (fu M (k + 1) 1005 ts).bind decX) := by
  refine srf_enc (F := runF 2 3 (b_5 (fn M k) M)) (G := funX 2 3 (x_5 (fu M k) M)) (srf_def ?_)
  unfold b_5 x_5
  exact (sr_for (rs := .sh .s) (si_seq (se_call H.f0 (sa_cons (se_var (by decide)) sa_nil))) (sg_name (by decide) (by decide)) (ss_if (st_test (SE.sn (se_din (sb_var (by decide)) (sb_var (by decide)))))
      ss_none
      ss_next) (sr_if (st_test (SE.sn (se_din (sb_var (by decide)) (sb_var (by decide))))) (sr_of (srt_rz sn_var)) sr_no))
theorem q_0 {M k : Nat} (H : Sims M k) : SF (.l .s) (fn M (k + 1) 0) (fu M (k + 1) 0) := by
  show SF (.l .s) (runF 1 2 (b_0 (fn M k) M)) (funT true 1 2 (s_0 (fu M k) M))
  refine sf_def (wn := []) (wl := []) ?_ (.inr rfl)
  unfold b_0 s_0
  exact (ss_seq (ss_own (sh := (.d .s)) sx_dnew (by decide) (by decide))
      (ss_seq (ss_callP H.f1 (sh := (.d .s)) (by simp) (sah_there (se_var (by decide)) (sah_here sa_nil)))
      (ss_ret (sx_cb x_dkeys (sba_cons (sb_var (by decide)) sba_nil)) (by simp))))
theorem q_1 {M k : Nat} (H : Sims M k) : SFP 1 .any (.d .s) (fn M (k + 1) 1) (fu M (k + 1) 1) := by
  show SFP 1 .any (.d .s) (runF 2 3 (b_1 (fn M k) M)) (funP false 1 2 3 (s_1 (fu M k) M))
  refine sfp_def (wn := [(1, (.d .s))]) (wl := []) ?_ (by first | exact .inl rfl | (right; simp))
  unfold b_1 s_1
  exact (ss_seq (ss_if (st_test (SE.sn (se_opF o_eq fr_bl (SE.sn (se_op o_ix (sb_var (by decide)) (SE.sb (se_c fun _ _ => val_int.mpr rfl)))) (SE.sn (se_c fun _ _ => val_str.mpr rfl)))))
      (ss_seq (ss_dput (sp_var (sh := (.d .s)) (by simp)) (SE.sn (se_op o_ix (sb_var (by decide)) (SE.sb (se_c fun _ _ => val_int.mpr rfl)))) (SE.sx (se_c fun _ _ => val_bl.mpr rfl)))
      (ss_retNA (by simp)))
      ss_next)
      (ss_for (si_seq (se_call H.f2 (sa_cons (se_var (by decide)) sa_nil))) (sg_name (by decide) (by decide))
      (ss_callP H.f1 (sh := (.d .s)) (by simp) (sah_there (se_var (by decide)) (sah_here sa_nil)))))
theorem q_2 {M k : Nat} (H : Sims M k) : SF (.l .s) (fn M (k + 1) 2) (fu M (k + 1) 2) := by
  show SF (.l .s) (runF 1 2 (b_2 (fn M k) M)) (funT true 1 2 (s_2 (fu M k) M))
  refine sf_def (wn := []) (wl := []) ?_ (.inr rfl)
  unfold b_2 s_2
  exact (ss_ret (sx_lc (si_seq (se_sl (sb_var (by decide)) (so_some (SE.sn (se_c fun _ _ => val_int.mpr rfl))) so_none)) (st_test (SE.sn (se_isi sn_var))) (SE.sx (se_var (by decide))) (by decide) (by decide)) (by simp))
theorem q_3 {M k : Nat} (H : Sims M k) : SF .s (fn M (k + 1) 3) (fu M (k + 1) 3) := by
  show SF .s (runF 2 2 (b_3 (fn M k) M)) (funT false 2 2 (s_3 (fu M k) M))
  refine sf_def (wn := []) (wl := []) ?_ (.inl rfl)
  unfold b_3 s_3
  exact (ss_seq (ss_drop (SE.sn (se_call H.f5 (sa_cons (se_var (by decide)) (sa_cons (se_var (by decide)) sa_nil)))))
      (ss_ret (SE.sx (se_call H.f6 (sa_cons (se_var (by decide)) (sa_cons (se_var (by decide)) sa_nil)))) (by simp)))
theorem q_4 {M k : Nat} (H : Sims M k) : SF .s (fn M (k + 1) 4) (fu M (k + 1) 4) := by
  show SF .s (runF 2 2 (b_4 (fn M k) M)) (funT false 2 2 (s_4 (fu M k) M))
  refine sf_def (wn := []) (wl := []) ?_ (.inl rfl)
  unfold b_4 s_4
  exact (ss_seq (ss_drop (SE.sn (se_call H.f5 (sa_cons (se_var (by decide)) (sa_cons (se_var (by decide)) sa_nil)))))
      (ss_ret (SE.sx (se_call H.f8 (sa_cons (se_var (by decide)) (sa_cons (se_var (by decide)) sa_nil)))) (by simp)))
theorem q_5 {M k : Nat} (H : Sims M k) : SF .s (fn M (k + 1) 5) (fu M (k + 1) 5) := by
  show SF .s (runF 2 3 (b_5 (fn M k) M)) (funT false 2 3 (s_5 (fu M k) M))
  refine sf_def (wn := []) (wl := []) ?_ (.inl rfl)
  unfold b_5 s_5
  exact (ss_for (si_seq (se_call H.f0 (sa_cons (se_var (by decide)) sa_nil))) (sg_name (by decide) (by decide))
      (ss_if (st_test (SE.sn (se_din (sb_var (by decide)) (sb_var (by decide)))))
      ss_none
      ss_next))
theorem q_6 {M k : Nat} (H : Sims M k) : SF .s (fn M (k + 1) 6) (fu M (k + 1) 6) := by
  show SF .s (runF 2 4 (b_6 (fn M k) M)) (funT false 2 4 (s_6 (fu M k) M))
  refine sf_def (wn := []) (wl := []) ?_ (.inl rfl)
  unfold b_6 s_6
  exact (ss_seq (ss_set (se_op o_ix (sb_var (by decide)) (SE.sb (se_c fun _ _ => val_int.mpr rfl))) (by decide) (by decide))
      (ss_seq (ss_if (st_test (SE.sn (se_opF o_eq fr_bl sn_var (SE.sn (se_c fun _ _ => val_str.mpr rfl)))))
      (ss_ret (SE.sx (se_op o_ix (sb_var (by decide)) (SE.sb (se_c fun _ _ => val_int.mpr rfl)))) (by simp))
      ss_next)
      (ss_seq (ss_if (st_test (SE.sn (se_opF o_eq fr_bl sn_var (SE.sn (se_c fun _ _ => val_str.mpr rfl)))))
      (ss_ret (SE.sx (se_dget (sb_var (by decide)) (SE.sb (se_op o_ix (sb_var (by decide)) (SE.sb (se_c fun _ _ => val_int.mpr rfl)))))) (by simp))
      ss_next)
      (ss_seq (ss_set (se_call H.f6 (sa_cons (se_op o_ix (sb_var (by decide)) (SE.sb (se_c fun _ _ => val_int.mpr rfl))) (sa_cons (se_var (by decide)) sa_nil))) (by decide) (by decide))
      (ss_seq (ss_if (st_test (SE.sn (se_opF o_eq fr_bl sn_var (SE.sn (se_c fun _ _ => val_str.mpr rfl)))))
      (ss_ret (SE.sx (se_neg sn_var)) (by simp))
      ss_next)
      (ss_seq (ss_if (st_test (SE.sn (se_opF o_eq fr_bl sn_var (SE.sn (se_c fun _ _ => val_str.mpr rfl)))))
      (ss_ret (SE.sx (se_opF o_fdivW fr_fdivW sn_var (SE.sn (se_op o_ix (sb_var (by decide)) (SE.sb (se_c fun _ _ => val_int.mpr rfl)))))) (by simp))
      ss_next)
      (ss_seq (ss_if (st_test (SE.sn (se_opF o_eq fr_bl sn_var (SE.sn (se_c fun _ _ => val_str.mpr rfl)))))
      (ss_ret (SE.sx (se_opF o_mod fr_mod sn_var (SE.sn (se_op o_ix (sb_var (by decide)) (SE.sb (se_c fun _ _ => val_int.mpr rfl)))))) (by simp))
      ss_next)
      (ss_ret (SE.sx (se_call H.f7 (sa_cons (se_var (by decide)) (sa_cons (se_var (by decide)) (sa_cons (se_call H.f6 (sa_cons (se_op o_ix (sb_var (by decide)) (SE.sb (se_c fun _ _ => val_int.mpr rfl))) (sa_cons (se_var (by decide)) sa_nil))) sa_nil))))) (by simp)))))))))
theorem q_7 {M k : Nat} (H : Sims M k) : SF .s (fn M (k + 1) 7) (fu M (k + 1) 7) := by
  show SF .s (runF 3 3 (b_7 (fn M k) M)) (funT false 3 3 (s_7 (fu M k) M))
  refine sf_def (wn := []) (wl := []) ?_ (.inl rfl)
  unfold b_7 s_7
  exact (ss_seq (ss_if (st_test (SE.sn (se_opF o_eq fr_bl sn_var (SE.sn (se_c fun _ _ => val_str.mpr rfl)))))
      (ss_ret (SE.sx (se_op o_add (sb_var (by decide)) (sb_var (by decide)))) (by simp))
      ss_next)
      (ss_seq (ss_if (st_test (SE.sn (se_opF o_eq fr_bl sn_var (SE.sn (se_c fun _ _ => val_str.mpr rfl)))))
      (ss_ret (SE.sx (se_opF o_sub fr_sub sn_var sn_var)) (by simp))
      ss_next)
      (ss_seq (ss_if (st_test (SE.sn (se_opF o_eq fr_bl sn_var (SE.sn (se_c fun _ _ => val_str.mpr rfl)))))
      (ss_ret (SE.sx (se_opF o_mulW fr_mulW sn_var sn_var)) (by simp))
      ss_next)
      (ss_seq (ss_if (st_test (SE.sn (se_opF o_eq fr_bl sn_var (SE.sn (se_c fun _ _ => val_str.mpr rfl)))))
      (ss_ret (SE.sx (se_cbF c_min2 fc_min2 (sna_cons sn_var (sna_cons sn_var sna_nil)))) (by simp))
      ss_next)
      (ss_ret (SE.sx (se_cbF c_max2 fc_max2 (sna_cons sn_var (sna_cons sn_var sna_nil)))) (by simp))))))
theorem q_8 {M k : Nat} (H : Sims M k) : SF .s (fn M (k + 1) 8) (fu M (k + 1) 8) := by
  show SF .s (runF 2 4 (b_8 (fn M k) M)) (funT false 2 4 (s_8 (fu M k) M))
  refine sf_def (wn := []) (wl := []) ?_ (.inl rfl)
  unfold b_8 s_8
  exact (ss_seq (ss_set (se_op o_ix (sb_var (by decide)) (SE.sb (se_c fun _ _ => val_int.mpr rfl))) (by decide) (by decide))
      (ss_seq (ss_if (st_or (st_test (SE.sn (se_opF o_eq fr_bl sn_var (SE.sn (se_c fun _ _ => val_str.mpr rfl))))) (st_test (SE.sn (se_opF o_eq fr_bl sn_var (SE.sn (se_c fun _ _ => val_str.mpr rfl))))))
      (ss_ret (SE.sx (se_opF o_eq fr_bl sn_var (SE.sn (se_c fun _ _ => val_str.mpr rfl)))) (by simp))
      ss_next)
      (ss_seq (ss_if (st_test (SE.sn (se_opF o_eq fr_bl sn_var (SE.sn (se_c fun _ _ => val_str.mpr rfl)))))
      (ss_ret (SE.sx (se_opF o_eqD fr_bl (SE.sn (se_call H.f6 (sa_cons (se_op o_ix (sb_var (by decide)) (SE.sb (se_c fun _ _ => val_int.mpr rfl))) (sa_cons (se_var (by decide)) sa_nil)))) (SE.sn (se_call H.f6 (sa_cons (se_op o_ix (sb_var (by decide)) (SE.sb (se_c fun _ _ => val_int.mpr rfl))) (sa_cons (se_var (by decide)) sa_nil)))))) (by simp))
      ss_next)
      (ss_seq (ss_if (st_test (SE.sn (se_opF o_eq fr_bl sn_var (SE.sn (se_c fun _ _ => val_str.mpr rfl)))))
      (ss_ret (SE.sx (se_opF o_lt fr_lt (SE.sn (se_call H.f6 (sa_cons (se_op o_ix (sb_var (by decide)) (SE.sb (se_c fun _ _ => val_int.mpr rfl))) (sa_cons (se_var (by decide)) sa_nil)))) (SE.sn (se_call H.f6 (sa_cons (se_op o_ix (sb_var (by decide)) (SE.sb (se_c fun _ _ => val_int.mpr rfl))) (sa_cons (se_var (by decide)) sa_nil)))))) (by simp))
      ss_next)
      (ss_seq (ss_if (st_test (SE.sn (se_opF o_eq fr_bl sn_var (SE.sn (se_c fun _ _ => val_str.mpr rfl)))))
      (ss_ret (SE.sx (se_opF o_le fr_le (SE.sn (se_call H.f6 (sa_cons (se_op o_ix (sb_var (by decide)) (SE.sb (se_c fun _ _ => val_int.mpr rfl))) (sa_cons (se_var (by decide)) sa_nil)))) (SE.sn (se_call H.f6 (sa_cons (se_op o_ix (sb_var (by decide)) (SE.sb (se_c fun _ _ => val_int.mpr rfl))) (sa_cons (se_var (by decide)) sa_nil)))))) (by simp))
      ss_next)
      (ss_seq (ss_set (se_call H.f8 (sa_cons (se_op o_ix (sb_var (by decide)) (SE.sb (se_c fun _ _ => val_int.mpr rfl))) (sa_cons (se_var (by decide)) sa_nil))) (by decide) (by decide))
      (ss_seq (ss_if (st_test (SE.sn (se_opF o_eq fr_bl sn_var (SE.sn (se_c fun _ _ => val_str.mpr rfl)))))
      (ss_ret (SE.sx (se_not sn_var)) (by simp))
      ss_next)
      (ss_ret (SE.sx (se_call H.f9 (sa_def (sa_cons (se_var (by decide)) (sa_cons (se_var (by decide)) (sa_cons (se_call H.f8 (sa_cons (se_op o_ix (sb_var (by decide)) (SE.sb (se_c fun _ _ => val_int.mpr rfl))) (sa_cons (se_var (by decide)) sa_nil))) sa_nil))) (fun _ _ => Vals.cons (by simp only [Val]) (Vals.nil))))) (by simp)))))))))
theorem q_9 {M k : Nat} (H : Sims M k) : SF .s (fn M (k + 1) 9) (fu M (k + 1) 9) := by
  show SF .s (runF 4 4 (b_9 (fn M k) M)) (funT false 4 4 (s_9 (fu M k) M))
  refine sf_def (wn := []) (wl := []) ?_ (.inl rfl)
  unfold b_9 s_9
  exact (ss_seq (ss_if (st_test (SE.sn (se_opF o_eq fr_bl sn_var (SE.sn (se_c fun _ _ => val_str.mpr rfl)))))
      (ss_ret (SE.sx (se_opF o_bOp fr_bOp sn_var sn_var)) (by simp))
      ss_next)
      (ss_seq (ss_if (st_test (SE.sn (se_opF o_eq fr_bl sn_var (SE.sn (se_c fun _ _ => val_str.mpr rfl)))))
      (ss_ret (SE.sx (se_opF o_bOp fr_bOp sn_var sn_var)) (by simp))
      ss_next)
      (ss_seq (ss_if (st_test (SE.sn (se_opF o_eq fr_bl sn_var (SE.sn (se_c fun _ _ => val_str.mpr rfl)))))
      (ss_ret (SE.sx (se_opF o_bOp fr_bOp sn_var (SE.sn (se_opF o_bOp fr_bOp sn_var sn_var)))) (by simp))
      ss_next)
      (ss_ret (SE.sx (se_opF o_bOp fr_bOp (SE.sn (se_opF o_bOp fr_bOp sn_var sn_var)) sn_var)) (by simp)))))
theorem q_10 {M k : Nat} (H : Sims M k) : SF .s (fn M (k + 1) 10) (fu M (k + 1) 10) := by
  show SF .s (runF 1 1 (b_10 (fn M k) M)) (funT false 1 1 (s_10 (fu M k) M))
  refine sf_def (wn := []) (wl := []) ?_ (.inl rfl)
  unfold b_10 s_10
  exact (ss_ret (SE.sx (se_and (SE.sn (se_isi sn_var)) (se_not (SE.sn (se_isi sn_var))))) (by simp))
theorem q_11 {M k : Nat} (H : Sims M k) : SF (.l .s) (fn M (k + 1) 11) (fu M (k + 1) 11) := by
  show SF (.l .s) (runF 1 3 (b_11 (fn M k) M)) (funT true 1 3 (s_11 (fu M k) M))
  refine sf_def (wn := []) (wl := []) ?_ (.inr rfl)
  unfold b_11 s_11
  exact (ss_seq (ss_set (se_c fun _ _ => val_int.mpr rfl) (by decide) (by decide))
      (ss_seq (ss_for (si_seq (se_var (by decide))) (sg_name (by decide) (by decide))
      (ss_set (se_opF o_mod fr_mod (SE.sn (se_op o_add (SE.sb (se_op o_add (SE.sb (se_op o_mul (sb_var (by decide)) (SE.sb (se_c fun _ _ => val_int.mpr rfl)))) (SE.sb (se_opF o_mod fr_mod (SE.sn (se_cbF c_int fc_int (sna_cons sn_var sna_nil))) (SE.sn (se_c fun _ _ => val_int.mpr rfl)))))) (SE.sb (se_c fun _ _ => val_int.mpr rfl)))) (SE.sn (se_c fun _ _ => val_int.mpr rfl))) (by decide) (by decide)))
      (ss_ret (sx_lstS (sa_cons (SX.se (sx_cb x_lst (sba_cons (sb_var (by decide)) sba_nil))) (sa_cons (se_c fun _ _ => val_int.mpr rfl) (sa_cons (se_c fun _ _ => val_int.mpr rfl) (sa_cons (se_op o_add (sb_var (by decide)) (SE.sb (se_c fun _ _ => val_int.mpr rfl))) (sa_cons (se_op o_add (SE.sb (se_op o_mul (sb_var (by decide)) (SE.sb (se_c fun _ _ => val_int.mpr rfl)))) (SE.sb (se_c fun _ _ => val_int.mpr rfl))) sa_nil)))))) (by simp))))
theorem q_12 {M k : Nat} (H : Sims M k) : SFP 0 (.sh .s) (.l .s) (fn M (k + 1) 12) (fu M (k + 1) 12) := by
  show SFP 0 (.sh .s) (.l .s) (runF 2 4 (b_12 (fn M k) M)) (funP true 0 2 4 (s_12 (fu M k) M))
  refine sfp_def (wn := [(0, (.l .s))]) (wl := []) ?_ (by first | exact .inl rfl | (right; simp))
  unfold b_12 s_12
  exact (ss_seq (ss_if (st_and (st_test (SE.sn (se_opF o_eq fr_bl (sn_op o_ix sn_var (SE.sn (se_c fun _ _ => val_int.mpr rfl))) (SE.sn (se_c fun _ _ => val_int.mpr rfl))))) (st_test (SE.sn (se_opF o_lt fr_lt (sn_op o_ix sn_var (SE.sn (se_c fun _ _ => val_int.mpr rfl))) (SE.sn (se_cbF c_len fc_len (sna_cons (sn_op o_ix sn_var (SE.sn (se_c fun _ _ => val_int.mpr rfl))) sna_nil)))))))
      (ss_seq (ss_set (se_op o_ix (SE.sb (se_op o_ix (sb_var (by decide)) (SE.sb (se_c fun _ _ => val_int.mpr rfl)))) (SE.sb (se_op o_ix (sb_var (by decide)) (SE.sb (se_c fun _ _ => val_int.mpr rfl))))) (by decide) (by decide))
      (ss_seq (ss_put (sp_var (sh := (.l .s)) (by simp)) (SE.sn (se_c fun _ _ => val_int.mpr rfl)) (SE.sx (se_op o_add (SE.sb (se_op o_ix (sb_var (by decide)) (SE.sb (se_c fun _ _ => val_int.mpr rfl)))) (SE.sb (se_c fun _ _ => val_int.mpr rfl)))))
      (ss_seq (ss_if (st_test (SE.sn (se_opF o_lt fr_lt (SE.sn (se_cbF c_abs fc_abs (sna_cons sn_var sna_nil))) (SE.sn (se_opF o_pow fr_pow (SE.sn (se_c fun _ _ => val_int.mpr rfl)) (SE.sn (se_c fun _ _ => val_int.mpr rfl)))))))
      (ss_ret (SE.sx (se_opF o_mod fr_mod (SE.sn (se_cbF c_int fc_int (sna_cons sn_var sna_nil))) sn_var)) (by simp))
      ss_next)
      (ss_put (sp_var (sh := (.l .s)) (by simp)) (SE.sn (se_c fun _ _ => val_int.mpr rfl)) (SE.sx (se_cbF c_abs fc_abs (sna_cons sn_var sna_nil)))))))
      ss_next)
      (ss_seq (ss_if (st_test (SE.sn (se_opF o_gt fr_gt (sn_op o_ix sn_var (SE.sn (se_c fun _ _ => val_int.mpr rfl))) (SE.sn (se_c fun _ _ => val_int.mpr rfl)))))
      (ss_seq (ss_set (se_opF o_mod fr_mod (SE.sn (se_cbF c_int fc_int (sna_cons (sn_op o_ix sn_var (SE.sn (se_c fun _ _ => val_int.mpr rfl))) sna_nil))) sn_var) (by decide) (by decide))
      (ss_seq (ss_put (sp_var (sh := (.l .s)) (by simp)) (SE.sn (se_c fun _ _ => val_int.mpr rfl)) (SE.sx (se_opF o_fdiv fr_fdiv (sn_op o_ix sn_var (SE.sn (se_c fun _ _ => val_int.mpr rfl))) sn_var)))
      (ss_ret (SE.sx (se_var (by decide))) (by simp))))
      ss_next)
      (ss_seq (ss_put (sp_var (sh := (.l .s)) (by simp)) (SE.sn (se_c fun _ _ => val_int.mpr rfl)) (SE.sx (se_opF o_mod fr_mod (SE.sn (se_cbF c_int fc_int (sna_cons (SE.sn (se_op o_mul (SE.sb (se_op o_ix (sb_var (by decide)) (SE.sb (se_c fun _ _ => val_int.mpr rfl)))) (SE.sb (se_c fun _ _ => val_int.mpr rfl)))) sna_nil))) (SE.sn (se_c fun _ _ => val_int.mpr rfl)))))
      (ss_seq (ss_put (sp_var (sh := (.l .s)) (by simp)) (SE.sn (se_c fun _ _ => val_int.mpr rfl)) (SE.sx (se_opF o_mod fr_mod (SE.sn (se_cbF c_int fc_int (sna_cons (SE.sn (se_op o_add (SE.sb (se_op o_mul (SE.sb (se_op o_ix (sb_var (by decide)) (SE.sb (se_c fun _ _ => val_int.mpr rfl)))) (SE.sb (se_c fun _ _ => val_int.mpr rfl)))) (SE.sb (se_c fun _ _ => val_int.mpr rfl)))) sna_nil))) (SE.sn (se_c fun _ _ => val_int.mpr rfl)))))
      (ss_ret (SE.sx (se_opF o_mod fr_mod (SE.sn (se_cbF c_int fc_int (sna_cons (SE.sn (se_op o_add (SE.sb (se_opF o_fdiv fr_fdiv (sn_op o_ix sn_var (SE.sn (se_c fun _ _ => val_int.mpr rfl))) (SE.sn (se_c fun _ _ => val_int.mpr rfl)))) (SE.sb (se_opF o_fdiv fr_fdiv (sn_op o_ix sn_var (SE.sn (se_c fun _ _ => val_int.mpr rfl))) (SE.sn (se_c fun _ _ => val_int.mpr rfl)))))) sna_nil))) sn_var)) (by simp))))))
theorem q_13 {M k : Nat} (H : Sims M k) : SF (.l .s) (fn M (k + 1) 13) (fu M (k + 1) 13) := by
  show SF (.l .s) (runF 0 1 (b_13 (fn M k) M)) (funT true 0 1 (s_13 (fu M k) M))
  refine sf_def (wn := []) (wl := []) ?_ (.inr rfl)
  unfold b_13 s_13
  exact (ss_seq (ss_set (se_c fun _ _ => val_str.mpr rfl) (by decide) (by decide))
      (ss_ret (sx_split sn_var (SE.sn (se_c fun _ _ => val_str.mpr rfl))) (by simp)))
theorem q_14 {M k : Nat} (H : Sims M k) : SFP 0 (.sh .s) (.l .s) (fn M (k + 1) 14) (fu M (k + 1) 14) := by
  show SFP 0 (.sh .s) (.l .s) (runF 1 2 (b_14 (fn M k) M)) (funP true 0 1 2 (s_14 (fu M k) M))
  refine sfp_def (wn := [(0, (.l .s))]) (wl := []) ?_ (by first | exact .inl rfl | (right; simp))
  unfold b_14 s_14
  exact (ss_seq (ss_callR (sh := (.l .s)) H.f12 (by simp) (sah_here (sa_cons (se_c fun _ _ => val_int.mpr rfl) sa_nil)) (by decide) (by decide))
      (ss_seq (ss_if (st_test (SE.sn (se_opF o_lt fr_lt sn_var (SE.sn (se_c fun _ _ => val_int.mpr rfl)))))
      (ss_retC (sc_ho (sh := (.l .s)) ho_self H.f12 (by simp) (sah_here (sa_cons (se_c fun _ _ => val_int.mpr rfl) sa_nil)) (by decide) (sc_let (se_var (by decide)))) (by simp))
      ss_next)
      (ss_seq (ss_if (st_test (SE.sn (se_opF o_eq fr_bl sn_var (SE.sn (se_c fun _ _ => val_int.mpr rfl)))))
      (ss_retC (sc_ho (sh := (.l .s)) (ho_cb (hoA_hd (ho_op2 stb_c (ho_op2 stb_c ho_self)) apA_nil)) H.f12 (by simp) (sah_here (sa_cons (se_c fun _ _ => val_int.mpr rfl) sa_nil)) (by decide) (sc_let (se_cbF c_intS fc_intS (sna_cons (SE.sn (se_op o_add (SE.sb (se_c fun _ _ => val_str.mpr rfl)) (SE.sb (se_op o_mul (SE.sb (se_c fun _ _ => val_str.mpr rfl)) (sb_var (by decide)))))) sna_nil)))) (by simp))
      ss_next)
      (ss_seq (ss_if (st_test (SE.sn (se_opF o_eq fr_bl sn_var (SE.sn (se_c fun _ _ => val_int.mpr rfl)))))
      (ss_retC (sc_ho (sh := (.l .s)) (ho_cb (hoA_hd (ho_op2 stb_c (ho_op2 stb_c ho_self)) apA_nil)) H.f12 (by simp) (sah_here (sa_cons (se_c fun _ _ => val_int.mpr rfl) sa_nil)) (by decide) (sc_let (se_cbF c_intS fc_intS (sna_cons (SE.sn (se_op o_mul (SE.sb (se_c fun _ _ => val_str.mpr rfl)) (SE.sb (se_op o_add (SE.sb (se_c fun _ _ => val_int.mpr rfl)) (sb_var (by decide)))))) sna_nil)))) (by simp))
      ss_next)
      (ss_retC (sc_ho (sh := (.l .s)) (ho_op1 (ho_op1 ho_self (ap_op ap_c ap_c)) (ap_cb (apA_cons (ap_var (by decide)) (apA_cons (ap_op ap_c ap_c) apA_nil)))) H.f12 (by simp) (sah_here (sa_cons (se_opF o_pow fr_pow (SE.sn (se_c fun _ _ => val_int.mpr rfl)) (SE.sn (se_c fun _ _ => val_int.mpr rfl))) sa_nil)) (by decide) (sc_he (ho_op1 ho_self (ap_cb (apA_cons (ap_var (by decide)) (apA_cons (ap_op ap_c ap_c) apA_nil)))) (se_op o_mul (sb_var (by decide)) (SE.sb (se_opF o_pow fr_pow (SE.sn (se_c fun _ _ => val_int.mpr rfl)) (SE.sn (se_c fun _ _ => val_int.mpr rfl))))) (by decide) (sc_ho (sh := (.l .s)) (ho_op2 (stb_var (by decide)) ho_self) H.f12 (by simp) (sah_here (sa_cons (se_opF o_pow fr_pow (SE.sn (se_c fun _ _ => val_int.mpr rfl)) (SE.sn (se_c fun _ _ => val_int.mpr rfl))) sa_nil)) (by decide) (sc_let (se_op o_add (sb_var (by decide)) (sb_var (by decide))))))) (by simp))))))
theorem q_15 {M k : Nat} (H : Sims M k) : SFP 0 (.sh .s) (.l .s) (fn M (k + 1) 15) (fu M (k + 1) 15) := by
  show SFP 0 (.sh .s) (.l .s) (runF 1 9 (b_15 (fn M k) M)) (funP true 0 1 9 (s_15 (fu M k) M))
  refine sfp_def (wn := [(0, (.l .s))]) (wl := []) ?_ (by first | exact .inl rfl | (right; simp))
  unfold b_15 s_15
  exact (ss_seq (ss_set (se_call H.f13 sa_nil) (by decide) (by decide))
      (ss_seq (ss_set (se_c fun _ _ => val_str.mpr rfl) (by decide) (by decide))
      (ss_seq (ss_set (se_op o_add (sb_var (by decide)) (SE.sb (se_c fun _ _ => val_str.mpr rfl))) (by decide) (by decide))
      (ss_seq (ss_setC (sc_ho (sh := (.l .s)) (ho_op2 (stb_var (by decide)) ho_self) H.f12 (by simp) (sah_here (sa_cons (se_c fun _ _ => val_int.mpr rfl) sa_nil)) (by decide) (sc_let (se_op o_ix (sb_var (by decide)) (sb_var (by decide))))) (by decide) (by decide))
      (ss_seq (ss_callR (sh := (.l .s)) H.f12 (by simp) (sah_here (sa_cons (se_c fun _ _ => val_int.mpr rfl) sa_nil)) (by decide) (by decide))
      (ss_seq (ss_ifC (sct_test (sc_ho (sh := (.l .s)) (ho_op1 ho_self ap_c) H.f12 (by simp) (sah_here (sa_cons (se_c fun _ _ => val_int.mpr rfl) sa_nil)) (by decide) (sc_let (se_opF o_eq fr_bl sn_var (SE.sn (se_c fun _ _ => val_int.mpr rfl))))))
      (ss_set (se_c fun _ _ => val_int.mpr rfl) (by decide) (by decide))
      ss_next)
      (ss_seq (ss_ifC (sct_test (sc_ho (sh := (.l .s)) (ho_op1 ho_self ap_c) H.f12 (by simp) (sah_here (sa_cons (se_c fun _ _ => val_int.mpr rfl) sa_nil)) (by decide) (sc_let (se_opF o_eq fr_bl sn_var (SE.sn (se_c fun _ _ => val_int.mpr rfl))))))
      (ss_seq (ss_set (SX.se (sx_lc (si_seq (se_var (by decide))) (st_test (SE.sn (se_pred sn_var))) (SE.sx (se_var (by decide))) (by decide) (by decide))) (by decide) (by decide))
      (ss_seq (ss_setC (sc_ho (sh := (.l .s)) (ho_op2 (stb_var (by decide)) ho_self) H.f12 (by simp) (sah_here (sa_cons (se_c fun _ _ => val_int.mpr rfl) sa_nil)) (by decide) (sc_let (se_op o_ix (sb_var (by decide)) (sb_var (by decide))))) (by decide) (by decide))
      (ss_setC (sc_ho (sh := (.l .s)) (ho_slU (stb_var (by decide)) (ho_op2 stb_c ho_self)) H.f12 (by simp) (sah_here (sa_cons (se_cbF c_len fc_len (sna_cons sn_var sna_nil)) sa_nil)) (by decide) (sc_let (se_sl (sb_var (by decide)) so_none (so_some (SE.sn (se_op o_add (SE.sb (se_c fun _ _ => val_int.mpr rfl)) (sb_var (by decide)))))))) (by decide) (by decide))))
      ss_next)
      (ss_seq (ss_for (si_r1 sn_var) (sg_name (by decide) (by decide))
      (ss_setC (sc_ho (sh := (.l .s)) (ho_op2 (stb_var (by decide)) (ho_op2 (stb_var (by decide)) ho_self)) H.f12 (by simp) (sah_here (sa_cons (se_c fun _ _ => val_int.mpr rfl) sa_nil)) (by decide) (sc_let (se_op o_add (sb_var (by decide)) (SE.sb (se_op o_ix (sb_var (by decide)) (sb_var (by decide))))))) (by decide) (by decide)))
      (ss_seq (ss_if (st_test (SE.sn (se_opF (o_inD false) fr_memD sn_var sn_var)))
      (ss_set (se_op o_add (sb_var (by decide)) (SE.sb (se_c fun _ _ => val_str.mpr rfl))) (by decide) (by decide))
      ss_next)
      (ss_ret (SE.sx (se_var (by decide))) (by simp)))))))))))
theorem q_16 {M k : Nat} (H : Sims M k) : SFP 0 (.sh .s) (.l .s) (fn M (k + 1) 16) (fu M (k + 1) 16) := by
  show SFP 0 (.sh .s) (.l .s) (runF 1 4 (b_16 (fn M k) M)) (funP true 0 1 4 (s_16 (fu M k) M))
  refine sfp_def (wn := [(0, (.l .s))]) (wl := []) ?_ (by first | exact .inl rfl | (right; simp))
  unfold b_16 s_16
  exact (ss_seq (ss_own (sh := (.l .s)) (sx_lstS sa_nil) (by decide) (by decide))
      (ss_seq (ss_forC (sc_ho (sh := (.l .s)) (ho_op2 stb_c ho_self) H.f12 (by simp) (sah_here (sa_cons (se_c fun _ _ => val_int.mpr rfl) sa_nil)) (by decide) (sc_let (se_op o_add (SE.sb (se_c fun _ _ => val_int.mpr rfl)) (sb_var (by decide))))) (sg_name (by decide) (by decide))
      (ss_seq (ss_callR (sh := (.l .s)) H.f15 (by simp) (sah_here sa_nil) (by decide) (by decide))
      (ss_seq (ss_if (st_test (SE.sn (se_opF (o_inD false) fr_memD sn_var sn_var)))
      (ss_set (se_op o_add (SE.sb (se_cb c_maxLen (sba_cons (sb_var (by decide)) sba_nil))) (SE.sb (se_c fun _ _ => val_str.mpr rfl))) (by decide) (by decide))
      ss_next)
      (ss_app (sp_var (sh := (.l .s)) (by simp)) (SE.sx (se_var (by decide)))))))
      (ss_ret (SE.sx (se_var (by decide))) (by simp))))
theorem q_17 {M k : Nat} (H : Sims M k) : SFP 0 (.sh .s) (.l .s) (fn M (k + 1) 17) (fu M (k + 1) 17) := by
  show SFP 0 (.sh .s) (.l .s) (runF 3 7 (b_17 (fn M k) M)) (funP true 0 3 7 (s_17 (fu M k) M))
  refine sfp_def (wn := [(0, (.l .s))]) (wl := []) ?_ (by first | exact .inl rfl | (right; simp))
  unfold b_17 s_17
  exact (ss_seq (ss_if (st_test (SE.sn (se_opF o_eq fr_bl sn_var (SE.sn (se_c fun _ _ => val_int.mpr rfl)))))
      (ss_seq (ss_ifC (sct_test (sc_ho (sh := (.l .s)) (ho_op1 ho_self ap_c) H.f12 (by simp) (sah_here (sa_cons (se_c fun _ _ => val_int.mpr rfl) sa_nil)) (by decide) (sc_let (se_opF o_eq fr_bl sn_var (SE.sn (se_c fun _ _ => val_int.mpr rfl))))))
      (ss_retC (sc_ho (sh := (.l .s)) (ho_tup (hoA_tl stb_c (hoA_hd ho_self apA_nil))) H.f14 (by simp) (sah_here sa_nil) (by decide) (sc_let (se_tup (sa_cons (se_c fun _ _ => val_str.mpr rfl) (sa_cons (se_var (by decide)) sa_nil))))) (by simp))
      ss_next)
      (ss_retC (sc_ho (sh := (.l .s)) (ho_tup (hoA_tl stb_c (hoA_hd (ho_op2 (stb_var (by decide)) ho_self) apA_nil))) H.f12 (by simp) (sah_here (sa_cons (se_cbF c_len fc_len (sna_cons sn_var sna_nil)) sa_nil)) (by decide) (sc_let (se_tup (sa_cons (se_c fun _ _ => val_str.mpr rfl) (sa_cons (se_op o_ix (sb_var (by decide)) (sb_var (by decide))) sa_nil))))) (by simp)))
      ss_next)
      (ss_seq (ss_callR (sh := (.l .s)) H.f12 (by simp) (sah_here (sa_cons (se_c fun _ _ => val_int.mpr rfl) sa_nil)) (by decide) (by decide))
      (ss_seq (ss_if (st_test (SE.sn (se_opF o_eq fr_bl sn_var (SE.sn (se_c fun _ _ => val_int.mpr rfl)))))
      (ss_retC (sc_ho (sh := (.l .s)) (ho_tup (hoA_tl stb_c (hoA_hd ho_self apA_nil))) H.f17 (by simp) (sah_here (sa_cons (se_opF o_sub fr_sub sn_var (SE.sn (se_c fun _ _ => val_int.mpr rfl))) (sa_cons (se_var (by decide)) sa_nil))) (by decide) (sc_let (se_tup (sa_cons (se_c fun _ _ => val_str.mpr rfl) (sa_cons (se_var (by decide)) sa_nil))))) (by simp))
      ss_next)
      (ss_seq (ss_if (st_test (SE.sn (se_opF o_gt fr_gt sn_var (SE.sn (se_c fun _ _ => val_int.mpr rfl)))))
      (ss_seq (ss_set (se_op o_ix (SE.sb (SX.se (sx_lstS (sa_cons (se_c fun _ _ => val_str.mpr rfl) (sa_cons (se_c fun _ _ => val_str.mpr rfl) sa_nil))))) (SE.sb (se_opF o_sub fr_sub sn_var (SE.sn (se_c fun _ _ => val_int.mpr rfl))))) (by decide) (by decide))
      (ss_retC (sc_ho (sh := (.l .s)) (ho_tup (hoA_tl (stb_var (by decide)) (hoA_hd ho_self (apA_cons (ap_cb (apA_cons ap_c (apA_cons (ap_cb (apA_cons (ap_var (by decide)) apA_nil)) apA_nil))) apA_nil)))) H.f17 (by simp) (sah_here (sa_cons (se_opF o_sub fr_sub sn_var (SE.sn (se_c fun _ _ => val_int.mpr rfl))) (sa_cons (se_var (by decide)) sa_nil))) (by decide) (sc_ho (sh := (.l .s)) (ho_tup (hoA_tl (stb_var (by decide)) (hoA_tl (stb_var (by decide)) (hoA_hd (ho_cb (hoA_tl stb_c (hoA_hd ho_self apA_nil))) apA_nil)))) H.f14 (by simp) (sah_here sa_nil) (by decide) (sc_let (se_tup (sa_cons (se_var (by decide)) (sa_cons (se_var (by decide)) (sa_cons (se_cbF c_max2 fc_max2 (sna_cons (SE.sn (se_c fun _ _ => val_int.mpr rfl)) (sna_cons sn_var sna_nil))) sa_nil))))))) (by simp)))
      ss_next)
      (ss_seq (ss_callR (sh := (.l .s)) H.f12 (by simp) (sah_here (sa_cons (se_var (by decide)) sa_nil)) (by decide) (by decide))
      (ss_seq (ss_callR (sh := (.l .s)) H.f17 (by simp) (sah_here (sa_cons (se_var (by decide)) (sa_cons (se_var (by decide)) sa_nil))) (by decide) (by decide))
      (ss_seq (ss_set (se_op o_ix (SE.sb (SX.se (sx_lstS (sa_cons (se_c fun _ _ => val_str.mpr rfl) (sa_cons (se_c fun _ _ => val_str.mpr rfl) (sa_cons (se_c fun _ _ => val_str.mpr rfl) (sa_cons (se_c fun _ _ => val_str.mpr rfl) (sa_cons (se_c fun _ _ => val_str.mpr rfl) sa_nil)))))))) (sb_var (by decide))) (by decide) (by decide))
      (ss_retC (sc_ho (sh := (.l .s)) (ho_tup (hoA_tl (stb_var (by decide)) (hoA_tl (stb_var (by decide)) (hoA_hd ho_self apA_nil)))) H.f17 (by simp) (sah_here (sa_cons (se_opF o_sub fr_sub (SE.sn (se_opF o_sub fr_sub sn_var (SE.sn (se_c fun _ _ => val_int.mpr rfl)))) sn_var) (sa_cons (se_var (by decide)) sa_nil))) (by decide) (sc_let (se_tup (sa_cons (se_var (by decide)) (sa_cons (se_var (by decide)) (sa_cons (se_var (by decide)) sa_nil)))))) (by simp)))))))))
theorem q_18 {M k : Nat} (H : Sims M k) : SFP 0 (.sh .s) (.l .s) (fn M (k + 1) 18) (fu M (k + 1) 18) := by
  show SFP 0 (.sh .s) (.l .s) (runF 3 6 (b_18 (fn M k) M)) (funP true 0 3 6 (s_18 (fu M k) M))
  refine sfp_def (wn := [(0, (.l .s))]) (wl := []) ?_ (by first | exact .inl rfl | (right; simp))
  unfold b_18 s_18
  exact (ss_seq (ss_setC (sc_he (ho_op1 ho_self (ap_cb (apA_cons (ap_var (by decide)) (apA_cons ap_c apA_nil)))) (SX.se (sx_lstS (sa_cons (se_c fun _ _ => val_str.mpr rfl) (sa_cons (se_c fun _ _ => val_str.mpr rfl) (sa_cons (se_c fun _ _ => val_str.mpr rfl) sa_nil))))) (by decide) (sc_ho (sh := (.l .s)) (ho_op2 (stb_var (by decide)) ho_self) H.f12 (by simp) (sah_here (sa_cons (se_c fun _ _ => val_int.mpr rfl) sa_nil)) (by decide) (sc_let (se_op o_ix (sb_var (by decide)) (sb_var (by decide)))))) (by decide) (by decide))
      (ss_seq (ss_callR (sh := (.l .s)) H.f12 (by simp) (sah_here (sa_cons (se_op o_add (sb_var (by decide)) (SE.sb (se_c fun _ _ => val_int.mpr rfl))) sa_nil)) (by decide) (by decide))
      (ss_seq (ss_callR (sh := (.l .s)) H.f17 (by simp) (sah_here (sa_cons (se_var (by decide)) (sa_cons (se_var (by decide)) sa_nil))) (by decide) (by decide))
      (ss_retC (sc_ho (sh := (.l .s)) (ho_tup (hoA_tl (stb_var (by decide)) (hoA_tl (stb_var (by decide)) (hoA_hd ho_self apA_nil)))) H.f17 (by simp) (sah_here (sa_cons (se_opF o_sub fr_sub sn_var sn_var) (sa_cons (se_var (by decide)) sa_nil))) (by decide) (sc_let (se_tup (sa_cons (se_var (by decide)) (sa_cons (se_var (by decide)) (sa_cons (se_var (by decide)) sa_nil)))))) (by simp)))))
theorem q_19 {M k : Nat} (H : Sims M k) : SFP 0 (.sh .s) (.l .s) (fn M (k + 1) 19) (fu M (k + 1) 19) := by
  show SFP 0 (.sh .s) (.l .s) (runF 3 7 (b_19 (fn M k) M)) (funP true 0 3 7 (s_19 (fu M k) M))
  refine sfp_def (wn := [(0, (.l .s))]) (wl := []) ?_ (by first | exact .inl rfl | (right; simp))
  unfold b_19 s_19
  exact (ss_seq (ss_if (st_test (SE.sn (se_opF o_eq fr_bl sn_var (SE.sn (se_c fun _ _ => val_int.mpr rfl)))))
      (ss_retC (sc_he (ho_tup (hoA_hd (ho_op1 ho_self (ap_cb (apA_cons (ap_var (by decide)) (apA_cons ap_c apA_nil)))) apA_nil)) (SX.se (sx_lstS (sa_cons (se_c fun _ _ => val_str.mpr rfl) (sa_cons (se_c fun _ _ => val_str.mpr rfl) sa_nil)))) (by decide) (sc_ho (sh := (.l .s)) (ho_tup (hoA_hd (ho_op2 (stb_var (by decide)) ho_self) apA_nil)) H.f12 (by simp) (sah_here (sa_cons (se_c fun _ _ => val_int.mpr rfl) sa_nil)) (by decide) (sc_let (se_tup (sa_cons (se_op o_ix (sb_var (by decide)) (sb_var (by decide))) sa_nil))))) (by simp))
      ss_next)
      (ss_seq (ss_callR (sh := (.l .s)) H.f12 (by simp) (sah_here (sa_cons (se_c fun _ _ => val_int.mpr rfl) sa_nil)) (by decide) (by decide))
      (ss_seq (ss_if (st_test (SE.sn (se_opF o_lt fr_lt sn_var (SE.sn (se_c fun _ _ => val_int.mpr rfl)))))
      (ss_retC (sc_ho (sh := (.l .s)) ho_self H.f18 (by simp) (sah_here (sa_cons (se_opF o_sub fr_sub sn_var (SE.sn (se_c fun _ _ => val_int.mpr rfl))) (sa_cons (se_var (by decide)) sa_nil))) (by decide) (sc_let (se_var (by decide)))) (by simp))
      ss_next)
      (ss_seq (ss_if (st_test (SE.sn (se_opF o_eq fr_bl sn_var (SE.sn (se_c fun _ _ => val_int.mpr rfl)))))
      (ss_retC (sc_ho (sh := (.l .s)) (ho_tup (hoA_tl stb_c (hoA_hd ho_self apA_nil))) H.f19 (by simp) (sah_here (sa_cons (se_opF o_sub fr_sub sn_var (SE.sn (se_c fun _ _ => val_int.mpr rfl))) (sa_cons (se_var (by decide)) sa_nil))) (by decide) (sc_let (se_tup (sa_cons (se_c fun _ _ => val_str.mpr rfl) (sa_cons (se_var (by decide)) sa_nil))))) (by simp))
      ss_next)
      (ss_seq (ss_callR (sh := (.l .s)) H.f12 (by simp) (sah_here (sa_cons (se_var (by decide)) sa_nil)) (by decide) (by decide))
      (ss_seq (ss_callR (sh := (.l .s)) H.f19 (by simp) (sah_here (sa_cons (se_var (by decide)) (sa_cons (se_var (by decide)) sa_nil))) (by decide) (by decide))
      (ss_seq (ss_set (se_op o_ix (SE.sb (SX.se (sx_lstS (sa_cons (se_c fun _ _ => val_str.mpr rfl) (sa_cons (se_c fun _ _ => val_str.mpr rfl) (sa_cons (se_c fun _ _ => val_str.mpr rfl) (sa_cons (se_c fun _ _ => val_str.mpr rfl) sa_nil))))))) (SE.sb (se_opF o_sub fr_sub sn_var (SE.sn (se_c fun _ _ => val_int.mpr rfl))))) (by decide) (by decide))
      (ss_retC (sc_ho (sh := (.l .s)) (ho_tup (hoA_tl (stb_var (by decide)) (hoA_tl (stb_var (by decide)) (hoA_hd ho_self apA_nil)))) H.f19 (by simp) (sah_here (sa_cons (se_opF o_sub fr_sub (SE.sn (se_opF o_sub fr_sub sn_var (SE.sn (se_c fun _ _ => val_int.mpr rfl)))) sn_var) (sa_cons (se_var (by decide)) sa_nil))) (by decide) (sc_let (se_tup (sa_cons (se_var (by decide)) (sa_cons (se_var (by decide)) (sa_cons (se_var (by decide)) sa_nil)))))) (by simp)))))))))
theorem q_20 {M k : Nat} (H : Sims M k) : SFP 0 (.sh .s) (.l .s) (fn M (k + 1) 20) (fu M (k + 1) 20) := by
  show SFP 0 (.sh .s) (.l .s) (runF 3 5 (b_20 (fn M k) M)) (funP true 0 3 5 (s_20 (fu M k) M))
  refine sfp_def (wn := [(0, (.l .s))]) (wl := []) ?_ (by first | exact .inl rfl | (right; simp))
  unfold b_20 s_20
  exact (ss_seq (ss_forC (sc_ho (sh := (.l .s)) (ho_op2 stb_c ho_self) H.f12 (by simp) (sah_here (sa_cons (se_c fun _ _ => val_int.mpr rfl) sa_nil)) (by decide) (sc_let (se_op o_add (SE.sb (se_c fun _ _ => val_int.mpr rfl)) (sb_var (by decide))))) (sg_name (by decide) (by decide))
      (ss_seq (ss_callR (sh := (.l .s)) H.f12 (by simp) (sah_here (sa_cons (se_c fun _ _ => val_int.mpr rfl) sa_nil)) (by decide) (by decide))
      (ss_if (st_and (st_test sn_var) (st_test (SE.sn (se_opF o_eq fr_bl sn_var (SE.sn (se_c fun _ _ => val_int.mpr rfl))))))
      (ss_set (se_tup (sa_cons (se_c fun _ _ => val_str.mpr rfl) (sa_cons (se_var (by decide)) sa_nil))) (by decide) (by decide))
      (ss_if (st_and (st_test sn_var) (st_test (SE.sn (se_opF o_eq fr_bl sn_var (SE.sn (se_c fun _ _ => val_int.mpr rfl))))))
      (ss_setC (sc_ho (sh := (.l .s)) (ho_tup (hoA_tl stb_c (hoA_hd (ho_tup (hoA_tl stb_c (hoA_hd ho_self apA_nil))) (apA_cons (ap_var (by decide)) apA_nil)))) H.f12 (by simp) (sah_here (sa_cons (se_c fun _ _ => val_int.mpr rfl) sa_nil)) (by decide) (sc_let (se_tup (sa_cons (se_c fun _ _ => val_str.mpr rfl) (sa_cons (se_tup (sa_cons (se_c fun _ _ => val_str.mpr rfl) (sa_cons (se_var (by decide)) sa_nil))) (sa_cons (se_var (by decide)) sa_nil)))))) (by decide) (by decide))
      (ss_if (st_test sn_var)
      (ss_setC (sc_ho (sh := (.l .s)) (ho_tup (hoA_tl stb_c (hoA_tl (stb_var (by decide)) (hoA_hd (ho_tup (hoA_tl stb_c (hoA_hd ho_self apA_nil))) apA_nil)))) H.f14 (by simp) (sah_here sa_nil) (by decide) (sc_let (se_tup (sa_cons (se_c fun _ _ => val_str.mpr rfl) (sa_cons (se_var (by decide)) (sa_cons (se_tup (sa_cons (se_c fun _ _ => val_str.mpr rfl) (sa_cons (se_var (by decide)) sa_nil))) sa_nil)))))) (by decide) (by decide))
      (ss_if (st_test (SE.sn (se_opF o_eq fr_bl sn_var (SE.sn (se_c fun _ _ => val_int.mpr rfl)))))
      (ss_set (se_tup (sa_cons (se_c fun _ _ => val_str.mpr rfl) (sa_cons (se_var (by decide)) sa_nil))) (by decide) (by decide))
      (ss_if (st_test (SE.sn (se_opF o_eq fr_bl sn_var (SE.sn (se_c fun _ _ => val_int.mpr rfl)))))
      (ss_set (se_tup (sa_cons (se_c fun _ _ => val_str.mpr rfl) (sa_cons (se_tup (sa_cons (se_c fun _ _ => val_str.mpr rfl) sa_nil)) (sa_cons (se_var (by decide)) sa_nil)))) (by decide) (by decide))
      (ss_setC (sc_he (ho_tup (hoA_tl stb_c (hoA_tl (stb_var (by decide)) (hoA_hd (ho_tup (hoA_tl stb_c (hoA_hd ho_self (apA_cons (ap_tup (apA_cons ap_c (apA_cons (ap_cb (apA_cons (ap_var (by decide)) (apA_cons ap_c apA_nil))) apA_nil))) apA_nil)))) apA_nil)))) (se_tup (sa_cons (se_c fun _ _ => val_str.mpr rfl) (sa_cons (se_c fun _ _ => val_int.mpr rfl) sa_nil))) (by decide) (sc_ho (sh := (.l .s)) (ho_tup (hoA_tl stb_c (hoA_tl (stb_var (by decide)) (hoA_hd (ho_tup (hoA_tl stb_c (hoA_tl (stb_var (by decide)) (hoA_hd (ho_tup (hoA_tl stb_c (hoA_hd ho_self apA_nil))) apA_nil)))) apA_nil)))) H.f12 (by simp) (sah_here (sa_cons (se_c fun _ _ => val_int.mpr rfl) sa_nil)) (by decide) (sc_let (se_tup (sa_cons (se_c fun _ _ => val_str.mpr rfl) (sa_cons (se_var (by decide)) (sa_cons (se_tup (sa_cons (se_c fun _ _ => val_str.mpr rfl) (sa_cons (se_var (by decide)) (sa_cons (se_tup (sa_cons (se_c fun _ _ => val_str.mpr rfl) (sa_cons (se_var (by decide)) sa_nil))) sa_nil)))) sa_nil))))))) (by decide) (by decide)))))))))
      (ss_ret (SE.sx (se_var (by decide))) (by simp)))
theorem q_21 {M k : Nat} (H : Sims M k) : SFP 1 .any (.l .s) (fn M (k + 1) 21) (fu M (k + 1) 21) := by
  show SFP 1 .any (.l .s) (runF 2 3 (b_21 (fn M k) M)) (funP false 1 2 3 (s_21 (fu M k) M))
  refine sfp_def (wn := [(1, (.l .s))]) (wl := []) ?_ (by first | exact .inl rfl | (right; simp))
  unfold b_21 s_21
  exact (ss_if (st_test (SE.sn (se_opF o_eq fr_bl (SE.sn (se_op o_ix (sb_var (by decide)) (SE.sb (se_c fun _ _ => val_int.mpr rfl)))) (SE.sn (se_c fun _ _ => val_str.mpr rfl)))))
      (ss_if (st_test (SE.sn (se_opF (o_inD true) fr_memD (SE.sn (se_op o_ix (sb_var (by decide)) (SE.sb (se_c fun _ _ => val_int.mpr rfl)))) sn_var)))
      (ss_app (sp_var (sh := (.l .s)) (by simp)) (SE.sx (se_op o_ix (sb_var (by decide)) (SE.sb (se_c fun _ _ => val_int.mpr rfl)))))
      ss_next)
      (ss_for (si_seq (se_sl (sb_var (by decide)) (so_some (SE.sn (se_c fun _ _ => val_int.mpr rfl))) so_none)) (sg_name (by decide) (by decide))
      (ss_if (st_test (SE.sn (se_isi sn_var)))
      (ss_callP H.f21 (sh := (.l .s)) (by simp) (sah_there (se_var (by decide)) (sah_here sa_nil)))
      ss_next)))
theorem q_22 {M k : Nat} (H : Sims M k) : SF .s (fn M (k + 1) 22) (fu M (k + 1) 22) := by
  show SF .s (runF 2 5 (b_22 (fn M k) M)) (funT false 2 5 (s_22 (fu M k) M))
  refine sf_def (wn := []) (wl := []) ?_ (.inl rfl)
  unfold b_22 s_22
  exact (ss_seq (ss_set (se_op o_ix (sb_var (by decide)) (SE.sb (se_c fun _ _ => val_int.mpr rfl))) (by decide) (by decide))
      (ss_seq (ss_if (st_test (SE.sn (se_opF o_eq fr_bl sn_var (SE.sn (se_c fun _ _ => val_str.mpr rfl)))))
      (ss_ret (SE.sx (se_op o_ix (sb_var (by decide)) (SE.sb (se_c fun _ _ => val_int.mpr rfl)))) (by simp))
      ss_next)
      (ss_seq (ss_if (st_test (SE.sn (se_opF o_eq fr_bl sn_var (SE.sn (se_c fun _ _ => val_str.mpr rfl)))))
      (ss_ret (SE.sx (se_dget (sb_var (by decide)) (SE.sb (se_op o_ix (sb_var (by decide)) (SE.sb (se_c fun _ _ => val_int.mpr rfl)))))) (by simp))
      ss_next)
      (ss_seq (ss_set (se_call H.f22 (sa_cons (se_op o_ix (sb_var (by decide)) (SE.sb (se_c fun _ _ => val_int.mpr rfl))) (sa_cons (se_var (by decide)) sa_nil))) (by decide) (by decide))
      (ss_seq (ss_if (st_test (SE.sn (se_opF o_eq fr_bl sn_var (SE.sn (se_c fun _ _ => val_str.mpr rfl)))))
      (ss_ret (SE.sx (se_neg sn_var)) (by simp))
      ss_next)
      (ss_seq (ss_if (st_test (SE.sn (se_opF o_eq fr_bl sn_var (SE.sn (se_c fun _ _ => val_str.mpr rfl)))))
      (ss_ret (SE.sx (se_opF o_fdivW fr_fdivW sn_var (SE.sn (se_op o_ix (sb_var (by decide)) (SE.sb (se_c fun _ _ => val_int.mpr rfl)))))) (by simp))
      ss_next)
      (ss_seq (ss_if (st_test (SE.sn (se_opF o_eq fr_bl sn_var (SE.sn (se_c fun _ _ => val_str.mpr rfl)))))
      (ss_ret (SE.sx (se_opF o_sub fr_sub sn_var (SE.sn (se_opF o_mulW fr_mulW (SE.sn (se_opF o_fdivW fr_fdivW sn_var (SE.sn (se_op o_ix (sb_var (by decide)) (SE.sb (se_c fun _ _ => val_int.mpr rfl)))))) (SE.sn (se_op o_ix (sb_var (by decide)) (SE.sb (se_c fun _ _ => val_int.mpr rfl)))))))) (by simp))
      ss_next)
      (ss_seq (ss_set (se_call H.f22 (sa_cons (se_op o_ix (sb_var (by decide)) (SE.sb (se_c fun _ _ => val_int.mpr rfl))) (sa_cons (se_var (by decide)) sa_nil))) (by decide) (by decide))
      (ss_seq (ss_if (st_test (SE.sn (se_opF o_eq fr_bl sn_var (SE.sn (se_c fun _ _ => val_str.mpr rfl)))))
      (ss_ret (SE.sx (se_op o_add (sb_var (by decide)) (sb_var (by decide)))) (by simp))
      ss_next)
      (ss_seq (ss_if (st_test (SE.sn (se_opF o_eq fr_bl sn_var (SE.sn (se_c fun _ _ => val_str.mpr rfl)))))
      (ss_ret (SE.sx (se_opF o_sub fr_sub sn_var sn_var)) (by simp))
      ss_next)
      (ss_seq (ss_if (st_test (SE.sn (se_opF o_eq fr_bl sn_var (SE.sn (se_c fun _ _ => val_str.mpr rfl)))))
      (ss_ret (SE.sx (se_opF o_mulW fr_mulW sn_var sn_var)) (by simp))
      ss_next)
      (ss_seq (ss_if (st_test (SE.sn (se_opF o_eqD fr_bl (SE.sn (se_opF o_eq fr_bl sn_var (SE.sn (se_c fun _ _ => val_str.mpr rfl)))) (SE.sn (se_opF o_lt fr_lt sn_var sn_var)))))
      (ss_ret (SE.sx (se_var (by decide))) (by simp))
      ss_next)
      (ss_ret (SE.sx (se_var (by decide))) (by simp))))))))))))))
theorem q_23 {M k : Nat} (H : Sims M k) : SF .s (fn M (k + 1) 23) (fu M (k + 1) 23) := by
  show SF .s (runF 2 5 (b_23 (fn M k) M)) (funT false 2 5 (s_23 (fu M k) M))
  refine sf_def (wn := []) (wl := []) ?_ (.inl rfl)
  unfold b_23 s_23
  exact (ss_seq (ss_set (se_op o_ix (sb_var (by decide)) (SE.sb (se_c fun _ _ => val_int.mpr rfl))) (by decide) (by decide))
      (ss_seq (ss_if (st_or (st_test (SE.sn (se_opF o_eq fr_bl sn_var (SE.sn (se_c fun _ _ => val_str.mpr rfl))))) (st_test (SE.sn (se_opF o_eq fr_bl sn_var (SE.sn (se_c fun _ _ => val_str.mpr rfl))))))
      (ss_ret (SE.sx (se_opF o_eq fr_bl sn_var (SE.sn (se_c fun _ _ => val_str.mpr rfl)))) (by simp))
      ss_next)
      (ss_seq (ss_if (st_test (SE.sn (se_opF (o_inD false) fr_memD sn_var (SE.sn (SX.se (sx_lstS (sa_cons (se_c fun _ _ => val_str.mpr rfl) (sa_cons (se_c fun _ _ => val_str.mpr rfl) (sa_cons (se_c fun _ _ => val_str.mpr rfl) sa_nil)))))))))
      (ss_seq (ss_set (se_call H.f22 (sa_cons (se_op o_ix (sb_var (by decide)) (SE.sb (se_c fun _ _ => val_int.mpr rfl))) (sa_cons (se_var (by decide)) sa_nil))) (by decide) (by decide))
      (ss_seq (ss_set (se_call H.f22 (sa_cons (se_op o_ix (sb_var (by decide)) (SE.sb (se_c fun _ _ => val_int.mpr rfl))) (sa_cons (se_var (by decide)) sa_nil))) (by decide) (by decide))
      (ss_seq (ss_if (st_test (SE.sn (se_opF o_eq fr_bl sn_var (SE.sn (se_c fun _ _ => val_str.mpr rfl)))))
      (ss_ret (SE.sx (se_opF o_eqD fr_bl sn_var sn_var)) (by simp))
      ss_next)
      (ss_ret (SE.sx (se_or (SE.sn (se_opF o_lt fr_lt sn_var sn_var)) (se_and (SE.sn (se_opF o_eq fr_bl sn_var (SE.sn (se_c fun _ _ => val_str.mpr rfl)))) (se_opF o_eqD fr_bl sn_var sn_var)))) (by simp)))))
      ss_next)
      (ss_seq (ss_set (se_call H.f23 (sa_cons (se_op o_ix (sb_var (by decide)) (SE.sb (se_c fun _ _ => val_int.mpr rfl))) (sa_cons (se_var (by decide)) sa_nil))) (by decide) (by decide))
      (ss_seq (ss_if (st_test (SE.sn (se_opF o_eq fr_bl sn_var (SE.sn (se_c fun _ _ => val_str.mpr rfl)))))
      (ss_ret (SE.sx (se_not sn_var)) (by simp))
      ss_next)
      (ss_seq (ss_set (se_call H.f23 (sa_cons (se_op o_ix (sb_var (by decide)) (SE.sb (se_c fun _ _ => val_int.mpr rfl))) (sa_cons (se_var (by decide)) sa_nil))) (by decide) (by decide))
      (ss_seq (ss_if (st_test (SE.sn (se_opF o_eq fr_bl sn_var (SE.sn (se_c fun _ _ => val_str.mpr rfl)))))
      (ss_ret (SE.sx (se_and sn_var (se_var (by decide)))) (by simp))
      ss_next)
      (ss_seq (ss_if (st_test (SE.sn (se_opF o_eq fr_bl sn_var (SE.sn (se_c fun _ _ => val_str.mpr rfl)))))
      (ss_ret (SE.sx (se_or sn_var (se_var (by decide)))) (by simp))
      ss_next)
      (ss_seq (ss_if (st_test (SE.sn (se_opF o_eq fr_bl sn_var (SE.sn (se_c fun _ _ => val_str.mpr rfl)))))
      (ss_ret (SE.sx (se_or sn_var (se_not sn_var))) (by simp))
      ss_next)
      (ss_ret (SE.sx (se_opF o_eqD fr_bl sn_var sn_var)) (by simp)))))))))))
theorem q_24 {M k : Nat} (H : Sims M k) : SF .s (fn M (k + 1) 24) (fu M (k + 1) 24) := by
  show SF .s (runF 3 4 (b_24 (fn M k) M)) (funT false 3 4 (s_24 (fu M k) M))
  refine sf_def (wn := []) (wl := []) ?_ (.inl rfl)
  unfold b_24 s_24
  exact (ss_try (ss_seq (ss_if (st_test sn_var)
      (ss_ret (SE.sx (se_tup (sa_cons (se_c fun _ _ => val_str.mpr rfl) (sa_cons (se_call H.f3 (sa_cons (se_var (by decide)) (sa_cons (se_var (by decide)) sa_nil))) sa_nil)))) (by simp))
      ss_next)
      (ss_ret (SE.sx (se_tup (sa_cons (se_c fun _ _ => val_str.mpr rfl) (sa_cons (se_call H.f4 (sa_cons (se_var (by decide)) (sa_cons (se_var (by decide)) sa_nil))) sa_nil)))) (by simp))) (srt_seqif (st_test sn_var) (srt_ret (sre_tup (sra_tl (SE.sn (se_c fun _ _ => val_str.mpr rfl)) (sra_hd (sre_call H.x3 (sa_cons (se_var (by decide)) (sa_cons (se_var (by decide)) sa_nil))))))) (srt_ret (sre_tup (sra_tl (SE.sn (se_c fun _ _ => val_str.mpr rfl)) (sra_hd (sre_call H.x4 (sa_cons (se_var (by decide)) (sa_cons (se_var (by decide)) sa_nil)))))))) (by simp) (by simp) (by simp) (by simp))
theorem q_25 {M k : Nat} (H : Sims M k) : SF .s (fn M (k + 1) 25) (fu M (k + 1) 25) := by
  show SF .s (runF 4 5 (b_25 (fn M k) M)) (funT false 4 5 (s_25 (fu M k) M))
  refine sf_def (wn := []) (wl := []) ?_ (.inl rfl)
  unfold b_25 s_25
  exact (ss_seq (ss_for (si_seq (se_var (by decide))) (sg_name (by decide) (by decide))
      (ss_if (st_test (SE.sn (se_din (sb_var (by decide)) (sb_var (by decide)))))
      (ss_ret (SE.sx (se_tup (sa_cons (se_c fun _ _ => val_str.mpr rfl) (sa_cons (se_var (by decide)) sa_nil)))) (by simp))
      ss_next))
      (ss_seq (ss_if (st_test sn_var)
      (ss_ret (SE.sx (se_tup (sa_cons (se_c fun _ _ => val_str.mpr rfl) (sa_cons (se_call H.f22 (sa_cons (se_var (by decide)) (sa_cons (se_var (by decide)) sa_nil))) sa_nil)))) (by simp))
      ss_next)
      (ss_ret (SE.sx (se_tup (sa_cons (se_c fun _ _ => val_str.mpr rfl) (sa_cons (se_call H.f23 (sa_cons (se_var (by decide)) (sa_cons (se_var (by decide)) sa_nil))) sa_nil)))) (by simp))))
theorem q_26 {M k : Nat} (H : Sims M k) : SF .s (fn M (k + 1) 26) (fu M (k + 1) 26) := by
  show SF .s (runF 1 14 (b_26 (fn M k) M)) (funT false 1 14 (s_26 (fu M k) M))
  refine sf_def (wn := []) (wl := []) ?_ (.inl rfl)
  unfold b_26 s_26
  exact (ss_seq (ss_own (sh := (.l .s)) (sx_call H.f11 (sa_cons (se_var (by decide)) sa_nil)) (by decide) (by decide))
      (ss_seq (ss_setC (sc_ho (sh := (.l .s)) (ho_op1 ho_self ap_c) H.f12 (by simp) (sah_here (sa_cons (se_c fun _ _ => val_int.mpr rfl) sa_nil)) (by decide) (sc_let (se_opF o_eq fr_bl sn_var (SE.sn (se_c fun _ _ => val_int.mpr rfl))))) (by decide) (by decide))
      (ss_seq (ss_callR (sh := (.l .s)) H.f12 (by simp) (sah_here (sa_cons (se_c fun _ _ => val_int.mpr rfl) sa_nil)) (by decide) (by decide))
      (ss_seq (ss_callR (sh := (.l .s)) H.f12 (by simp) (sah_here (sa_cons (se_c fun _ _ => val_int.mpr rfl) sa_nil)) (by decide) (by decide))
      (ss_seq (ss_callR (sh := (.l .s)) H.f16 (by simp) (sah_here sa_nil) (by decide) (by decide))
      (ss_seq (ss_if (st_test sn_var)
      (ss_callR (sh := (.l .s)) H.f17 (by simp) (sah_here (sa_cons (se_var (by decide)) (sa_cons (se_var (by decide)) sa_nil))) (by decide) (by decide))
      (ss_callR (sh := (.l .s)) H.f19 (by simp) (sah_here (sa_cons (se_var (by decide)) (sa_cons (se_var (by decide)) sa_nil))) (by decide) (by decide)))
      (ss_seq (ss_ifC (sct_test (sc_ho (sh := (.l .s)) (ho_op1 ho_self ap_c) H.f12 (by simp) (sah_here (sa_cons (se_c fun _ _ => val_int.mpr rfl) sa_nil)) (by decide) (sc_let (se_opF o_eq fr_bl sn_var (SE.sn (se_c fun _ _ => val_int.mpr rfl))))))
      (ss_callR (sh := (.l .s)) H.f20 (by simp) (sah_here (sa_cons (se_var (by decide)) (sa_cons (se_var (by decide)) sa_nil))) (by decide) (by decide))
      ss_next)
      (ss_seq (ss_own (sh := (.d .s)) sx_dnew (by decide) (by decide))
      (ss_seq (ss_for (si_r1 (SE.sn (se_cbF c_len fc_len (sna_cons sn_var sna_nil)))) (sg_name (by decide) (by decide))
      (ss_seq (ss_setC (sc_ho (sh := (.l .s)) (ho_op1 ho_self (ap_op (ap_lst (apA_cons ap_c (apA_cons (ap_un ap_c) apA_nil))) (ap_cb (apA_cons (ap_var (by decide)) (apA_cons ap_c apA_nil))))) H.f14 (by simp) (sah_here sa_nil) (by decide) (sc_he (ho_op2 (stb_var (by decide)) (ho_op1 ho_self (ap_cb (apA_cons (ap_var (by decide)) (apA_cons ap_c apA_nil))))) (SX.se (sx_lstS (sa_cons (se_c fun _ _ => val_int.mpr rfl) (sa_cons (se_neg (SE.sn (se_c fun _ _ => val_int.mpr rfl))) sa_nil)))) (by decide) (sc_ho (sh := (.l .s)) (ho_op2 (stb_var (by decide)) (ho_op2 (stb_var (by decide)) ho_self)) H.f12 (by simp) (sah_here (sa_cons (se_c fun _ _ => val_int.mpr rfl) sa_nil)) (by decide) (sc_let (se_op o_mul (sb_var (by decide)) (SE.sb (se_op o_ix (sb_var (by decide)) (sb_var (by decide))))))))) (by decide) (by decide))
      (ss_if (st_or (st_test (SE.sn (se_opF o_gt fr_gt sn_var (SE.sn (se_c fun _ _ => val_int.mpr rfl))))) (st_test (SE.sn (se_opF o_neD fr_nb (SE.sn (se_opF o_mod fr_mod (SE.sn (se_cbF c_int fc_int (sna_cons sn_var sna_nil))) (SE.sn (se_cbF c_len fc_len (sna_cons sn_var sna_nil))))) sn_var))))
      (ss_dput (sp_var (sh := (.d .s)) (by simp)) (SE.sn (se_op o_ix (sb_var (by decide)) (sb_var (by decide)))) (SE.sx (se_var (by decide))))
      ss_next)))
      (ss_seq (ss_own (sh := (.l .s)) (sx_lstS sa_nil) (by decide) (by decide))
      (ss_seq (ss_callP H.f21 (sh := (.l .s)) (by simp) (sah_there (se_var (by decide)) (sah_here sa_nil)))
      (ss_seq (ss_set (se_call H.f0 (sa_cons (se_var (by decide)) sa_nil)) (by decide) (by decide))
      (ss_seq (ss_if (st_or (st_not (st_test (SE.sn (se_isi sn_var)))) (st_test (SE.sn (se_opF o_neD fr_nb sn_var sn_var))))
      (ss_ret (SE.sx (se_c fun _ _ => val_bl.mpr rfl)) (by simp))
      ss_next)
      (ss_seq (ss_set (SX.se (sx_dcp sn_var)) (by decide) (by decide))
      (ss_seq (ss_set (se_call H.f24 (sa_cons (se_var (by decide)) (sa_cons (se_var (by decide)) (sa_cons (se_var (by decide)) sa_nil)))) (by decide) (by decide))
      (ss_seq (ss_if (st_test (SE.sn (se_opF o_eqDc fr_eqDc sn_var sn_var)))
      (ss_ret (SE.sx (se_c fun _ _ => val_bl.mpr rfl)) (by simp))
      ss_next)
      (ss_seq (ss_if (st_and (st_test (SE.sn (se_opF o_eq fr_bl (SE.sn (se_op o_ix (sb_var (by decide)) (SE.sb (se_c fun _ _ => val_int.mpr rfl)))) (SE.sn (se_c fun _ _ => val_str.mpr rfl))))) (st_and (st_test sn_var) (st_not (st_test (SE.sn (se_call H.f10 (sa_cons (se_op o_ix (sb_var (by decide)) (SE.sb (se_c fun _ _ => val_int.mpr rfl))) sa_nil)))))))
      (ss_ret (SE.sx (se_c fun _ _ => val_bl.mpr rfl)) (by simp))
      ss_next)
      (ss_seq (ss_if (st_and (st_test (SE.sn (se_opF o_eq fr_bl (SE.sn (se_op o_ix (sb_var (by decide)) (SE.sb (se_c fun _ _ => val_int.mpr rfl)))) (SE.sn (se_c fun _ _ => val_str.mpr rfl))))) (st_and (st_not (st_test sn_var)) (st_not (st_test (SE.sn (se_isi (SE.sn (se_op o_ix (sb_var (by decide)) (SE.sb (se_c fun _ _ => val_int.mpr rfl))))))))))
      (ss_ret (SE.sx (se_c fun _ _ => val_bl.mpr rfl)) (by simp))
      ss_next)
      (ss_ret (SE.sx (se_opF o_eqD fr_bl sn_var (SE.sn (se_call H.f25 (sa_cons (se_var (by decide)) (sa_cons (se_var (by decide)) (sa_cons (se_var (by decide)) (sa_cons (se_var (by decide)) sa_nil)))))))) (by simp))))))))))))))))))))
theorem sims (M : Nat) : ∀ k, Sims M k
  | 0 => ⟨(fun A xs ts h _ _ t q => by cases q), (fun A xs ts h S t d _ _ _ _ _ _ _ _ v q => by cases q), (fun A xs ts h _ _ t q => by cases q), (fun A xs ts h _ _ t q => by cases q), (fun A xs ts h _ _ t q => by cases q), (fun A xs ts h _ _ t q => by cases q), (fun A xs ts h _ _ t q => by cases q), (fun A xs ts h _ _ t q => by cases q), (fun A xs ts h _ _ t q => by cases q), (fun A xs ts h _ _ t q => by cases q), (fun A xs ts h _ _ t q => by cases q), (fun A xs ts h _ _ t q => by cases q), (fun A xs ts h S t d _ _ _ _ _ _ _ _ v q => by cases q), (fun A xs ts h _ _ t q => by cases q), (fun A xs ts h S t d _ _ _ _ _ _ _ _ v q => by cases q), (fun A xs ts h S t d _ _ _ _ _ _ _ _ v q => by cases q), (fun A xs ts h S t d _ _ _ _ _ _ _ _ v q => by cases q), (fun A xs ts h S t d _ _ _ _ _ _ _ _ v q => by cases q), (fun A xs ts h S t d _ _ _ _ _ _ _ _ v q => by cases q), (fun A xs ts h S t d _ _ _ _ _ _ _ _ v q => by cases q), (fun A xs ts h S t d _ _ _ _ _ _ _ _ v q => by cases q), (fun A xs ts h S t d _ _ _ _ _ _ _ _ v q => by cases q), (fun A xs ts h _ _ t q => by cases q), (fun A xs ts h _ _ t q => by cases q), (fun A xs ts h _ _ t q => by cases q), (fun A xs ts h _ _ t q => by cases q), (fun A xs ts h _ _ t q => by cases q), (fun A xs ts h _ _ t q => by cases q), (fun A xs ts h _ _ t q => by cases q), (fun A xs ts h _ _ t q => by cases q)⟩
  | k + 1 => have H := sims M k; ⟨q_0 H, q_1 H, q_2 H, q_3 H, q_4 H, q_5 H, q_6 H, q_7 H, q_8 H, q_9 H, q_10 H, q_11 H, q_12 H, q_13 H, q_14 H, q_15 H, q_16 H, q_17 H, q_18 H, q_19 H, q_20 H, q_21 H, q_22 H, q_23 H, q_24 H, q_25 H, q_26 H, qx_3 H, qx_4 H, qx_5 H⟩
end
end K03
namespace K03
open PySem L2 Mi Fu LA SA FA FB FC FD NL
local macro_rules | `(tactic| walk_at "kw") => `(tactic| try simp (decide := true) only [Fu.k_c, Fu.k_var, Fu.k_op, Fu.k_un, Fu.k_nil, Fu.k_cons, Fu.k_star, Fu.k_tup, Fu.k_lst, Fu.k_cb, Fu.k_cbF, Fu.flatT_i, Fu.flatT_s, Fu.flatT_b, Fu.flatT_n, Fu.k_test, Fu.asB_bl, Fu.asI_int, Fu.k_not, Fu.k_and, Fu.k_or, Fu.k_yes, Fu.k_notV, Fu.k_andV, Fu.k_orV, Fu.k_if, Fu.k_oN, Fu.k_oS, Fu.k_sl, Fu.k_chain, Fu.k_isi, Fu.asS_str, Fu.k_kd, Fu.k_kin, Fu.k_lc, Fu.k_seq, Fu.k_r1, Fu.k_r2, Fu.s_next, Fu.s_seq, Fu.s_set, Fu.s_own, Fu.s_asg, Fu.s_drop, Fu.s_ret, Fu.s_retN, Fu.s_brk, Fu.s_cnt, Fu.s_if, Fu.s_aug, Fu.k_gNm, Fu.k_gNil, Fu.k_gCons, Fu.k_gTp, Fu.asL_lst, Fu.asTp_tup, Fu.p_var, Fu.k_pth, Fu.p_ix, Fu.p_cm, id, Fu.s_app, Fu.s_pop, Fu.s_popD, Fu.s_rev, Fu.s_clr, Fu.s_put, Fu.s_callP, Fu.s_mvP, Fu.k_cbP, Fu.asP_mk, Fu.k_lcP, Fu.k_en, Fu.k_rv, Fu.k_zp, Fu.lstO_l, Fu.lstO_f, Fu.bOpT_bb, Fu.k_fld, Fu.asO_obj, Fu.s_for, Fu.s_while, Fu.ok_some, Fu.ok_ite, Fu.wipeT,
  Fu.addT_ii, Fu.addT_ll, Fu.addT_ss, Fu.addT_tt, Fu.catT_ll, Fu.subT_ii, Fu.mulT_ii, Fu.mulT_li, Fu.repT_li, Fu.fdivT_ii, Fu.modT_ii, Fu.powT_ii, Fu.negT_i, Fu.ltT_ii, Fu.leT_ii, Fu.gtT_ii, Fu.geT_ii, Fu.eqST_ii, Fu.eqST_ss, Fu.eqST_bb, Fu.eqT_ii, Fu.eqT_ss, Fu.eqT_bb, Fu.ok_oBl, Fu.ok_oNb, Fu.isNT_n, Fu.isNT_i, Fu.isNT_l, Fu.isNT_t, Fu.isNT_b, Fu.isNT_s, Fu.lenT_l, Fu.lenT_t, Fu.lenT_f, Fu.itemsT_l, Fu.itemsT_t, Fu.itemsT_f, Fu.lstT_l, Fu.lstT_t, Fu.lstT_f, Fu.tupT_l, Fu.tupT_t, Fu.ixT_l, Fu.ixT_t, Fu.ixT_f, Fu.intT_i, Fu.absT_i, Fu.max2T_i, Fu.min2T_i, Fu.slT_l, Fu.slLT_l, Fu.tyT_i, Fu.tyT_s, Fu.tyT_b, Fu.tyT_t, Fu.tyT_l, Fu.tyT_f, Fu.tyT_n,
  List.getElem?_cons_zero, List.getElem?_cons_succ, List.getD_cons_zero, List.getD_cons_succ, List.set_cons_zero, List.set_cons_succ, List.map_cons, List.map_nil, List.replicate, List.append_nil, List.cons_append, List.nil_append, List.length_cons, List.length_nil, Nat.reduceAdd, Nat.reduceSub, Nat.reduceLT, Nat.reduceLeDiff, Nat.zero_add, Int.reduceToNat, Int.reducePow, Int.reduceNeg, Mi.mulC_r, Mi.atI_0, Mi.atI_1, Mi.atI_2,
  subTy, decide_true, decide_false, Bool.or_self, Bool.or_true, Bool.true_or, Bool.or_false, Bool.false_or, Bool.and_true, Bool.true_and, Bool.and_false, Bool.false_and, Bool.and_self, Bool.not_true, Bool.not_false, Bool.false_eq_true, Bool.true_eq_false, true_and, and_true, and_self, if_true, if_false, ite_true, ite_false])
local macro_rules | `(tactic| walk_at "k1") => `(tactic| try simp (decide := true) only [Fu.k_c, Fu.k_var, Fu.k_op, Fu.k_un, Fu.k_nil, Fu.k_cons, Fu.k_star, Fu.k_tup, Fu.k_lst, Fu.k_cb, Fu.k_cbF, Fu.flatT_i, Fu.flatT_s, Fu.flatT_b, Fu.flatT_n, Fu.k_test, Fu.asB_bl, Fu.asI_int, Fu.k_not, Fu.k_and, Fu.k_or, Fu.k_yes, Fu.k_notV, Fu.k_andV, Fu.k_orV, Fu.k_if, Fu.k_oN, Fu.k_oS, Fu.k_sl, Fu.k_chain, Fu.k_isi, Fu.asS_str, Fu.k_kd, Fu.k_kin, Fu.k_lc, Fu.k_seq, Fu.k_r1, Fu.k_r2, Fu.s_next, Fu.s_set, Fu.s_own, Fu.s_asg, Fu.s_drop, Fu.s_ret, Fu.s_retN, Fu.s_brk, Fu.s_cnt, Fu.s_if, Fu.s_aug, Fu.k_gNm, Fu.k_gNil, Fu.k_gCons, Fu.k_gTp, Fu.asL_lst, Fu.asTp_tup, Fu.p_var, Fu.k_pth, Fu.p_ix, Fu.p_cm, id, Fu.s_app, Fu.s_pop, Fu.s_popD, Fu.s_rev, Fu.s_clr, Fu.s_put, Fu.s_callP, Fu.s_mvP, Fu.k_cbP, Fu.asP_mk, Fu.k_lcP, Fu.k_en, Fu.k_rv, Fu.k_zp, Fu.lstO_l, Fu.lstO_f, Fu.bOpT_bb, Fu.k_fld, Fu.asO_obj, Fu.s_for, Fu.s_while, Fu.ok_some, Fu.ok_ite, Fu.wipeT,
  Fu.addT_ii, Fu.addT_ll, Fu.addT_ss, Fu.addT_tt, Fu.catT_ll, Fu.subT_ii, Fu.mulT_ii, Fu.mulT_li, Fu.repT_li, Fu.fdivT_ii, Fu.modT_ii, Fu.powT_ii, Fu.negT_i, Fu.ltT_ii, Fu.leT_ii, Fu.gtT_ii, Fu.geT_ii, Fu.eqST_ii, Fu.eqST_ss, Fu.eqST_bb, Fu.eqT_ii, Fu.eqT_ss, Fu.eqT_bb, Fu.ok_oBl, Fu.ok_oNb, Fu.isNT_n, Fu.isNT_i, Fu.isNT_l, Fu.isNT_t, Fu.isNT_b, Fu.isNT_s, Fu.lenT_l, Fu.lenT_t, Fu.lenT_f, Fu.itemsT_l, Fu.itemsT_t, Fu.itemsT_f, Fu.lstT_l, Fu.lstT_t, Fu.lstT_f, Fu.tupT_l, Fu.tupT_t, Fu.ixT_l, Fu.ixT_t, Fu.ixT_f, Fu.intT_i, Fu.absT_i, Fu.max2T_i, Fu.min2T_i, Fu.slT_l, Fu.slLT_l, Fu.tyT_i, Fu.tyT_s, Fu.tyT_b, Fu.tyT_t, Fu.tyT_l, Fu.tyT_f, Fu.tyT_n,
  List.getElem?_cons_zero, List.getElem?_cons_succ, List.getD_cons_zero, List.getD_cons_succ, List.set_cons_zero, List.set_cons_succ, List.map_cons, List.map_nil, List.replicate, List.append_nil, List.cons_append, List.nil_append, List.length_cons, List.length_nil, Nat.reduceAdd, Nat.reduceSub, Nat.reduceLT, Nat.reduceLeDiff, Nat.zero_add, Int.reduceToNat, Int.reducePow, Int.reduceNeg, Mi.mulC_r, Mi.atI_0, Mi.atI_1, Mi.atI_2,
  subTy, decide_true, decide_false, Bool.or_self, Bool.or_true, Bool.true_or, Bool.or_false, Bool.false_or, Bool.and_true, Bool.true_and, Bool.and_false, Bool.false_and, Bool.and_self, Bool.not_true, Bool.not_false, Bool.false_eq_true, Bool.true_eq_false, true_and, and_true, and_self, if_true, if_false, ite_true, ite_false])
local macro_rules | `(tactic| walk_at "ks") => `(tactic| (rw [Fu.s_seq]; walk_at "k1"))
local macro_rules | `(tactic| walk_at "k2") => `(tactic| try simp (decide := true) only [Fu.k_tru, Fu.truT_l, Fu.truT_d, Fu.s_ext, Fu.s_ddel, Fu.k_cbL, Fu.dgetT_d, Fu.dinT_d, Fu.keyT_i, Fu.asDc_d, Fu.k_dc, Fu.s_dput, Fu.dkeysT_d, Fu.k_c, Fu.k_var, Fu.k_op, Fu.k_un, Fu.k_nil, Fu.k_cons, Fu.k_star, Fu.k_tup, Fu.k_lst, Fu.k_cb, Fu.k_cbF, Fu.flatT_i, Fu.flatT_s, Fu.flatT_b, Fu.flatT_n, Fu.k_test, Fu.asB_bl, Fu.asI_int, Fu.k_not, Fu.k_and, Fu.k_or, Fu.k_yes, Fu.k_notV, Fu.k_andV, Fu.k_orV, Fu.k_if, Fu.k_oN, Fu.k_oS, Fu.k_sl, Fu.k_chain, Fu.k_isi, Fu.asS_str, Fu.k_kd, Fu.k_kin, Fu.k_lc, Fu.k_seq, Fu.k_r1, Fu.k_r2, Fu.s_next, Fu.s_set, Fu.s_own, Fu.s_asg, Fu.s_drop, Fu.s_ret, Fu.s_retN, Fu.s_brk, Fu.s_cnt, Fu.s_if, Fu.s_aug, Fu.k_gNm, Fu.k_gNil, Fu.k_gCons, Fu.k_gTp, Fu.asL_lst, Fu.asTp_tup, Fu.p_var, Fu.k_pth, Fu.p_ix, Fu.p_cm, id, Fu.s_app, Fu.s_pop, Fu.s_popD, Fu.s_rev, Fu.s_clr, Fu.s_put, Fu.s_callP, Fu.s_mvP, Fu.k_cbP, Fu.asP_mk, Fu.k_lcP, Fu.k_en, Fu.k_rv, Fu.k_zp, Fu.lstO_l, Fu.lstO_f, Fu.bOpT_bb, Fu.k_fld, Fu.asO_obj, Fu.s_for, Fu.s_while, Fu.ok_some, Fu.ok_ite, Fu.wipeT,
  Fu.addT_ii, Fu.addT_ll, Fu.addT_ss, Fu.addT_tt, Fu.catT_ll, Fu.subT_ii, Fu.mulT_ii, Fu.mulT_li, Fu.repT_li, Fu.fdivT_ii, Fu.modT_ii, Fu.powT_ii, Fu.negT_i, Fu.ltT_ii, Fu.leT_ii, Fu.gtT_ii, Fu.geT_ii, Fu.eqST_ii, Fu.eqST_ss, Fu.eqST_bb, Fu.eqT_ii, Fu.eqT_ss, Fu.eqT_bb, Fu.ok_oBl, Fu.ok_oNb, Fu.isNT_n, Fu.isNT_i, Fu.isNT_l, Fu.isNT_t, Fu.isNT_b, Fu.isNT_s, Fu.lenT_l, Fu.lenT_t, Fu.lenT_f, Fu.itemsT_l, Fu.itemsT_t, Fu.itemsT_f, Fu.lstT_l, Fu.lstT_t, Fu.lstT_f, Fu.tupT_l, Fu.tupT_t, Fu.ixT_l, Fu.ixT_t, Fu.ixT_f, Fu.intT_i, Fu.absT_i, Fu.max2T_i, Fu.min2T_i, Fu.slT_l, Fu.slLT_l, Fu.tyT_i, Fu.tyT_s, Fu.tyT_b, Fu.tyT_t, Fu.tyT_l, Fu.tyT_f, Fu.tyT_n,
  List.getElem?_cons_zero, List.getElem?_cons_succ, List.getD_cons_zero, List.getD_cons_succ, List.set_cons_zero, List.set_cons_succ, List.map_cons, List.map_nil, List.replicate, List.append_nil, List.cons_append, List.nil_append, List.length_cons, List.length_nil, Nat.reduceAdd, Nat.reduceSub, Nat.reduceLT, Nat.reduceLeDiff, Nat.zero_add, Int.reduceToNat, Int.reducePow, Int.reduceNeg, Mi.mulC_r, Mi.atI_0, Mi.atI_1, Mi.atI_2,
  subTy, decide_true, decide_false, Bool.or_self, Bool.or_true, Bool.true_or, Bool.or_false, Bool.false_or, Bool.and_true, Bool.true_and, Bool.and_false, Bool.false_and, Bool.and_self, Bool.not_true, Bool.not_false, Bool.false_eq_true, Bool.true_eq_false, true_and, and_true, and_self, if_true, if_false, ite_true, ite_false])
local macro_rules | `(tactic| walk_at "kt") => `(tactic| (rw [Fu.s_seq]; walk_at "k2"))
local macro_rules | `(tactic| walk_at "k3") => `(tactic| try simp (decide := true) only [Fu.k_let, Fu.atI_3, Fu.atI_4, Fu.atI_5, Fu.k_ho, Fu.k_he, Fu.k_testC, Fu.k_andC, Fu.k_orC, Fu.k_notC, Fu.s_setC, Fu.s_retC, Fu.s_dropC, Fu.s_ifC, Fu.s_forC, Fu.sp_retC, Fu.sp_ifC, Fu.sp_setC, Fu.sp_if, Fu.sp_ret, Fu.sp_next, Fu.asR_mk, Fu.s_callRi, Fu.mulT_si, Fu.lenT_s, Fu.strXT_i, Fu.strST_i, Fu.strXT_s, Fu.strST_s, Fu.k_dget2, Fu.splitT_ss, Fu.predT_s, Fu.k_js0, Fu.k_js1, Fu.fmtT_s, Fu.fmtT_i, Fu.k_fmt, Fu.k_kg, List.take_succ_cons, List.take_zero, List.take_nil, eq_self, Fu.k_tru, Fu.truT_l, Fu.truT_d, Fu.s_ext, Fu.s_ddel, Fu.k_cbL, Fu.dgetT_d, Fu.dinT_d, Fu.keyT_i, Fu.asDc_d, Fu.k_dc, Fu.s_dput, Fu.dkeysT_d, Fu.k_c, Fu.k_var, Fu.k_op, Fu.k_un, Fu.k_nil, Fu.k_cons, Fu.k_star, Fu.k_tup, Fu.k_lst, Fu.k_cb, Fu.k_cbF, Fu.flatT_i, Fu.flatT_s, Fu.flatT_b, Fu.flatT_n, Fu.k_test, Fu.asB_bl, Fu.asI_int, Fu.k_not, Fu.k_and, Fu.k_or, Fu.k_yes, Fu.k_notV, Fu.k_andV, Fu.k_orV, Fu.k_if, Fu.k_oN, Fu.k_oS, Fu.k_sl, Fu.k_chain, Fu.k_isi, Fu.asS_str, Fu.k_kd, Fu.k_kin, Fu.k_lc, Fu.k_seq, Fu.k_r1, Fu.k_r2, Fu.s_next, Fu.s_set, Fu.s_own, Fu.s_asg, Fu.s_drop, Fu.s_ret, Fu.s_retN, Fu.s_brk, Fu.s_cnt, Fu.s_if, Fu.s_aug, Fu.k_gNm, Fu.k_gNil, Fu.k_gCons, Fu.k_gTp, Fu.asL_lst, Fu.asTp_tup, Fu.p_var, Fu.k_pth, Fu.p_ix, Fu.p_cm, id, Fu.s_app, Fu.s_pop, Fu.s_popD, Fu.s_rev, Fu.s_clr, Fu.s_put, Fu.s_callP, Fu.s_mvP, Fu.k_cbP, Fu.asP_mk, Fu.k_lcP, Fu.k_en, Fu.k_rv, Fu.k_zp, Fu.lstO_l, Fu.lstO_f, Fu.bOpT_bb, Fu.k_fld, Fu.asO_obj, Fu.s_for, Fu.s_while, Fu.ok_some, Fu.ok_ite, Fu.wipeT,
  Fu.addT_ii, Fu.addT_ll, Fu.addT_ss, Fu.addT_tt, Fu.catT_ll, Fu.subT_ii, Fu.mulT_ii, Fu.mulT_li, Fu.repT_li, Fu.fdivT_ii, Fu.modT_ii, Fu.powT_ii, Fu.negT_i, Fu.ltT_ii, Fu.leT_ii, Fu.gtT_ii, Fu.geT_ii, Fu.eqST_ii, Fu.eqST_ss, Fu.eqST_bb, Fu.eqT_ii, Fu.eqT_ss, Fu.eqT_bb, Fu.ok_oBl, Fu.ok_oNb, Fu.isNT_n, Fu.isNT_i, Fu.isNT_l, Fu.isNT_t, Fu.isNT_b, Fu.isNT_s, Fu.lenT_l, Fu.lenT_t, Fu.lenT_f, Fu.itemsT_l, Fu.itemsT_t, Fu.itemsT_f, Fu.lstT_l, Fu.lstT_t, Fu.lstT_f, Fu.tupT_l, Fu.tupT_t, Fu.ixT_l, Fu.ixT_t, Fu.ixT_f, Fu.intT_i, Fu.absT_i, Fu.max2T_i, Fu.min2T_i, Fu.slT_l, Fu.slLT_l, Fu.tyT_i, Fu.tyT_s, Fu.tyT_b, Fu.tyT_t, Fu.tyT_l, Fu.tyT_f, Fu.tyT_n,
  List.getElem?_cons_zero, List.getElem?_cons_succ, List.getD_cons_zero, List.getD_cons_succ, List.set_cons_zero, List.set_cons_succ, List.map_cons, List.map_nil, List.replicate, List.append_nil, List.cons_append, List.nil_append, List.length_cons, List.length_nil, Nat.reduceAdd, Nat.reduceSub, Nat.reduceLT, Nat.reduceLeDiff, Nat.zero_add, Int.reduceToNat, Int.reducePow, Int.reduceNeg, Mi.mulC_r, Mi.atI_0, Mi.atI_1, Mi.atI_2,
  subTy, decide_true, decide_false, Bool.or_self, Bool.or_true, Bool.true_or, Bool.or_false, Bool.false_or, Bool.and_true, Bool.true_and, Bool.and_false, Bool.false_and, Bool.and_self, Bool.not_true, Bool.not_false, Bool.false_eq_true, Bool.true_eq_false, true_and, and_true, and_self, if_true, if_false, ite_true, ite_false])
local macro_rules | `(tactic| walk_at "kr") => `(tactic| (rw [Fu.s_seq]; walk_at "k3"))
abbrev F (k i : Nat) := fu 1000000 k i
section
variable {k : Nat}
theorem qSrc : SrcF (F (k + 1) 11) := src_F
theorem qDrw : DrwF (F (k + 1) 12) := drw_F
theorem qWrd : WrdF (F (k + 1) 13) := wrd_F
theorem qNum : SA.NumF (F (k + 2) 14) := SA.num_F (FD := F (k + 1) 12) qDrw
theorem qNam : NamF (F (k + 2) 15) := nam_F (FW := F (k + 1) 13) (FD := F (k + 1) 12) qWrd qDrw
theorem qNms : NmsF (F (k + 3) 16) := nms_F (FD := F (k + 2) 12) (FN := F (k + 2) 15) qDrw qNam
theorem qTerm (n k : Nat) (hn : n ≤ 1000) : SA.TermF (F (k + n + 3) 17) n := SA.term_F (F := fun k => F k 17) (FD := fun k => F k 12) (FN := fun k => F k 14) (fun _ => qDrw) (fun _ => qNum) (fun _ _ => rfl) n k hn
theorem qNoteP : NoteP (fun k => F k 1) := note_P (Fp := fun k => F k 2) (fun _ => rfl) fun _ _ => rfl
theorem qNamesP : NamesP (fun k => F k 0) := names_P (Fn := fun k => F k 1) qNoteP fun _ _ => rfl
end
inductive Bw where | plus | minus | times | least | most
def Bw.s : Bw → Str | .plus => "plus" | .minus => "minus" | .times => "times" | .least => "least" | .most => "most"
def Bw.op (w : Bw) (x y : Int) : Int := match w with
  | .plus => x + y | .minus => x - y | .times => x * y | .least => if x < y then x else y | .most => if x < y then y else x
inductive Te where
  | num (x : Int) | nam (s : Str) | neg (a : Te) | quo (a : Te) (d : Int) | rem (a : Te) (d : Int) | bin (w : Bw) (a b : Te)
def Te.t : Te → T
  | .num x => numT x
  | .nam s => namT s
  | .neg a => .tup [.str "negative", a.t]
  | .quo a d => .tup [.str "quotient", a.t, .int d]
  | .rem a d => .tup [.str "remainder", a.t, .int d]
  | .bin w a b => .tup [.str w.s, a.t, b.t]
def Te.sz : Te → Nat
  | .num _ => 0
  | .nam _ => 0
  | .neg a => a.sz + 1
  | .quo a _ => a.sz + 1
  | .rem a _ => a.sz + 1
  | .bin _ a b => a.sz + b.sz + 1
def Te.names : Te → List Str
  | .num _ => []
  | .nam s => [s]
  | .neg a => a.names
  | .quo a _ => a.names
  | .rem a _ => a.names
  | .bin _ a b => a.names ++ b.names
def Te.Ok (ns : List Str) : Te → Prop
  | .num x => 0 ≤ x ∧ x < ten18
  | .nam s => s ∈ ns
  | .neg a => a.Ok ns
  | .quo a d => a.Ok ns ∧ 1 ≤ d ∧ d < ten18
  | .rem a d => a.Ok ns ∧ 1 ≤ d ∧ d < ten18
  | .bin _ a b => a.Ok ns ∧ b.Ok ns
def Te.val (v : Str → Int) : Te → Int
  | .num x => x
  | .nam s => v s
  | .neg a => -a.val v
  | .quo a d => a.val v / d
  | .rem a d => a.val v % d
  | .bin w a b => w.op (a.val v) (b.val v)
inductive Cw where | and | or | imp | same
def Cw.s : Cw → Str | .and => "and" | .or => "or" | .imp => "implies" | .same => "same"
def Cw.op (w : Cw) (x y : Bool) : Bool := match w with
  | .and => x && y | .or => x || y | .imp => y || !x | .same => x == y
inductive Rw where | eq | lt | le
def Rw.s : Rw → Str | .eq => "equal" | .lt => "below" | .le => "upto"
def Rw.op (w : Rw) (x y : Int) : Bool := match w with
  | .eq => decide (x = y) | .lt => decide (x < y) | .le => decide (x ≤ y)
inductive Ce where
  | con (b : Bool) | cmp (w : Rw) (a b : Te) | not (a : Ce) | bin (w : Cw) (a b : Ce)
def conS (b : Bool) : Str := if b then "true" else "false"
def Ce.t : Ce → T
  | .con b => .tup [.str (conS b)]
  | .cmp w a b => .tup [.str w.s, a.t, b.t]
  | .not a => .tup [.str "not", a.t]
  | .bin w a b => .tup [.str w.s, a.t, b.t]
def Ce.sz : Ce → Nat
  | .con _ => 0
  | .cmp _ a b => a.sz + b.sz + 1
  | .not a => a.sz + 1
  | .bin _ a b => a.sz + b.sz + 1
def Ce.names : Ce → List Str
  | .con _ => []
  | .cmp _ a b => a.names ++ b.names
  | .not a => a.names
  | .bin _ a b => a.names ++ b.names
def Ce.Ok (ns : List Str) : Ce → Prop
  | .con _ => True
  | .cmp _ a b => a.Ok ns ∧ b.Ok ns
  | .not a => a.Ok ns
  | .bin _ a b => a.Ok ns ∧ b.Ok ns
def Ce.val (v : Str → Int) : Ce → Bool
  | .con b => b
  | .cmp w a b => w.op (a.val v) (b.val v)
  | .not a => !a.val v
  | .bin w a b => w.op (a.val v) (b.val v)
theorem te_of {ns : List Str} : ∀ {n : Nat} {t : T}, SA.Tm ns n t → ∃ e : Te, t = e.t ∧ e.sz = n ∧ e.Ok ns
  | _, _, .num h0 h1 => ⟨.num _, rfl, rfl, h0, h1⟩
  | _, _, .nam h => ⟨.nam _, rfl, rfl, h⟩
  | _, _, .neg h => by obtain ⟨a, rfl, rfl, q⟩ := te_of h; exact ⟨.neg a, rfl, rfl, q⟩
  | _, _, .div hw h h0 h1 => by
    obtain ⟨a, rfl, rfl, q⟩ := te_of h
    rcases List.mem_cons.mp hw with rfl | hw
    · exact ⟨.quo a _, rfl, rfl, q, h0, h1⟩
    · rw [List.mem_singleton.mp hw]; exact ⟨.rem a _, rfl, rfl, q, h0, h1⟩
  | _, _, .bin hw h h2 => by
    obtain ⟨a, rfl, rfl, q⟩ := te_of h
    obtain ⟨b, rfl, rfl, q2⟩ := te_of h2
    rcases List.mem_cons.mp hw with rfl | hw
    · exact ⟨.bin .plus a b, rfl, rfl, q, q2⟩
    rcases List.mem_cons.mp hw with rfl | hw
    · exact ⟨.bin .minus a b, rfl, rfl, q, q2⟩
    rcases List.mem_cons.mp hw with rfl | hw
    · exact ⟨.bin .times a b, rfl, rfl, q, q2⟩
    rcases List.mem_cons.mp hw with rfl | hw
    · exact ⟨.bin .least a b, rfl, rfl, q, q2⟩
    rw [List.mem_singleton.mp hw]; exact ⟨.bin .most a b, rfl, rfl, q, q2⟩
theorem ntsL_mono {R S : T → List Str → Prop} (h : ∀ t L, R t L → S t L) : ∀ {xs : List T} {L : List Str}, NtsL R xs L → NtsL S xs L
  | _, _, .nil => .nil
  | _, _, .tup q p t => .tup q (h _ _ p) (ntsL_mono h t)
  | _, _, .oth q s t => .oth q s (ntsL_mono h t)
theorem ntL_mono : ∀ (j : Nat) (t : T) (L : List Str), NtL j t L → NtL (j + 1) t L
  | 0, _, _, h => h.elim
  | j + 1, t, L, h => by
    rcases h with h | ⟨w, xs, rfl, hw, l, h⟩
    · exact .inl h
    · exact .inr ⟨w, xs, rfl, hw, l, ntsL_mono (ntL_mono j) h⟩
theorem ntL_le {i j : Nat} {t : T} {L : List Str} (h : NtL i t L) (hl : i ≤ j) : NtL j t L := by
  obtain ⟨d, rfl⟩ : ∃ d, j = i + d := ⟨j - i, by omega⟩
  clear hl
  induction d with
  | zero => exact h
  | succ d ih => exact ntL_mono _ _ _ ih
theorem nt_one {j : Nat} {w : Str} {t : T} {L : List Str} (hw : w ≠ "name") (q : isTp t = true) (h : NtL j t L) : NtL (j + 1) (.tup [.str w, t]) L := .inr ⟨w, [t], rfl, hw, by simp, by have := NtsL.tup q h .nil; rwa [List.append_nil] at this⟩
theorem nt_two {j : Nat} {w : Str} {t u : T} {L M : List Str} (hw : w ≠ "name") (q : isTp t = true) (h : NtL j t L) (q2 : isTp u = true) (h2 : NtL j u M) : NtL (j + 1) (.tup [.str w, t, u]) (L ++ M) := .inr ⟨w, [t, u], rfl, hw, by simp, .tup q h (by have := NtsL.tup q2 h2 .nil; rwa [List.append_nil] at this)⟩
theorem nt_div {j : Nat} {w : Str} {t : T} {d : Int} {L : List Str} (hw : w ≠ "name") (q : isTp t = true) (h : NtL j t L) : NtL (j + 1) (.tup [.str w, t, .int d]) L := .inr ⟨w, [t, .int d], rfl, hw, by simp, by have := NtsL.tup q h (.oth (x := .int d) rfl (.inl ⟨_, rfl⟩) .nil); rwa [List.append_nil] at this⟩
theorem Te.tp (a : Te) : isTp a.t = true := by cases a <;> rfl
theorem Ce.tp (a : Ce) : isTp a.t = true := by cases a <;> rfl
theorem Te.ntl : ∀ a : Te, NtL (a.sz + 1) a.t a.names
  | .num x => .inr ⟨"number", [.int x], rfl, by decide, by simp, .oth rfl (.inl ⟨_, rfl⟩) .nil⟩
  | .nam s => .inl ⟨s, rfl, rfl⟩
  | .neg a => nt_one (by decide) a.tp a.ntl
  | .quo a d => nt_div (by decide) a.tp a.ntl
  | .rem a d => nt_div (by decide) a.tp a.ntl
  | .bin w a b => nt_two (by cases w <;> decide) a.tp (ntL_le a.ntl (by show a.sz + 1 ≤ a.sz + b.sz + 1; omega)) b.tp (ntL_le b.ntl (by show b.sz + 1 ≤ a.sz + b.sz + 1; omega))
theorem Ce.ntl : ∀ a : Ce, NtL (a.sz + 1) a.t a.names
  | .con b => .inr ⟨conS b, [], rfl, by cases b <;> decide, by decide, .nil⟩
  | .cmp w a b => nt_two (by cases w <;> decide) a.tp (ntL_le a.ntl (by show a.sz + 1 ≤ a.sz + b.sz + 1; omega)) b.tp (ntL_le b.ntl (by show b.sz + 1 ≤ a.sz + b.sz + 1; omega))
  | .not a => nt_one (by decide) a.tp a.ntl
  | .bin w a b => nt_two (by cases w <;> decide) a.tp (ntL_le a.ntl (by show a.sz + 1 ≤ a.sz + b.sz + 1; omega)) b.tp (ntL_le b.ntl (by show b.sz + 1 ≤ a.sz + b.sz + 1; omega))
theorem Te.nlen : ∀ a : Te, a.names.length ≤ a.sz + 1
  | .num x => Nat.zero_le _
  | .nam s => Nat.le_refl _
  | .neg a => by have := a.nlen; show a.names.length ≤ a.sz + 1 + 1; omega
  | .quo a d => by have := a.nlen; show a.names.length ≤ a.sz + 1 + 1; omega
  | .rem a d => by have := a.nlen; show a.names.length ≤ a.sz + 1 + 1; omega
  | .bin w a b => by have := a.nlen; have := b.nlen; show (a.names ++ b.names).length ≤ a.sz + b.sz + 1 + 1; rw [List.length_append]; omega
theorem Ce.nlen : ∀ a : Ce, a.names.length ≤ a.sz + 1
  | .con b => Nat.zero_le _
  | .cmp w a b => by have := a.nlen; have := b.nlen; show (a.names ++ b.names).length ≤ a.sz + b.sz + 1 + 1; rw [List.length_append]; omega
  | .not a => by have := a.nlen; show a.names.length ≤ a.sz + 1 + 1; omega
  | .bin w a b => by have := a.nlen; have := b.nlen; show (a.names ++ b.names).length ≤ a.sz + b.sz + 1 + 1; rw [List.length_append]; omega
theorem Te.nsub {ns : List Str} : ∀ {a : Te}, a.Ok ns → ∀ x ∈ a.names, x ∈ ns
  | .num _, _, x, hx => nomatch hx
  | .nam s, h, x, hx => by rw [List.mem_singleton.mp hx]; exact h
  | .neg a, h, x, hx => Te.nsub (a := a) h x hx
  | .quo a d, h, x, hx => Te.nsub (a := a) h.1 x hx
  | .rem a d, h, x, hx => Te.nsub (a := a) h.1 x hx
  | .bin w a b, h, x, hx => by
    rcases List.mem_append.mp hx with hx | hx
    · exact Te.nsub (a := a) h.1 x hx
    · exact Te.nsub (a := b) h.2 x hx
theorem Ce.nsub {ns : List Str} : ∀ {a : Ce}, a.Ok ns → ∀ x ∈ a.names, x ∈ ns
  | .con _, _, x, hx => nomatch hx
  | .cmp w a b, h, x, hx => by
    rcases List.mem_append.mp hx with hx | hx
    · exact Te.nsub (a := a) h.1 x hx
    · exact Te.nsub (a := b) h.2 x hx
  | .not a, h, x, hx => Ce.nsub (a := a) h x hx
  | .bin w a b, h, x, hx => by
    rcases List.mem_append.mp hx with hx | hx
    · exact Ce.nsub (a := a) h.1 x hx
    · exact Ce.nsub (a := b) h.2 x hx
theorem pow_le {a b : Nat} (ha : 1 ≤ a) (hb : 1 ≤ b) : 2 ^ a + 2 ^ b ≤ 2 ^ (a + b) := by
  rw [Nat.pow_add]
  have h1 : 2 ≤ 2 ^ a := by have := Nat.pow_le_pow_right (n := 2) (by decide) ha; simpa using this
  have h2 : 2 ≤ 2 ^ b := by have := Nat.pow_le_pow_right (n := 2) (by decide) hb; simpa using this
  generalize 2 ^ a = x at *
  generalize 2 ^ b = y at *
  have h3 : x * 2 ≤ x * y := Nat.mul_le_mul_left x h2
  have h4 : 2 * y ≤ x * y := Nat.mul_le_mul_right y h1
  omega
theorem le_pow {a b : Nat} (h : a ≤ b) : 2 ^ a ≤ 2 ^ b := Nat.pow_le_pow_right (by decide) h
theorem ten18_lt {x : Int} (h0 : 0 ≤ x) (h : x < ten18) : x.natAbs < 2 ^ 60 := by
  have e : (2 : Nat) ^ 60 = 1152921504606846976 := by decide
  unfold ten18 at h
  omega
theorem ediv_abs (x d : Int) (hd : 1 ≤ d) : (x / d).natAbs ≤ x.natAbs := by
  have h2 : x % d < d := Int.emod_lt_of_pos x (by omega)
  have h1 : 0 ≤ x % d := Int.emod_nonneg x (by omega)
  have h3 := Int.mul_ediv_add_emod x d
  rcases Int.le_total 0 x with h | h
  · have q := Int.ediv_nonneg h (show 0 ≤ d by omega)
    have : x / d ≤ x := Int.ediv_le_self d h
    omega
  · have q : x / d ≤ 0 := by
      rcases Int.lt_or_le 0 (x / d) with c | c
      · have : d * 1 ≤ d * (x / d) := Int.mul_le_mul_of_nonneg_left c (by omega)
        omega
      · exact c
    have : x ≤ x / d := by
      refine (Int.le_ediv_iff_mul_le (by omega)).mpr ?_
      have := Int.mul_le_mul_of_nonpos_left h hd
      rwa [Int.mul_one] at this
    omega
theorem Te.bound {ns : List Str} {v : Str → Int} (hv : ∀ s, (v s).natAbs < 2 ^ 60) : ∀ a : Te, a.Ok ns → (a.val v).natAbs < 2 ^ (60 * (a.sz + 1))
  | .num x, h => ten18_lt h.1 h.2
  | .nam s, h => hv s
  | .neg a, h => by
    have := a.bound hv h
    have := le_pow (show 60 * (a.sz + 1) ≤ 60 * (a.sz + 1 + 1) by omega)
    show (-(a.val v)).natAbs < 2 ^ (60 * (a.sz + 1 + 1))
    rw [Int.natAbs_neg]
    omega
  | .quo a d, h => by
    have := a.bound hv h.1
    have := le_pow (show 60 * (a.sz + 1) ≤ 60 * (a.sz + 1 + 1) by omega)
    have := ediv_abs (a.val v) d h.2.1
    show (a.val v / d).natAbs < 2 ^ (60 * (a.sz + 1 + 1))
    omega
  | .rem a d, h => by
    have h1 := Int.emod_nonneg (a.val v) (show d ≠ 0 by have := h.2.1; omega)
    have h2 := Int.emod_lt_of_pos (a.val v) (show 0 < d by have := h.2.1; omega)
    have h3 := ten18_lt h1 (Int.lt_trans h2 h.2.2)
    have := le_pow (show 60 ≤ 60 * (a.sz + 1 + 1) by omega)
    show (a.val v % d).natAbs < 2 ^ (60 * (a.sz + 1 + 1))
    omega
  | .bin w a b, h => by
    have ha := a.bound hv h.1
    have hb := b.bound hv h.2
    have hp := pow_le (show 1 ≤ 60 * (a.sz + 1) by omega) (show 1 ≤ 60 * (b.sz + 1) by omega)
    have e : 60 * (a.sz + b.sz + 1 + 1) = 60 * (a.sz + 1) + 60 * (b.sz + 1) := by omega
    show (w.op (a.val v) (b.val v)).natAbs < 2 ^ (60 * (a.sz + b.sz + 1 + 1))
    rw [e]
    cases w with
    | times => exact wide_lt ha hb
    | plus => show (a.val v + b.val v).natAbs < _; omega
    | minus => show (a.val v - b.val v).natAbs < _; omega
    | least => show (if a.val v < b.val v then a.val v else b.val v).natAbs < _; split <;> omega
    | most => show (if a.val v < b.val v then b.val v else a.val v).natAbs < _; split <;> omega
theorem comb_F {k : Nat} {w : Bw} {x y : Int} {a b : Nat} (ha : x.natAbs < 2 ^ a) (hb : y.natAbs < 2 ^ b) (h : a + b ≤ 100000) : fu 1000000 (k + 1) 7 [.str w.s, .int x, .int y] = some (.int (w.op x y)) := by
  rw [u_7]
  obtain ⟨Φ, hΦ⟩ : ∃ Φ, Φ = fu 1000000 k := ⟨_, rfl⟩
  rw [← hΦ]
  refine eq_ok (k_fun rfl ?_)
  unfold s_7
  cases w <;> simp only [Bw.s, Bw.op]
  · walk_at "ks"
    walk_at "k1"
  · walk_at "ks"
    walk_at "ks"
    walk_at "k1"
  · walk_at "ks"
    walk_at "ks"
    walk_at "ks"
    rw [ok_eq (mulW_ok ha hb h)]
    walk_at "k1"
  · walk_at "ks"
    walk_at "ks"
    walk_at "ks"
    walk_at "ks"
    show T.int (if y < x then y else x) = T.int (if x < y then x else y)
    congr 1
    split <;> split <;> omega
  · walk_at "ks"
    walk_at "ks"
    walk_at "ks"
    walk_at "ks"
    walk_at "k1"
/-- what is known of the names: the dict, and numbers for the names in it -/
structure Vals (ks : List (Key × T)) (kn : List Str) (v : Str → Int) : Prop where
  get : ∀ s, lookK ks (.inr s) = if s ∈ kn then some (.int (v s)) else none
  small : ∀ s, (v s).natAbs < 2 ^ 60
theorem Vals.dget {ks : List (Key × T)} {kn : List Str} {v : Str → Int} (h : Vals ks kn v) {s : Str} (hs : s ∈ kn) : dgetT (.dic ks) (.str s) = some (.int (v s)) := by
  show lookK ks (.inr s) = _
  rw [h.get, if_pos hs]
section
variable {ks : List (Key × T)} {kn : List Str} {v : Str → Int} {ns : List Str}
theorem pw60 {n : Nat} (h : n ≤ 200) : 60 * (n + 1) ≤ 20000 := by omega
theorem number_F (hV : Vals ks kn v) : ∀ (a : Te) (k : Nat), a.Ok ns → a.sz ≤ 200 → (∀ s ∈ a.names, s ∈ kn) → fu 1000000 (k + a.sz + 2) 6 [a.t, .dic ks] = some (.int (a.val v)) := by
  intro a
  induction a with
  | num x =>
    intro k ho hz hn
    rw [show k + (Te.num x).sz + 2 = (k + 1) + 1 from rfl, u_6]
    rw [show (Te.num x).t = .tup [.str "number", .int x] from rfl]
    refine eq_ok (k_fun rfl ?_)
    unfold s_6
    walk_at "ks"
    walk_at "ks"
    rfl
  | nam s =>
    intro k ho hz hn
    rw [show k + (Te.nam s).sz + 2 = (k + 1) + 1 from rfl, u_6]
    rw [show (Te.nam s).t = .tup [.str "name", .str s] from rfl]
    refine eq_ok (k_fun rfl ?_)
    unfold s_6
    walk_at "ks"
    walk_at "ks"
    walk_at "ks"
    rw [ok_eq (hV.dget (hn s List.mem_cons_self))]
    rfl
  | neg a ih =>
    intro k ho hz hn
    rw [show k + (Te.neg a).sz + 2 = (k + a.sz + 2) + 1 from rfl, u_6]
    have e := ih k ho (Nat.le_of_succ_le hz) hn
    obtain ⟨Φ, hΦ⟩ : ∃ Φ, Φ = fu 1000000 (k + a.sz + 2) := ⟨_, rfl⟩
    rw [← hΦ] at e ⊢
    rw [show (Te.neg a).t = .tup [.str "negative", a.t] from rfl]
    refine eq_ok (k_fun rfl ?_)
    unfold s_6
    walk_at "ks"
    walk_at "ks"
    walk_at "ks"
    walk_at "ks"
    rw [ok_eq e]
    walk_at "ks"
    rfl
  | quo a d ih =>
    intro k ho hz hn
    rw [show k + (Te.quo a d).sz + 2 = (k + a.sz + 2) + 1 from rfl, u_6]
    have e := ih k ho.1 (Nat.le_of_succ_le hz) hn
    obtain ⟨Φ, hΦ⟩ : ∃ Φ, Φ = fu 1000000 (k + a.sz + 2) := ⟨_, rfl⟩
    rw [← hΦ] at e ⊢
    rw [show (Te.quo a d).t = .tup [.str "quotient", a.t, .int d] from rfl]
    refine eq_ok (k_fun rfl ?_)
    unfold s_6
    walk_at "ks"
    walk_at "ks"
    walk_at "ks"
    walk_at "ks"
    rw [ok_eq e]
    walk_at "ks"
    walk_at "ks"
    rw [ok_eq (fdivW_ok (b := 60) (by have := ho.2.1; omega) (ten18_lt (by have := ho.2.1; omega) ho.2.2) (by decide) (by decide))]
    rfl
  | rem a d ih =>
    intro k ho hz hn
    rw [show k + (Te.rem a d).sz + 2 = (k + a.sz + 2) + 1 from rfl, u_6]
    have e := ih k ho.1 (Nat.le_of_succ_le hz) hn
    obtain ⟨Φ, hΦ⟩ : ∃ Φ, Φ = fu 1000000 (k + a.sz + 2) := ⟨_, rfl⟩
    rw [← hΦ] at e ⊢
    rw [show (Te.rem a d).t = .tup [.str "remainder", a.t, .int d] from rfl]
    refine eq_ok (k_fun rfl ?_)
    unfold s_6
    walk_at "ks"
    walk_at "ks"
    walk_at "ks"
    walk_at "ks"
    rw [ok_eq e]
    walk_at "ks"
    walk_at "ks"
    walk_at "ks"
    exact ⟨by have := ho.2.1; omega, rfl⟩
  | bin w a b iha ihb =>
    intro k ho hz hn
    have hz : a.sz + b.sz + 1 ≤ 200 := hz
    rw [show k + (Te.bin w a b).sz + 2 = (k + (a.sz + b.sz) + 2) + 1 from rfl, u_6]
    have e1 := iha (k + b.sz) ho.1 (by omega) fun s hs => hn s (List.mem_append_left _ hs)
    have e2 := ihb (k + a.sz) ho.2 (by omega) fun s hs => hn s (List.mem_append_right _ hs)
    have e3 := comb_F (k := k + (a.sz + b.sz) + 1) (w := w) (a.bound hV.small ho.1) (b.bound hV.small ho.2) (by have := pw60 (n := a.sz) (by omega); have := pw60 (n := b.sz) (by omega); omega)
    rw [show k + b.sz + a.sz + 2 = k + (a.sz + b.sz) + 2 from by omega] at e1
    rw [show k + a.sz + b.sz + 2 = k + (a.sz + b.sz) + 2 from by omega] at e2
    obtain ⟨Φ, hΦ⟩ : ∃ Φ, Φ = fu 1000000 (k + (a.sz + b.sz) + 2) := ⟨_, rfl⟩
    have e3 : Φ 7 [.str w.s, .int (a.val v), .int (b.val v)] = some (.int (w.op (a.val v) (b.val v))) := by rw [hΦ]; exact e3
    rw [← hΦ] at e1 e2 ⊢
    rw [show (Te.bin w a b).t = .tup [.str w.s, a.t, b.t] from rfl]
    refine eq_ok (k_fun rfl ?_)
    unfold s_6
    have w1 : (w.s = "number") = False := by cases w <;> simp <;> decide
    have w2 : (w.s = "name") = False := by cases w <;> simp <;> decide
    have w3 : (w.s = "negative") = False := by cases w <;> simp <;> decide
    have w4 : (w.s = "quotient") = False := by cases w <;> simp <;> decide
    have w5 : (w.s = "remainder") = False := by cases w <;> simp <;> decide
    walk_at "ks"
    walk_at "ks"
    simp only [w1]
    walk_at "ks"
    simp only [w2]
    walk_at "ks"
    rw [ok_eq e1]
    walk_at "ks"
    simp only [w3]
    walk_at "ks"
    simp only [w4]
    walk_at "ks"
    simp only [w5]
    walk_at "k1"
    rw [ok_eq e2]
    walk_at "k1"
    rw [ok_eq e3]
    rfl
end
section
variable {ks : List (Key × T)} {kn : List Str} {v : Str → Int} {ns : List Str}
theorem lawval_F (hV : Vals ks kn v) : ∀ (a : Te) (k : Nat), a.Ok ns → a.sz ≤ 200 → (∀ s ∈ a.names, s ∈ kn) → fu 1000000 (k + a.sz + 1) 22 [a.t, .dic ks] = some (.int (a.val v)) := by
  intro a
  induction a with
  | num x =>
    intro k ho hz hn
    rw [show k + (Te.num x).sz + 1 = k + 1 from rfl, u_22]
    rw [show (Te.num x).t = .tup [.str "number", .int x] from rfl]
    refine eq_ok (k_fun rfl ?_)
    unfold s_22
    walk_at "ks"
    walk_at "ks"
    rfl
  | nam s =>
    intro k ho hz hn
    rw [show k + (Te.nam s).sz + 1 = k + 1 from rfl, u_22]
    rw [show (Te.nam s).t = .tup [.str "name", .str s] from rfl]
    refine eq_ok (k_fun rfl ?_)
    unfold s_22
    walk_at "ks"
    walk_at "ks"
    walk_at "ks"
    rw [ok_eq (hV.dget (hn s List.mem_cons_self))]
    rfl
  | neg a ih =>
    intro k ho hz hn
    rw [show k + (Te.neg a).sz + 1 = (k + a.sz + 1) + 1 from rfl, u_22]
    have e := ih k ho (Nat.le_of_succ_le hz) hn
    obtain ⟨Φ, hΦ⟩ : ∃ Φ, Φ = fu 1000000 (k + a.sz + 1) := ⟨_, rfl⟩
    rw [← hΦ] at e ⊢
    rw [show (Te.neg a).t = .tup [.str "negative", a.t] from rfl]
    refine eq_ok (k_fun rfl ?_)
    unfold s_22
    walk_at "ks"
    walk_at "ks"
    walk_at "ks"
    walk_at "ks"
    rw [ok_eq e]
    walk_at "ks"
    rfl
  | quo a d ih =>
    intro k ho hz hn
    rw [show k + (Te.quo a d).sz + 1 = (k + a.sz + 1) + 1 from rfl, u_22]
    have e := ih k ho.1 (Nat.le_of_succ_le hz) hn
    obtain ⟨Φ, hΦ⟩ : ∃ Φ, Φ = fu 1000000 (k + a.sz + 1) := ⟨_, rfl⟩
    rw [← hΦ] at e ⊢
    rw [show (Te.quo a d).t = .tup [.str "quotient", a.t, .int d] from rfl]
    refine eq_ok (k_fun rfl ?_)
    unfold s_22
    walk_at "ks"
    walk_at "ks"
    walk_at "ks"
    walk_at "ks"
    rw [ok_eq e]
    walk_at "ks"
    walk_at "ks"
    rw [ok_eq (fdivW_ok (b := 60) (by have := ho.2.1; omega) (ten18_lt (by have := ho.2.1; omega) ho.2.2) (by decide) (by decide))]
    rfl
  | rem a d ih =>
    intro k ho hz hn
    rw [show k + (Te.rem a d).sz + 1 = (k + a.sz + 1) + 1 from rfl, u_22]
    have e := ih k ho.1 (Nat.le_of_succ_le hz) hn
    have bq := a.bound hV.small ho.1
    have bq2 := ediv_abs (a.val v) d ho.2.1
    have hz : a.sz + 1 ≤ 200 := hz
    obtain ⟨Φ, hΦ⟩ : ∃ Φ, Φ = fu 1000000 (k + a.sz + 1) := ⟨_, rfl⟩
    rw [← hΦ] at e ⊢
    rw [show (Te.rem a d).t = .tup [.str "remainder", a.t, .int d] from rfl]
    refine eq_ok (k_fun rfl ?_)
    unfold s_22
    walk_at "ks"
    walk_at "ks"
    walk_at "ks"
    walk_at "ks"
    rw [ok_eq e]
    walk_at "ks"
    walk_at "ks"
    walk_at "ks"
    have d60 := ten18_lt (x := d) (by have := ho.2.1; omega) ho.2.2
    rw [ok_eq (fdivW_ok (b := 60) (by have := ho.2.1; omega) d60 (by decide) (by decide))]
    walk_at "k1"
    rw [ok_eq (mulW_ok (a := 60 * (a.sz + 1)) (b := 60) (by omega) d60 (by have := pw60 (n := a.sz) (by omega); omega))]
    walk_at "k1"
    have h3 := Int.mul_ediv_add_emod (a.val v) d
    rw [Int.mul_comm] at h3
    show T.int (a.val v - a.val v / d * d) = T.int (a.val v % d)
    congr 1
    omega
  | bin w a b iha ihb =>
    intro k ho hz hn
    have hz : a.sz + b.sz + 1 ≤ 200 := hz
    rw [show k + (Te.bin w a b).sz + 1 = (k + (a.sz + b.sz) + 1) + 1 from rfl, u_22]
    have e1 := iha (k + b.sz) ho.1 (by omega) fun s hs => hn s (List.mem_append_left _ hs)
    have e2 := ihb (k + a.sz) ho.2 (by omega) fun s hs => hn s (List.mem_append_right _ hs)
    have b1 := a.bound hV.small ho.1
    have b2 := b.bound hV.small ho.2
    have b3 : 60 * (a.sz + 1) + 60 * (b.sz + 1) ≤ 100000 := by have := pw60 (n := a.sz) (by omega); have := pw60 (n := b.sz) (by omega); omega
    rw [show k + b.sz + a.sz + 1 = k + (a.sz + b.sz) + 1 from by omega] at e1
    rw [show k + a.sz + b.sz + 1 = k + (a.sz + b.sz) + 1 from by omega] at e2
    obtain ⟨Φ, hΦ⟩ : ∃ Φ, Φ = fu 1000000 (k + (a.sz + b.sz) + 1) := ⟨_, rfl⟩
    rw [← hΦ] at e1 e2 ⊢
    rw [show (Te.bin w a b).t = .tup [.str w.s, a.t, b.t] from rfl]
    refine eq_ok (k_fun rfl ?_)
    unfold s_22
    have w1 : (w.s = "number") = False := by cases w <;> simp <;> decide
    have w2 : (w.s = "name") = False := by cases w <;> simp <;> decide
    have w3 : (w.s = "negative") = False := by cases w <;> simp <;> decide
    have w4 : (w.s = "quotient") = False := by cases w <;> simp <;> decide
    have w5 : (w.s = "remainder") = False := by cases w <;> simp <;> decide
    walk_at "ks"
    walk_at "ks"
    simp only [w1]
    walk_at "ks"
    simp only [w2]
    walk_at "ks"
    rw [ok_eq e1]
    walk_at "ks"
    simp only [w3]
    walk_at "ks"
    simp only [w4]
    walk_at "ks"
    simp only [w5]
    walk_at "ks"
    rw [ok_eq e2]
    show Sk _ _ _ _ fun t => t = T.int (w.op (a.val v) (b.val v))
    generalize a.val v = x at *
    generalize b.val v = y at *
    cases w <;> simp only [Bw.s, Bw.op]
    · walk_at "ks"
    · walk_at "ks"
      walk_at "ks"
    · walk_at "ks"
      walk_at "ks"
      walk_at "ks"
      rw [ok_eq (mulW_ok b1 b2 b3)]
    · walk_at "ks"
      walk_at "ks"
      walk_at "ks"
      walk_at "ks"
      by_cases c : x < y <;> simp [c]
    · walk_at "ks"
      walk_at "ks"
      walk_at "ks"
      walk_at "ks"
      by_cases c : x < y <;> simp [c]
end
theorem conn_F {k : Nat} {w : Cw} {x y : Bool} : fu 1000000 (k + 1) 9 [.str w.s, .bl x, .bl y, .bl true] = some (.bl (w.op x y)) := by
  rw [u_9]
  obtain ⟨Φ, hΦ⟩ : ∃ Φ, Φ = fu 1000000 k := ⟨_, rfl⟩
  rw [← hΦ]
  refine eq_ok (k_fun rfl ?_)
  unfold s_9
  cases w
  · walk_at "ks"
    cases x <;> cases y <;> rfl
  · walk_at "ks"
    walk_at "ks"
    cases x <;> cases y <;> rfl
  · walk_at "ks"
    walk_at "ks"
    walk_at "ks"
    cases x <;> cases y <;> rfl
  · walk_at "ks"
    walk_at "ks"
    walk_at "ks"
    cases x <;> cases y <;> rfl
section
variable {ks : List (Key × T)} {kn : List Str} {v : Str → Int} {ns : List Str}
theorem mem3 (w : Str) : memDT false (.str w) (.lst [.str "equal", .str "below", .str "upto"]) = some (.bl (decide (w ∈ (["equal", "below", "upto"] : List Str)))) := FA.mem_strs (zs := ["equal", "below", "upto"])
theorem holds_F (hV : Vals ks kn v) : ∀ (a : Ce) (k : Nat), a.Ok ns → a.sz ≤ 200 → (∀ s ∈ a.names, s ∈ kn) → fu 1000000 (k + a.sz + 2) 8 [a.t, .dic ks] = some (.bl (a.val v)) := by
  intro a
  induction a with
  | con b =>
    intro k ho hz hn
    rw [show k + (Ce.con b).sz + 2 = (k + 1) + 1 from rfl, u_8]
    cases b
    · rw [show (Ce.con false).t = .tup [.str "false"] from rfl]
      refine eq_ok (k_fun rfl ?_)
      unfold s_8
      walk_at "ks"
      walk_at "ks"
      rfl
    · rw [show (Ce.con true).t = .tup [.str "true"] from rfl]
      refine eq_ok (k_fun rfl ?_)
      unfold s_8
      walk_at "ks"
      walk_at "ks"
      rfl
  | cmp w a b =>
    intro k ho hz hn
    have hz : a.sz + b.sz + 1 ≤ 200 := hz
    rw [show k + (Ce.cmp w a b).sz + 2 = (k + (a.sz + b.sz) + 2) + 1 from rfl, u_8]
    have e1 := number_F (ns := ns) hV a (k + b.sz) ho.1 (by omega) fun s hs => hn s (List.mem_append_left _ hs)
    have e2 := number_F (ns := ns) hV b (k + a.sz) ho.2 (by omega) fun s hs => hn s (List.mem_append_right _ hs)
    rw [show k + b.sz + a.sz + 2 = k + (a.sz + b.sz) + 2 from by omega] at e1
    rw [show k + a.sz + b.sz + 2 = k + (a.sz + b.sz) + 2 from by omega] at e2
    obtain ⟨Φ, hΦ⟩ : ∃ Φ, Φ = fu 1000000 (k + (a.sz + b.sz) + 2) := ⟨_, rfl⟩
    rw [← hΦ] at e1 e2 ⊢
    rw [show (Ce.cmp w a b).t = .tup [.str w.s, a.t, b.t] from rfl]
    rw [show (Ce.cmp w a b).val v = w.op (a.val v) (b.val v) from rfl]
    generalize a.val v = x at *
    generalize b.val v = y at *
    refine eq_ok (k_fun rfl ?_)
    unfold s_8
    cases w <;> simp only [Rw.s, Rw.op]
    · walk_at "ks"
      walk_at "ks"
      walk_at "ks"
      rw [ok_eq e1]
      walk_at "k1"
      rw [ok_eq e2]
      walk_at "k1"
    · walk_at "ks"
      walk_at "ks"
      walk_at "ks"
      walk_at "ks"
      rw [ok_eq e1]
      walk_at "k1"
      rw [ok_eq e2]
      walk_at "k1"
    · walk_at "ks"
      walk_at "ks"
      walk_at "ks"
      walk_at "ks"
      walk_at "ks"
      rw [ok_eq e1]
      walk_at "k1"
      rw [ok_eq e2]
      walk_at "k1"
  | not a ih =>
    intro k ho hz hn
    rw [show k + (Ce.not a).sz + 2 = (k + a.sz + 2) + 1 from rfl, u_8]
    have e := ih k ho (Nat.le_of_succ_le hz) hn
    obtain ⟨Φ, hΦ⟩ : ∃ Φ, Φ = fu 1000000 (k + a.sz + 2) := ⟨_, rfl⟩
    rw [← hΦ] at e ⊢
    rw [show (Ce.not a).t = .tup [.str "not", a.t] from rfl]
    refine eq_ok (k_fun rfl ?_)
    unfold s_8
    walk_at "ks"
    walk_at "ks"
    walk_at "ks"
    walk_at "ks"
    walk_at "ks"
    walk_at "ks"
    rw [ok_eq e]
    walk_at "ks"
    rfl
  | bin w a b iha ihb =>
    intro k ho hz hn
    have hz : a.sz + b.sz + 1 ≤ 200 := hz
    rw [show k + (Ce.bin w a b).sz + 2 = (k + (a.sz + b.sz) + 2) + 1 from rfl, u_8]
    have e1 := iha (k + b.sz) ho.1 (by omega) fun s hs => hn s (List.mem_append_left _ hs)
    have e2 := ihb (k + a.sz) ho.2 (by omega) fun s hs => hn s (List.mem_append_right _ hs)
    have e3 := conn_F (k := k + (a.sz + b.sz) + 1) (w := w) (x := a.val v) (y := b.val v)
    rw [show k + b.sz + a.sz + 2 = k + (a.sz + b.sz) + 2 from by omega] at e1
    rw [show k + a.sz + b.sz + 2 = k + (a.sz + b.sz) + 2 from by omega] at e2
    obtain ⟨Φ, hΦ⟩ : ∃ Φ, Φ = fu 1000000 (k + (a.sz + b.sz) + 2) := ⟨_, rfl⟩
    have e3 : Φ 9 [.str w.s, .bl (a.val v), .bl (b.val v), .bl true] = some (.bl (w.op (a.val v) (b.val v))) := by rw [hΦ]; exact e3
    rw [← hΦ] at e1 e2 ⊢
    rw [show (Ce.bin w a b).t = .tup [.str w.s, a.t, b.t] from rfl]
    refine eq_ok (k_fun rfl ?_)
    unfold s_8
    have w1 : (w.s = "true") = False := by cases w <;> simp <;> decide
    have w2 : (w.s = "false") = False := by cases w <;> simp <;> decide
    have w3 : (w.s = "equal") = False := by cases w <;> simp <;> decide
    have w4 : (w.s = "below") = False := by cases w <;> simp <;> decide
    have w5 : (w.s = "upto") = False := by cases w <;> simp <;> decide
    have w6 : (w.s = "not") = False := by cases w <;> simp <;> decide
    walk_at "ks"
    walk_at "ks"
    simp only [w1, w2]
    walk_at "ks"
    simp only [w3]
    walk_at "ks"
    simp only [w4]
    walk_at "ks"
    simp only [w5]
    walk_at "ks"
    rw [ok_eq e1]
    walk_at "ks"
    simp only [w6]
    walk_at "k1"
    rw [k_def]
    walk_at "k1"
    rw [ok_eq e2]
    walk_at "k1"
    rw [ok_eq e3]
    rfl
theorem lawtru_F (hV : Vals ks kn v) : ∀ (a : Ce) (k : Nat), a.Ok ns → a.sz ≤ 200 → (∀ s ∈ a.names, s ∈ kn) → fu 1000000 (k + a.sz + 1) 23 [a.t, .dic ks] = some (.bl (a.val v)) := by
  intro a
  induction a with
  | con b =>
    intro k ho hz hn
    rw [show k + (Ce.con b).sz + 1 = k + 1 from rfl, u_23]
    cases b
    · rw [show (Ce.con false).t = .tup [.str "false"] from rfl]
      refine eq_ok (k_fun rfl ?_)
      unfold s_23
      walk_at "ks"
      walk_at "ks"
      rfl
    · rw [show (Ce.con true).t = .tup [.str "true"] from rfl]
      refine eq_ok (k_fun rfl ?_)
      unfold s_23
      walk_at "ks"
      walk_at "ks"
      rfl
  | cmp w a b =>
    intro k ho hz hn
    have hz : a.sz + b.sz + 1 ≤ 200 := hz
    rw [show k + (Ce.cmp w a b).sz + 1 = (k + (a.sz + b.sz) + 1) + 1 from rfl, u_23]
    have e1 := lawval_F (ns := ns) hV a (k + b.sz) ho.1 (by omega) fun s hs => hn s (List.mem_append_left _ hs)
    have e2 := lawval_F (ns := ns) hV b (k + a.sz) ho.2 (by omega) fun s hs => hn s (List.mem_append_right _ hs)
    rw [show k + b.sz + a.sz + 1 = k + (a.sz + b.sz) + 1 from by omega] at e1
    rw [show k + a.sz + b.sz + 1 = k + (a.sz + b.sz) + 1 from by omega] at e2
    obtain ⟨Φ, hΦ⟩ : ∃ Φ, Φ = fu 1000000 (k + (a.sz + b.sz) + 1) := ⟨_, rfl⟩
    rw [← hΦ] at e1 e2 ⊢
    rw [show (Ce.cmp w a b).t = .tup [.str w.s, a.t, b.t] from rfl]
    rw [show (Ce.cmp w a b).val v = w.op (a.val v) (b.val v) from rfl]
    generalize a.val v = x at *
    generalize b.val v = y at *
    refine eq_ok (k_fun rfl ?_)
    unfold s_23
    cases w <;> simp only [Rw.s, Rw.op]
    · walk_at "ks"
      walk_at "ks"
      walk_at "ks"
      rw [ok_eq (mem3 "equal")]
      walk_at "ks"
      rw [ok_eq e1]
      walk_at "ks"
      rw [ok_eq e2]
      walk_at "ks"
    · walk_at "ks"
      walk_at "ks"
      walk_at "ks"
      rw [ok_eq (mem3 "below")]
      walk_at "ks"
      rw [ok_eq e1]
      walk_at "ks"
      rw [ok_eq e2]
      walk_at "ks"
      by_cases c : x < y <;> simp [c]
    · walk_at "ks"
      walk_at "ks"
      walk_at "ks"
      rw [ok_eq (mem3 "upto")]
      walk_at "ks"
      rw [ok_eq e1]
      walk_at "ks"
      rw [ok_eq e2]
      walk_at "ks"
      by_cases c : x < y
      · simp [c, Int.le_of_lt c]
      · have : (x = y) = (x ≤ y) := propext ⟨fun h => by omega, fun h => by omega⟩
        simp [c, this]
  | not a ih =>
    intro k ho hz hn
    rw [show k + (Ce.not a).sz + 1 = (k + a.sz + 1) + 1 from rfl, u_23]
    have e := ih k ho (Nat.le_of_succ_le hz) hn
    obtain ⟨Φ, hΦ⟩ : ∃ Φ, Φ = fu 1000000 (k + a.sz + 1) := ⟨_, rfl⟩
    rw [← hΦ] at e ⊢
    rw [show (Ce.not a).t = .tup [.str "not", a.t] from rfl]
    refine eq_ok (k_fun rfl ?_)
    unfold s_23
    walk_at "ks"
    walk_at "ks"
    walk_at "ks"
    rw [ok_eq (mem3 "not")]
    walk_at "k1"
    walk_at "ks"
    rw [ok_eq e]
    walk_at "ks"
    rfl
  | bin w a b iha ihb =>
    intro k ho hz hn
    have hz : a.sz + b.sz + 1 ≤ 200 := hz
    rw [show k + (Ce.bin w a b).sz + 1 = (k + (a.sz + b.sz) + 1) + 1 from rfl, u_23]
    have e1 := iha (k + b.sz) ho.1 (by omega) fun s hs => hn s (List.mem_append_left _ hs)
    have e2 := ihb (k + a.sz) ho.2 (by omega) fun s hs => hn s (List.mem_append_right _ hs)
    rw [show k + b.sz + a.sz + 1 = k + (a.sz + b.sz) + 1 from by omega] at e1
    rw [show k + a.sz + b.sz + 1 = k + (a.sz + b.sz) + 1 from by omega] at e2
    obtain ⟨Φ, hΦ⟩ : ∃ Φ, Φ = fu 1000000 (k + (a.sz + b.sz) + 1) := ⟨_, rfl⟩
    rw [← hΦ] at e1 e2 ⊢
    rw [show (Ce.bin w a b).t = .tup [.str w.s, a.t, b.t] from rfl, show (Ce.bin w a b).val v = w.op (a.val v) (b.val v) from rfl]
    generalize a.val v = x at *
    generalize b.val v = y at *
    refine eq_ok (k_fun rfl ?_)
    unfold s_23
    have w1 : (w.s = "true") = False := by cases w <;> simp <;> decide
    have w2 : (w.s = "false") = False := by cases w <;> simp <;> decide
    have w3 : decide (w.s ∈ (["equal", "below", "upto"] : List Str)) = false := by cases w <;> decide
    have w6 : (w.s = "not") = False := by cases w <;> simp <;> decide
    walk_at "ks"
    walk_at "ks"
    simp only [w1, w2]
    walk_at "ks"
    rw [ok_eq (mem3 w.s), w3]
    walk_at "k1"
    walk_at "ks"
    rw [ok_eq e1]
    walk_at "ks"
    simp only [w6]
    walk_at "ks"
    rw [ok_eq e2]
    cases w <;> simp only [Cw.s, Cw.op]
    · walk_at "ks"
      cases x <;> cases y <;> rfl
    · walk_at "ks"
      walk_at "ks"
      cases x <;> cases y <;> rfl
    · walk_at "ks"
      walk_at "ks"
      walk_at "ks"
      cases x <;> cases y <;> rfl
    · walk_at "ks"
      walk_at "ks"
      walk_at "ks"
      cases x <;> cases y <;> rfl
end
theorem at_el {α : Type} {xs : List α} {f : α → T} {x : Int} (h0 : 0 ≤ x) (h1 : x < xs.length) : ∃ w ∈ xs, atI (xs.map f) x = some (f w) := by
  have e : xs[x.toNat]? = some (xs[x.toNat]'(by omega)) := List.getElem?_eq_getElem _
  exact ⟨_, List.getElem_mem _, atI_ge h0 (by rw [List.getElem?_map, e]; rfl)⟩
def TeF (F : List T → Option T) (n : Nat) : Prop := ∀ (ns : List Str) (s : T), Src s → 1 ≤ ns.length → ns.length ≤ 1000 → ∃ (e : Te) (s' : T), F [s, .int (n : Int), .lst (ns.map T.str)] = some (.tup [e.t, s']) ∧ Src s' ∧ e.Ok ns ∧ e.sz = n
theorem qTe (n k : Nat) (hn : n ≤ 1000) : TeF (F (k + n + 3) 17) n := fun ns s hs h1 h2 => by
  obtain ⟨t, s', q, hs', ht⟩ := qTerm n k hn ns s hs h1 h2
  obtain ⟨e, rfl, e1, e2⟩ := te_of ht
  exact ⟨e, s', q, hs', e2, e1⟩
def CmF (F : List T → Option T) (n : Nat) : Prop := ∀ (ns : List Str) (s : T), Src s → 1 ≤ ns.length → ns.length ≤ 1000 → ∃ (c : Ce) (s' : T), F [s, .int (n : Int), .lst (ns.map T.str)] = some (.tup [c.t, s']) ∧ Src s' ∧ c.Ok ns ∧ c.sz = n + 1
theorem qCmp (n k : Nat) (hn : n ≤ 1000) : CmF (F (k + n + 4) 18) n := fun ns s hs hl hl2 => by
  unfold F
  rw [show k + n + 4 = (k + n + 3) + 1 from rfl, u_18]
  have dF : DrwF (F (k + n + 3) 12) := qDrw
  have tF : ∀ m, m ≤ n → TeF (F (k + n + 3) 17) m := fun m hm => by
    have := qTe m (k + (n - m)) (by omega)
    rwa [show k + (n - m) + m + 3 = k + n + 3 from by omega] at this
  unfold F at dF tF
  obtain ⟨Φ, hΦ⟩ : ∃ Φ, Φ = fu 1000000 (k + n + 3) := ⟨_, rfl⟩
  rw [← hΦ] at dF tF ⊢
  clear hΦ
  have key : Ok (funP true 0 3 6 (s_18 Φ 1000000) [s, .int (n : Int), .lst (ns.map T.str)]) fun v => ∃ (c : Ce) (s' : T), v = .tup [c.t, s'] ∧ Src s' ∧ c.Ok ns ∧ c.sz = n + 1 := by
    obtain ⟨NS, eNS⟩ : ∃ NS, NS = ns.map T.str := ⟨_, rfl⟩
    rw [← eNS]
    have tF : ∀ (m : Nat) (s : T), m ≤ n → Src s → ∃ (e : Te) (s' : T), Φ 17 [s, .int (m : Int), .lst NS] = some (.tup [e.t, s']) ∧ Src s' ∧ e.Ok ns ∧ e.sz = m := fun m s hm hs => by rw [eNS]; exact tF m hm ns s hs hl hl2
    refine k_funP rfl ?_
    unfold s_18
    obtain ⟨x, s1, q1, hs1, x0, x1⟩ := dF s 3 hs (by decide) (by decide)
    obtain ⟨w, hw, e⟩ := at_el (xs := [Rw.eq, .lt, .le]) (f := fun w => T.str w.s) x0 x1
    refine sp_seq (fun e' => e' = [some s1, some (.int (n : Int)), some (.lst NS), some (.str w.s), none, none]) ?_ ?_
    · walk_at "k3"
      rw [ok_eq q1]
      walk_at "k3"
      have e : atI [T.str "equal", T.str "below", T.str "upto"] x = some (.str w.s) := e
      rw [ok_eq e]
      walk_at "k3"
    rintro _ rfl
    obtain ⟨l, s2, q2, hs2, l0, l1⟩ := dF s1 ((n : Int) + 1) hs1 (by omega) (by omega)
    refine sp_seq (fun e' => e' = [some s2, some (.int (n : Int)), some (.lst NS), some (.str w.s), some (.int l), none]) ?_ ?_
    · walk_at "k3"
      rw [ok_eq q2]
      walk_at "k3"
    rintro _ rfl
    obtain ⟨a, rfl⟩ : ∃ a : Nat, l = (a : Int) := ⟨l.toNat, by omega⟩
    obtain ⟨t, s3, q3, hs3, ht, hz⟩ := tF a s2 (by omega) hs2
    refine sp_seq (fun e' => e' = [some s3, some (.int (n : Int)), some (.lst NS), some (.str w.s), some (.int (a : Int)), some t.t]) ?_ ?_
    · walk_at "k3"
      rw [ok_eq q3]
      walk_at "k3"
    rintro _ rfl
    rw [sp_retC]
    walk_at "k3"
    obtain ⟨u, s4, q4, hs4, hu, hz2⟩ := tF (n - a) s3 (by omega) hs3
    rw [show (n : Int) - (a : Int) = ((n - a : Nat) : Int) from by omega, ok_eq q4]
    walk_at "k3"
    exact ⟨.cmp w t u, s4, rfl, hs4, ⟨ht, hu⟩, by show t.sz + u.sz + 1 = n + 1; omega⟩
  obtain ⟨v, q, c, s', rfl, h⟩ := key.eq
  exact ⟨c, s', q, h⟩
def CoF (F : List T → Option T) (n : Nat) : Prop := ∀ (ns : List Str) (s : T), Src s → 1 ≤ ns.length → ns.length ≤ 1000 → ∃ (c : Ce) (s' : T), F [s, .int (n : Int), .lst (ns.map T.str)] = some (.tup [c.t, s']) ∧ Src s' ∧ c.Ok ns ∧ c.sz = n
theorem cond_step {Φ : Nat → List T → Option T} {n : Nat} (hn : n ≤ 1000) (dF : DrwF (Φ 12)) (cF : ∀ m, m < n → CmF (Φ 18) m) (fF : ∀ m, m < n → CoF (Φ 19) m) : CoF (funP true 0 3 7 (s_19 Φ 1000000)) n := fun ns s hs hl hl2 => by
  have key : Ok (funP true 0 3 7 (s_19 Φ 1000000) [s, .int (n : Int), .lst (ns.map T.str)]) fun v => ∃ (c : Ce) (s' : T), v = .tup [c.t, s'] ∧ Src s' ∧ c.Ok ns ∧ c.sz = n := by
    obtain ⟨NS, eNS⟩ : ∃ NS, NS = ns.map T.str := ⟨_, rfl⟩
    rw [← eNS]
    have cF : ∀ (m : Nat) (s : T), m < n → Src s → ∃ (c : Ce) (s' : T), Φ 18 [s, .int (m : Int), .lst NS] = some (.tup [c.t, s']) ∧ Src s' ∧ c.Ok ns ∧ c.sz = m + 1 := fun m s hm hs => by rw [eNS]; exact cF m hm ns s hs hl hl2
    have fF : ∀ (m : Nat) (s : T), m < n → Src s → ∃ (c : Ce) (s' : T), Φ 19 [s, .int (m : Int), .lst NS] = some (.tup [c.t, s']) ∧ Src s' ∧ c.Ok ns ∧ c.sz = m := fun m s hm hs => by rw [eNS]; exact fF m hm ns s hs hl hl2
    refine k_funP rfl ?_
    unfold s_19
    by_cases c0 : n = 0
    · subst c0
      refine sp_seqR (fun _ => False) ?_ (fun _ h => h.elim)
      rw [sp_if]
      walk_at "k3"
      obtain ⟨x, s1, q1, hs1, x0, x1⟩ := dF s 2 hs (by decide) (by decide)
      rw [ok_eq q1]
      walk_at "k3"
      obtain ⟨w, hw, e⟩ := at_el (xs := [true, false]) (f := fun b => T.str (conS b)) x0 x1
      have e : atI [T.str "true", T.str "false"] x = some (.str (conS w)) := e
      rw [ok_eq e]
      walk_at "k3"
      exact ⟨.con w, s1, rfl, hs1, trivial, rfl⟩
    obtain ⟨m, rfl⟩ : ∃ m, n = m + 1 := ⟨n - 1, by omega⟩
    obtain ⟨SZ, eSZ⟩ : ∃ SZ : Int, SZ = ((m + 1 : Nat) : Int) := ⟨_, rfl⟩
    rw [← eSZ]
    refine sp_seqR (fun e' => e' = [some s, some (.int SZ), some (.lst NS), none, none, none, none]) ?_ ?_
    · rw [sp_if]
      walk_at "k3"
      rw [decide_eq_false (show ¬ SZ = 0 by omega)]
      walk_at "k3"
    rintro _ rfl
    obtain ⟨p, s1, q1, hs1, p0, p1⟩ := dF s 8 hs (by decide) (by decide)
    refine sp_seq (fun e' => e' = [some s1, some (.int SZ), some (.lst NS), some (.int p), none, none, none]) ?_ ?_
    · walk_at "k3"
      rw [ok_eq q1]
      walk_at "k3"
    rintro _ rfl
    have eM : SZ - 1 = (m : Int) := by omega
    refine sp_seqR (fun e' => e' = [some s1, some (.int SZ), some (.lst NS), some (.int p), none, none, none] ∧ 3 ≤ p) ?_ ?_
    · rw [sp_if]
      walk_at "k3"
      refine w_ifE (fun c => ?_) fun c => by have := of_decide_eq_false c; omega
      rw [eM]
      obtain ⟨t, s2, q2, hs2, ht, hz⟩ := cF m s1 (by omega) hs1
      rw [ok_eq q2]
      walk_at "k3"
      exact ⟨t, _, rfl, hs2, ht, hz⟩
    rintro _ ⟨rfl, n4⟩
    refine sp_seqR (fun e' => e' = [some s1, some (.int SZ), some (.lst NS), some (.int p), none, none, none] ∧ 4 ≤ p) ?_ ?_
    · rw [sp_if]
      walk_at "k3"
      refine w_ifE (fun c => ?_) fun c => by have := of_decide_eq_false c; omega
      rw [eM]
      obtain ⟨t, s2, q2, hs2, ht, hz⟩ := fF m s1 (by omega) hs1
      rw [ok_eq q2]
      walk_at "k3"
      exact ⟨.not t, s2, rfl, hs2, ht, by show t.sz + 1 = m + 1; omega⟩
    rintro _ ⟨rfl, n8⟩
    obtain ⟨l, s2, q2, hs2, l0, l1⟩ := dF s1 SZ hs1 (by omega) (by omega)
    refine sp_seq (fun e' => e' = [some s2, some (.int SZ), some (.lst NS), some (.int p), some (.int l), none, none]) ?_ ?_
    · walk_at "k3"
      rw [ok_eq q2]
      walk_at "k3"
    rintro _ rfl
    obtain ⟨a, rfl⟩ : ∃ a : Nat, l = (a : Int) := ⟨l.toNat, by omega⟩
    obtain ⟨t, s3, q3, hs3, ht, hz⟩ := fF a s2 (by omega) hs2
    refine sp_seq (fun e' => e' = [some s3, some (.int SZ), some (.lst NS), some (.int p), some (.int (a : Int)), some t.t, none]) ?_ ?_
    · walk_at "k3"
      rw [ok_eq q3]
      walk_at "k3"
    rintro _ rfl
    obtain ⟨w, hw, e⟩ := at_el (xs := [Cw.and, .or, .imp, .same]) (f := fun w => T.str w.s) (x := p - 4) (by omega) (by show p - 4 < 4; omega)
    refine sp_seq (fun e' => e' = [some s3, some (.int SZ), some (.lst NS), some (.int p), some (.int (a : Int)), some t.t, some (.str w.s)]) ?_ ?_
    · walk_at "k3"
      have e : atI [T.str "and", T.str "or", T.str "implies", T.str "same"] (p - 4) = some (.str w.s) := e
      rw [ok_eq e]
    rintro _ rfl
    rw [sp_retC]
    walk_at "k3"
    obtain ⟨u, s4, q4, hs4, hu, hz2⟩ := fF (m - a) s3 (by omega) hs3
    rw [show SZ - 1 - (a : Int) = ((m - a : Nat) : Int) from by omega, ok_eq q4]
    walk_at "k3"
    exact ⟨.bin w t u, s4, rfl, hs4, ⟨ht, hu⟩, by show t.sz + u.sz + 1 = m + 1; omega⟩
  obtain ⟨v, q, x, s', rfl, h⟩ := key.eq
  exact ⟨x, s', q, h⟩
theorem qCond : ∀ (n k : Nat), n ≤ 1000 → CoF (F (k + n + 5) 19) n := by
  intro n
  induction n using Nat.strongRecOn with
  | ind n ih =>
    intro k hn
    unfold F
    rw [show k + n + 5 = (k + n + 4) + 1 from rfl]
    show CoF (fun xs => fu 1000000 (k + n + 4 + 1) 19 xs) n
    refine cond_step (Φ := fu 1000000 (k + n + 4)) hn (qDrw (k := k + n + 3)) (fun m hm => ?_) fun m hm => ?_
    · have := qCmp m (k + (n - m)) (by omega)
      unfold F at this
      rwa [show k + (n - m) + m + 4 = k + n + 4 from by omega] at this
    · have := ih m hm (k + (n - m) - 1) (by omega)
      unfold F at this
      rwa [show k + (n - m) - 1 + m + 5 = k + n + 4 from by omega] at this
inductive Tr where | te (e : Te) | ce (c : Ce)
def Tr.isT : Tr → Bool | .te _ => true | .ce _ => false
def Tr.t : Tr → T | .te e => e.t | .ce c => c.t
def Tr.sz : Tr → Nat | .te e => e.sz | .ce c => c.sz
def Tr.names : Tr → List Str | .te e => e.names | .ce c => c.names
def Tr.Ok (ns : List Str) : Tr → Prop | .te e => e.Ok ns | .ce c => c.Ok ns
def Tr.val (v : Str → Int) : Tr → T | .te e => .int (e.val v) | .ce c => .bl (c.val v)
theorem Tr.ntl (a : Tr) : NtL (a.sz + 1) a.t a.names := match a with | .te e => e.ntl | .ce c => c.ntl
theorem Tr.nlen (a : Tr) : a.names.length ≤ a.sz + 1 := match a with | .te e => e.nlen | .ce c => c.nlen
theorem Tr.nsub {ns : List Str} {a : Tr} (h : a.Ok ns) : ∀ x ∈ a.names, x ∈ ns := match a, h with | .te _, h => Te.nsub h | .ce _, h => Ce.nsub h
theorem higher_F {k : Nat} {ns : List Str} {a : Tr} {s : T} (hs : Src s) (ho : a.Ok ns) (hz : a.sz ≤ 20) : ∃ (b : Tr) (s' : T), fu 1000000 (k + 3) 20 [s, a.t, .bl a.isT] = some (.tup [b.t, s']) ∧ Src s' ∧ b.Ok ns ∧ b.isT = a.isT ∧ b.sz ≤ 100 := by
  rw [u_20]
  have dF : DrwF (F (k + 2) 12) := qDrw
  have nF : SA.NumF (F (k + 2) 14) := qNum
  unfold F at dF nF
  obtain ⟨Φ, hΦ⟩ : ∃ Φ, Φ = fu 1000000 (k + 2) := ⟨_, rfl⟩
  rw [← hΦ] at dF nF ⊢
  clear hΦ
  have key : Ok (funP true 0 3 5 (s_20 Φ 1000000) [s, a.t, .bl a.isT]) fun r => ∃ (b : Tr) (s' : T), r = .tup [b.t, s'] ∧ Src s' ∧ b.Ok ns ∧ b.isT = a.isT ∧ b.sz ≤ 100 := by
    refine k_funP rfl ?_
    unfold s_20
    obtain ⟨x, s1, q1, hs1, x0, x1⟩ := dF s 9 hs (by decide) (by decide)
    refine sp_seq (fun e' => ∃ (b : Tr) (s2 : T) (o o2 : Option T), e' = [some s2, some b.t, some (.bl a.isT), o, o2] ∧ Src s2 ∧ b.Ok ns ∧ b.isT = a.isT ∧ b.sz ≤ 100) ?_ ?_
    · walk_at "k3"
      rw [ok_eq q1]
      walk_at "k3"
      refine ⟨by omega, ?_⟩
      refine for_inv (fun i e' => ∃ (b : Tr) (s2 : T) (o o2 : Option T), e' = [some s2, some b.t, some (.bl a.isT), o, o2] ∧ Src s2 ∧ b.Ok ns ∧ b.isT = a.isT ∧ b.sz ≤ 20 + 2 * i) ⟨a, s1, none, none, rfl, hs1, ho, rfl, by omega⟩ ?_ ?_
      · rintro i y _ hy ⟨b, s2, o, o2, rfl, hs2, hb, hi, hz2⟩
        obtain ⟨il, rfl⟩ := rngT_get hy
        rw [← hi]
        obtain ⟨p, s3, q3, hs3, p0, p1⟩ := dF s2 3 hs2 (by decide) (by decide)
        walk_at "k3"
        walk_at "kr"
        rw [ok_eq q3]
        obtain rfl | rfl | rfl : p = 0 ∨ p = 1 ∨ p = 2 := by omega
        · cases b with
          | te e =>
            simp only [Tr.isT]
            walk_at "k3"
            exact ⟨.te (.neg e), _, _, _, rfl, hs3, hb, rfl, by show e.sz + 1 ≤ _; have : e.sz ≤ 20 + 2 * i := hz2; omega⟩
          | ce c =>
            simp only [Tr.isT]
            walk_at "k3"
            exact ⟨.ce (.not c), _, _, _, rfl, hs3, hb, rfl, by show c.sz + 1 ≤ _; have : c.sz ≤ 20 + 2 * i := hz2; omega⟩
        · cases b with
          | te e =>
            simp only [Tr.isT]
            walk_at "k3"
            obtain ⟨z, s4, q4, hs4, z0, z1⟩ := dF s3 10 hs3 (by decide) (by decide)
            rw [ok_eq q4]
            walk_at "k3"
            exact ⟨.te (.bin .plus (.num z) e), _, _, _, rfl, hs4, ⟨⟨z0, by unfold ten18; omega⟩, hb⟩, rfl, by show 0 + e.sz + 1 ≤ _; have : e.sz ≤ 20 + 2 * i := hz2; omega⟩
          | ce c =>
            simp only [Tr.isT]
            walk_at "k3"
            exact ⟨.ce (.bin .same (.con false) c), _, _, _, rfl, hs3, ⟨trivial, hb⟩, rfl, by show 0 + c.sz + 1 ≤ _; have : c.sz ≤ 20 + 2 * i := hz2; omega⟩
        · cases b with
          | te e =>
            simp only [Tr.isT]
            walk_at "k3"
            obtain ⟨z, s4, q4, hs4, z0, z1⟩ := nF s3 hs3
            rw [ok_eq q4]
            walk_at "k3"
            exact ⟨.te (.bin .least e (.num z)), _, _, _, rfl, hs4, ⟨hb, z0, z1⟩, rfl, by show e.sz + 0 + 1 ≤ _; have : e.sz ≤ 20 + 2 * i := hz2; omega⟩
          | ce c =>
            simp only [Tr.isT]
            walk_at "k3"
            obtain ⟨z, s4, q4, hs4, z0, z1⟩ := dF s3 4 hs3 (by decide) (by decide)
            rw [ok_eq q4]
            walk_at "k3"
            exact ⟨.ce (.bin .imp c (.cmp .lt (.num 1) (.num z))), _, _, _, rfl, hs4, ⟨hb, ⟨by decide, by decide⟩, z0, by unfold ten18; omega⟩, rfl, by show c.sz + (0 + 0 + 1) + 1 ≤ _; have : c.sz ≤ 20 + 2 * i := hz2; omega⟩
      · rintro _ ⟨b, s2, o, o2, rfl, hs2, hb, hi, hz2⟩
        rw [rngT_len] at hz2
        exact ⟨b, s2, o, o2, rfl, hs2, hb, hi, by omega⟩
    rintro _ ⟨b, s2, o, o2, rfl, h⟩
    rw [sp_ret]
    walk_at "k3"
    exact ⟨b, s2, rfl, h⟩
  obtain ⟨v, q, b, s', rfl, h⟩ := key.eq
  exact ⟨b, s', q, h⟩
theorem gather_F : ∀ (j : Nat) (t : T) (L : List Str) (k : Nat) (ks : List Str), NtL j t L → ks.length + L.length ≤ 1000000 → fu 1000000 (k + j) 21 [t, .lst (ks.map T.str)] = some (.tup [.non, .lst ((addL ks L).map T.str)]) := by
  intro j
  induction j with
  | zero => intro t L k ks h; exact h.elim
  | succ j ih =>
    intro t L k ks h hl
    rw [show k + (j + 1) = (k + j) + 1 from by omega, u_21]
    obtain ⟨Φ, hΦ⟩ : ∃ Φ, Φ = fu 1000000 (k + j) := ⟨_, rfl⟩
    have ih' : ∀ t L ks, NtL j t L → ks.length + L.length ≤ 1000000 → Φ 21 [t, .lst (ks.map T.str)] = some (.tup [.non, .lst ((addL ks L).map T.str)]) := fun t L ks h1 h2 => by rw [hΦ]; exact ih t L k ks h1 h2
    rw [← hΦ]
    clear hΦ
    have key : Ok (funP false 1 2 3 (s_21 Φ 1000000) [t, .lst (ks.map T.str)]) fun r => r = .tup [.non, .lst ((addL ks L).map T.str)] := by
      refine k_funP rfl ?_
      unfold s_21
      refine sp_of ?_
      rcases h with ⟨x, rfl, rfl⟩ | ⟨w, xs, rfl, hw, l, h⟩
      · walk_at "k3"
        rw [ok_eq FA.mem_strs]
        walk_at "k3"
        by_cases c : x ∈ ks
        · rw [if_neg (by simpa using c)]
          show T.tup [.non, .lst (ks.map T.str)] = .tup [.non, .lst ((addK ks x).map T.str)]
          unfold addK
          rw [if_pos c]
        · rw [if_pos (by simpa using c)]
          simp only [List.length_singleton] at hl
          refine ⟨by rw [List.length_map]; omega, ?_⟩
          show T.tup [.non, .lst (ks.map T.str ++ [.str x])] = .tup [.non, .lst ((addK ks x).map T.str)]
          unfold addK
          rw [if_neg c, List.map_append]
          rfl
      · walk_at "k3"
        rw [if_neg (by simpa using hw)]
        walk_at "k3"
        rw [ok_eq sl_tail]
        walk_at "k3"
        refine for_inv (fun i e' => ∃ L0 ks' o, NtsL (NtL j) (xs.drop i) L0 ∧ addL ks' L0 = addL ks L ∧ ks'.length + L0.length ≤ 1000000 ∧ e' = [some (.tup (.str w :: xs)), some (.lst (ks'.map T.str)), o]) ⟨L, ks, _, h, rfl, hl, rfl⟩ ?_ ?_
        · rintro i y _ hy ⟨L0, ks', o, n1, n2, n3, rfl⟩
          have hi := (List.getElem?_eq_some_iff.mp hy).1
          have hg := (List.getElem?_eq_some_iff.mp hy).2
          rw [List.drop_eq_getElem_cons hi, hg] at n1
          cases n1 with
          | oth q s t =>
            rcases s with ⟨z, rfl⟩ | ⟨z, rfl⟩
            · walk_at "k3"
              exact ⟨L0, ks', _, t, n2, n3, rfl⟩
            · walk_at "k3"
              exact ⟨L0, ks', _, t, n2, n3, rfl⟩
          | tup q hh t =>
            rename_i L1 L2
            rw [List.length_append] at n3
            have e1 := ih' y L1 ks' hh (by omega)
            have := addL_len L1 ks'
            have ety : tyT y = some .tuple := by
              cases y with
              | tup ys => rfl
              | _ => cases q
            walk_at "k3"
            rw [ok_eq ety]
            walk_at "k3"
            rw [ok_eq e1]
            exact ⟨L2, addL ks' L1, _, t, by rw [← addL_app]; exact n2, by omega, rfl⟩
        · rintro _ ⟨L0, ks', o, n1, n2, n3, rfl⟩
          rw [List.drop_length] at n1
          cases n1
          rw [← n2]
          rfl
    obtain ⟨a, e, rfl⟩ := key.eq
    exact e
section
variable {ks : List (Key × T)} {kn : List Str} {v : Str → Int} {ns : List Str}
theorem din_F (hV : Vals ks kn v) (x : Str) : dinT true (.str x) (.dic ks) = some (.bl (!decide (x ∈ kn))) := by
  show some (T.bl (!(lookK ks (.inr x)).isSome)) = _
  rw [hV.get]
  by_cases c : x ∈ kn <;> simp [c]
theorem test_din (hV : Vals ks kn v) {a : Option T} {x : Str} : fTest (fOp (dinT true) (fVar 2) (fVar 1)) [a, some (.dic ks), some (.str x)] = some (!decide (x ∈ kn)) := by
  show Option.bind (dinT true (.str x) (.dic ks)) _ = _
  rw [din_F hV]
  rfl
theorem forX_dic (hV : Vals ks kn v) {t : T} : ∀ (xs : List Str) (o : Option T), (∀ x ∈ xs, x.length ≤ 2000) →
    forX (gtNm 2) (fIfS (fTest (fOp (dinT true) (fVar 2) (fVar 1))) fNo fNext) (xIf (fTest (fOp (dinT true) (fVar 2) (fVar 1))) (xRz 51 "name" (fVar 2)) xNo) (xs.map T.str) [some t, some (.dic ks), o] = (fst kn xs).map (exN 51)
  | [], o, h => rfl
  | x :: r, o, h => by
    rw [List.map_cons]
    show (match xIf (fTest (fOp (dinT true) (fVar 2) (fVar 1))) (xRz 51 "name" (fVar 2)) xNo [some t, some (.dic ks), some (.str x)] with
      | some v => some v
      | none => (fIfS (fTest (fOp (dinT true) (fVar 2) (fVar 1))) fNo fNext [some t, some (.dic ks), some (.str x)]).bind _) = _
    unfold xIf fIfS
    rw [test_din hV]
    unfold fst
    simp only [List.find?]
    by_cases c : x ∈ kn
    · simp only [c, decide_true, Bool.not_true]
      exact forX_dic hV r (some (.str x)) fun y hy => h y (List.mem_cons_of_mem _ hy)
    · simp only [c, decide_false, Bool.not_false]
      show (match (if smallT (.str x) = true then some (exN 51 x) else none) with | some v => some v | none => _) = _
      rw [if_pos (by show decide _ = true; exact decide_eq_true (h x List.mem_cons_self))]
      rfl
theorem addL_sub : ∀ (L ks : List Str), ∀ x ∈ addL ks L, x ∈ ks ∨ x ∈ L
  | [], ks, x, h => .inl h
  | y :: L, ks, x, h => by
    rcases addL_sub L (addK ks y) x h with h | h
    · unfold addK at h
      split at h
      · exact .inl h
      · rcases List.mem_append.mp h with h | h
        · exact .inl h
        · rw [List.mem_singleton.mp h]; exact .inr List.mem_cons_self
    · exact .inr (List.mem_cons_of_mem _ h)
theorem req_x (hV : Vals ks kn v) {j : Nat} {t : T} {L : List Str} (k : Nat) (h : NtL j t L) (hl : L.length ≤ 1000) (hs : ∀ x ∈ L, x.length ≤ 2000) : fu 1000000 (k + j + 3) 1005 [t, .dic ks] = (fst kn L).map fun z => encX (exN 51 z) := by
  have e := qNamesP j t L k h hl
  unfold F at e
  rw [show k + j + 3 = (k + j + 2) + 1 from by omega, ux_5]
  obtain ⟨Φ, hΦ⟩ : ∃ Φ, Φ = fu 1000000 (k + j + 2) := ⟨_, rfl⟩
  replace e : Φ 0 [t] = some (.lst ((addL [] L).map T.str)) := by rw [hΦ]; exact e
  rw [← hΦ]
  have q : funX 2 3 (x_5 Φ 1000000) [t, .dic ks] = (fst kn L).map (exN 51) := by
    show Option.bind (Option.bind (Φ 0 [t]) itemsT) _ = _
    rw [e]
    rw [← fst_add kn L]
    exact forX_dic hV _ none fun x hx => by
      rcases addL_sub L [] x hx with h | h
      · cases h
      · exact hs x h
  rw [q, Option.map_map]
  rfl
theorem req_v (hV : Vals ks kn v) {j : Nat} {t : T} {L : List Str} (k : Nat) (h : NtL j t L) (hl : L.length ≤ 1000) (hf : fst kn L = none) : fu 1000000 (k + j + 3) 5 [t, .dic ks] = some .non := by
  have e := qNamesP j t L k h hl
  unfold F at e
  rw [show k + j + 3 = (k + j + 2) + 1 from by omega, u_5]
  obtain ⟨Φ, hΦ⟩ : ∃ Φ, Φ = fu 1000000 (k + j + 2) := ⟨_, rfl⟩
  replace e : Φ 0 [t] = some (.lst ((addL [] L).map T.str)) := by rw [hΦ]; exact e
  rw [← hΦ]
  clear hΦ
  rw [← fst_add kn L] at hf
  have hm := fst_none hf
  refine eq_ok (k_fun rfl ?_)
  unfold s_5
  walk_at "k1"
  rw [ok_eq e]
  walk_at "k1"
  refine for_inv (fun i e' => ∃ o, e' = [some t, some (.dic ks), o]) ⟨_, rfl⟩ ?_ ?_
  · rintro i x _ hx ⟨o, rfl⟩
    obtain ⟨y, hy, rfl⟩ := List.mem_map.mp (List.mem_of_getElem? hx)
    walk_at "k1"
    rw [ok_eq (din_F hV y), decide_eq_true (hm y hy)]
    walk_at "k1"
    exact ⟨_, rfl⟩
  · rintro _ ⟨o, rfl⟩
    walk_at "k1"
/-- value and truth raise what require_names raises -/
theorem val_x {k : Nat} {t d : T} {o : Option Str} (e : fu 1000000 k 1005 [t, d] = o.map fun z => encX (exN 51 z)) (b : Bool) : fu 1000000 (k + 1) (if b then 1003 else 1004) [t, d] = o.map fun z => encX (exN 51 z) := by
  have q : ∀ y : FX, y [some t, some d] = (fu 1000000 k 1005 [t, d]).bind decX → (funX 2 2 y [t, d]).map encX = o.map fun z => encX (exN 51 z) := fun y hy => by
    show Option.map encX (y [some t, some d]) = _
    rw [hy, e]
    cases o with
    | none => rfl
    | some z =>
      show Option.map encX (decX (encX (exN 51 z))) = _
      rw [decX_enc]
      rfl
  cases b
  · exact q (x_4 (fu 1000000 k) 1000000) rfl
  · exact q (x_3 (fu 1000000 k) 1000000) rfl
theorem val_v (hV : Vals ks kn v) (a : Tr) (k : Nat) (ho : a.Ok ns) (hz : a.sz ≤ 100) (hf : fst kn a.names = none) : fu 1000000 (k + a.sz + 5) (if a.isT then 3 else 4) [a.t, .dic ks] = some (a.val v) := by
  have hr := req_v hV k a.ntl (by have := a.nlen; omega) hf
  have hm := fst_none hf
  rw [show k + (a.sz + 1) + 3 = k + a.sz + 4 from by omega] at hr
  have hn : ∀ b : Bool, b = a.isT → fu 1000000 (k + a.sz + 4) (if b then 6 else 8) [a.t, .dic ks] = some (a.val v) := fun b hb => by
    subst hb
    cases a with
    | te e =>
      have := number_F (ns := ns) hV e (k + 2) ho (by show e.sz ≤ 200; have : e.sz ≤ 100 := hz; omega) hm
      rw [show k + 2 + e.sz + 2 = k + e.sz + 4 from by omega] at this
      exact this
    | ce c =>
      have := holds_F (ns := ns) hV c (k + 2) ho (by show c.sz ≤ 200; have : c.sz ≤ 100 := hz; omega) hm
      rw [show k + 2 + c.sz + 2 = k + c.sz + 4 from by omega] at this
      exact this
  have hn := hn _ rfl
  rw [show k + a.sz + 5 = (k + a.sz + 4) + 1 from rfl]
  obtain ⟨Φ, hΦ⟩ : ∃ Φ, Φ = fu 1000000 (k + a.sz + 4) := ⟨_, rfl⟩
  have u3 : fu 1000000 (k + a.sz + 4 + 1) 3 [a.t, .dic ks] = funT false 2 2 (s_3 Φ 1000000) [a.t, .dic ks] := by rw [hΦ]; exact u_3
  have u4 : fu 1000000 (k + a.sz + 4 + 1) 4 [a.t, .dic ks] = funT false 2 2 (s_4 Φ 1000000) [a.t, .dic ks] := by rw [hΦ]; exact u_4
  rw [← hΦ] at hr hn
  cases a with
  | te e =>
    show fu 1000000 (k + (Tr.te e).sz + 4 + 1) 3 [(Tr.te e).t, .dic ks] = _
    rw [u3]
    replace hn : Φ 6 [(Tr.te e).t, .dic ks] = some ((Tr.te e).val v) := hn
    refine eq_ok (k_fun rfl ?_)
    unfold s_3
    walk_at "ks"
    rw [ok_eq hr]
    walk_at "k1"
    rw [ok_eq hn]
  | ce c =>
    show fu 1000000 (k + (Tr.ce c).sz + 4 + 1) 4 [(Tr.ce c).t, .dic ks] = _
    rw [u4]
    replace hn : Φ 8 [(Tr.ce c).t, .dic ks] = some ((Tr.ce c).val v) := hn
    refine eq_ok (k_fun rfl ?_)
    unfold s_4
    walk_at "ks"
    rw [ok_eq hr]
    walk_at "k1"
    rw [ok_eq hn]
/-- what both answer -/
def ans (a : Tr) (v : Str → Int) (kn : List Str) : T := match fst kn a.names with
  | some z => .tup [.str "unknown", .str z]
  | none => .tup [.str "known", a.val v]
theorem try_x {sb : FS} {y : FX} {a b c : Option T} {z : Str} (h : y [a, b, c, none] = some (exN 51 z)) : fTry (cfOne 51) 3 [] sb y
    (qSeq (qIf (qOr (qNot (qVal (qIsx 51 true))) (qOr (qNot (qVal (qIsx 51 true))) (qNot (qVal (qIsi .str (qFld 51 "name")))))) (qRet (qTup (qaC (qC (.str "wrong")) (qaC (qC (.int (0))) qaN)))) qNx)
      (qRet (qTup (qaC (qC (.str "unknown")) (qaC (qFld 51 "name") qaN))))) [a, b, c, none] = some (.rt (.tup [.str "unknown", .str z]) [a, b, c, none]) := by
  unfold fTry
  rw [h]
  rfl
theorem try_n {cf : Nat → Option Bool} {i : Nat} {os : List Nat} {sb : FS} {y : FX} {su : DX → Option SuO} {e : FSt} (h : y e = none) : fTry cf i os sb y su e = sb e := by
  unfold fTry
  rw [h]
theorem answer_F (hV : Vals ks kn v) (a : Tr) (k : Nat) (ho : a.Ok ns) (hz : a.sz ≤ 100) (hs : ∀ x ∈ a.names, x.length ≤ 2000) : fu 1000000 (k + a.sz + 6) 24 [a.t, .bl a.isT, .dic ks] = some (ans a v kn) := by
  have hx := val_x (req_x hV k a.ntl (by have := a.nlen; omega) hs) a.isT
  have hv := val_v hV a k ho hz
  rw [show k + (a.sz + 1) + 3 + 1 = k + a.sz + 5 from by omega] at hx
  rw [show k + a.sz + 6 = (k + a.sz + 5) + 1 from rfl, u_24]
  obtain ⟨Φ, hΦ⟩ : ∃ Φ, Φ = fu 1000000 (k + a.sz + 5) := ⟨_, rfl⟩
  rw [← hΦ] at hx hv ⊢
  clear hΦ
  unfold ans
  refine eq_ok (k_fun rfl ?_)
  unfold s_24
  show Sk (fTry _ _ _ _ _ _ [some a.t, some (.bl a.isT), some (.dic ks), none]) _ _ _ _
  have hy : xIf (fTest (fVar 1)) (xAt (fC (.str "known")) (xCall (fun ts => ((Φ 1003) ts).bind decX) (fCons (fVar 0) (fCons (fVar 2) fNil)))) (xAt (fC (.str "known")) (xCall (fun ts => ((Φ 1004) ts).bind decX) (fCons (fVar 0) (fCons (fVar 2) fNil)))) [some a.t, some (.bl a.isT), some (.dic ks), none] = (fst kn a.names).map (exN 51) := by
    have fin : ∀ o : Option Str, (o.map fun z => encX (exN 51 z)).bind decX = o.map (exN 51) := fun o => by
      cases o with
      | none => rfl
      | some z => exact decX_enc _
    cases a with
    | te e =>
      show (Φ 1003 [_, _]).bind decX = _
      rw [← fin, ← hx]; rfl
    | ce c =>
      show (Φ 1004 [_, _]).bind decX = _
      rw [← fin, ← hx]; rfl
  cases hf : fst kn a.names with
  | some z =>
    rw [hf] at hy
    rw [try_x hy]
    rfl
  | none =>
    rw [hf] at hy
    rw [try_n hy]
    have hv := hv hf
    cases a with
    | te e =>
      simp only [Tr.isT]
      replace hv : Φ 3 [(Tr.te e).t, .dic ks] = some ((Tr.te e).val v) := hv
      walk_at "ks"
      rw [ok_eq hv]
    | ce c =>
      simp only [Tr.isT]
      replace hv : Φ 4 [(Tr.ce c).t, .dic ks] = some ((Tr.ce c).val v) := hv
      walk_at "ks"
      rw [ok_eq hv]
theorem due_F (hV : Vals ks kn v) (a : Tr) (k : Nat) (ho : a.Ok ns) (hz : a.sz ≤ 100) : fu 1000000 (k + a.sz + 2) 25 [a.t, .bl a.isT, .dic ks, .lst ((addL [] a.names).map T.str)] = some (ans a v kn) := by
  have hn : (∀ s ∈ a.names, s ∈ kn) → ∀ b : Bool, b = a.isT → fu 1000000 (k + a.sz + 1) (if b then 22 else 23) [a.t, .dic ks] = some (a.val v) := fun hm b hb => by
    subst hb
    cases a with
    | te e => exact lawval_F (ns := ns) hV e k ho (by show e.sz ≤ 200; have : e.sz ≤ 100 := hz; omega) hm
    | ce c => exact lawtru_F (ns := ns) hV c k ho (by show c.sz ≤ 200; have : c.sz ≤ 100 := hz; omega) hm
  rw [show k + a.sz + 2 = (k + a.sz + 1) + 1 from rfl, u_25]
  obtain ⟨Φ, hΦ⟩ : ∃ Φ, Φ = fu 1000000 (k + a.sz + 1) := ⟨_, rfl⟩
  rw [← hΦ] at hn ⊢
  clear hΦ
  unfold ans
  rw [← fst_add kn a.names]
  generalize hX : addL [] a.names = xs
  have hsub : fst kn xs = none → ∀ s ∈ a.names, s ∈ kn := fun h => fst_none (by rw [← fst_add, hX]; exact h)
  refine eq_ok (k_fun rfl ?_)
  unfold s_25
  walk_at "ks"
  refine for_inv (fun i e' => ∃ o, fst kn (xs.take i) = none ∧ e' = [some a.t, some (.bl a.isT), some (.dic ks), some (.lst (xs.map T.str)), o]) ⟨none, rfl, rfl⟩ ?_ ?_
  · rintro i x _ hx ⟨o, h0, rfl⟩
    rw [List.getElem?_map] at hx
    obtain ⟨y, hy, rfl⟩ := Option.map_eq_some_iff.mp hx
    have et : xs.take (i + 1) = xs.take i ++ [y] := by
      rw [List.take_add_one, hy]; rfl
    walk_at "k1"
    rw [ok_eq (din_F hV y)]
    walk_at "k1"
    by_cases c : y ∈ kn
    · rw [if_neg (by simpa using c)]
      exact ⟨_, by rw [et, fst_app, h0, fst_one, if_pos c]; rfl, rfl⟩
    · rw [if_pos (by simpa using c)]
      have e2 : xs = xs.take (i + 1) ++ xs.drop (i + 1) := (List.take_append_drop _ _).symm
      have e3 : fst kn xs = some y := by rw [e2, fst_app, et, fst_app, h0, fst_one, if_neg c]; rfl
      rw [e3]
  · rintro _ ⟨o, h0, rfl⟩
    have h0 : fst kn xs = none := by rw [List.length_map, List.take_length] at h0; exact h0
    have hn := hn (hsub h0) _ rfl
    rw [h0]
    cases a with
    | te e =>
      simp only [Tr.isT]
      replace hn : Φ 22 [(Tr.te e).t, .dic ks] = some ((Tr.te e).val v) := hn
      walk_at "ks"
      rw [ok_eq hn]
    | ce c =>
      simp only [Tr.isT]
      replace hn : Φ 23 [(Tr.ce c).t, .dic ks] = some ((Tr.ce c).val v) := hn
      walk_at "ks"
      rw [ok_eq hn]
end
theorem Vals.new : Vals [] [] fun _ => 0 := ⟨fun s => rfl, fun s => by decide⟩
theorem Vals.set {ks : List (Key × T)} {kn : List Str} {v : Str → Int} (h : Vals ks kn v) (x : Str) (w : Int) (hw : w.natAbs < 2 ^ 60) : Vals (setK ks (.inr x) (.int w)) (x :: kn) (fun y => if y = x then w else v y) := by
  refine ⟨fun s => ?_, fun s => ?_⟩
  · rw [look_set, h.get]
    by_cases c : s = x
    · subst c; simp
    · have e : ((Sum.inr x : Key) = .inr s) = False := by simp; exact fun z => c z.symm
      simp [c, e]
  · show Int.natAbs (if s = x then w else v s) < _
    split
    · exact hw
    · exact h.small s
def Same (ks : List (Key × T)) : Prop := ∀ p ∈ ks, lookK ks p.1 = some p.2 ∧ ∃ i, p.2 = .int i
theorem Same.set {ks : List (Key × T)} (h : Same ks) (k : Key) (w : Int) : Same (setK ks k (.int w)) := by
  intro p hp
  rw [look_set]
  unfold setK at hp
  by_cases c : (ks.any fun kv => decide (kv.1 = k)) = true
  · rw [if_pos c] at hp
    obtain ⟨q, hq, rfl⟩ := List.mem_map.mp hp
    by_cases e : q.1 = k
    · rw [if_pos e]
      exact ⟨if_pos e.symm, _, rfl⟩
    · rw [if_neg e, if_neg (fun z => e z.symm)]
      exact h q hq
  · rw [if_neg c] at hp
    rcases List.mem_append.mp hp with hp | hp
    · have e : p.1 ≠ k := fun z => c (List.any_eq_true.mpr ⟨p, hp, decide_eq_true z⟩)
      rw [if_neg (fun z => e z.symm)]
      exact h p hp
    · rw [List.mem_singleton.mp hp]
      exact ⟨if_pos rfl, _, rfl⟩
theorem Same.eq {ks : List (Key × T)} (h : Same ks) : eqDcT true (.dic ks) (.dic ks) = some (.bl false) := by
  refine if_pos ⟨rfl, List.all_eq_true.mpr fun p hp => ?_⟩
  obtain ⟨e, i, q⟩ := h p hp
  rw [e, q]
  show (i == i) = true
  exact beq_self_eq_true i
theorem draw_tree {k : Nat} {n : Nat} {ns : List Str} {s : T} (b : Bool) (hs : Src s) (hn : n ≤ 12) (h1 : 1 ≤ ns.length) (h2 : ns.length ≤ 1000) : ∃ (a : Tr) (s' : T), fu 1000000 (k + 20) (if b then 17 else 19) [s, .int (n : Int), .lst (ns.map T.str)] = some (.tup [a.t, s']) ∧ Src s' ∧ a.Ok ns ∧ a.sz = n ∧ a.isT = b := by
  cases b
  · obtain ⟨c, s', q, hs', ho, hz⟩ := qCond n (k + 15 - n) (by omega) ns s hs h1 h2
    unfold F at q
    rw [show k + 15 - n + n + 5 = k + 20 from by omega] at q
    exact ⟨.ce c, s', q, hs', ho, hz, rfl⟩
  · obtain ⟨c, s', q, hs', ho, hz⟩ := qTe n (k + 17 - n) (by omega) ns s hs h1 h2
    unfold F at q
    rw [show k + 17 - n + n + 3 = k + 20 from by omega] at q
    exact ⟨.te c, s', q, hs', ho, hz, rfl⟩
theorem name_ok {s : Str} (h : NameOk s) : PyData.strOk s = true := by
  obtain ⟨c, cs, e, h1, h2⟩ := h.chars
  unfold PyData.strOk
  rw [Array.all_eq_true_iff_forall_mem]
  intro d hd
  have hd : d ∈ s.cps.toList := Array.mem_toList_iff.mpr hd
  rw [e] at hd
  have key : SA.nameC d = true := by
    rcases List.mem_cons.mp hd with rfl | hd
    · exact low_name h1
    · exact h2 d hd
  simp only [SA.nameC, SA.lowC, Bool.or_eq_true, Bool.and_eq_true, decide_eq_true_eq] at key
  exact decide_eq_true (by omega)
theorem dnew_eq (e : FSt) : fDNew e = some (.dic []) := rfl
theorem same_nil : Same [] := fun p hp => by cases hp
theorem pure_same {ks : List (Key × T)} (h : Same ks) : pureTs (ks.map (·.2)) = true := by
  have : ∀ xs : List (Key × T), (∀ p ∈ xs, ∃ i, p.2 = .int i) → pureTs (xs.map (·.2)) = true := by
    intro xs
    induction xs with
    | nil => intro _; rfl
    | cons p r ih =>
      intro h
      obtain ⟨i, e⟩ := h p List.mem_cons_self
      rw [List.map_cons, e]
      show (pureT (.int i) && pureTs (r.map (·.2))) = true
      rw [ih fun q hq => h q (List.mem_cons_of_mem _ hq)]
      rfl
  exact this ks fun p hp => (h p hp).2
theorem ans_py {a : Tr} {v : Str → Int} {kn : List Str} (h : ∀ x ∈ a.names, PyData.strOk x = true) : Py true 2 (ans a v kn) := by
  unfold ans
  cases hf : fst kn a.names with
  | some z =>
    refine .tup fun x hx => ?_
    simp only [List.mem_cons, List.not_mem_nil, or_false] at hx
    rcases hx with rfl | rfl
    · exact .str (by decide +kernel)
    · exact .str (h z (fst_mem hf).1)
  | none =>
    refine .tup fun x hx => ?_
    simp only [List.mem_cons, List.not_mem_nil, or_false] at hx
    rcases hx with rfl | rfl
    · exact .str (by decide +kernel)
    · cases a with
      | te e => exact .int _
      | ce c => exact .bl _
theorem isI_F {k : Nat} (i : Int) : fu 1000000 (k + 1) 10 [.int i] = some (.bl true) := by
  rw [u_10]
  refine eq_ok (k_fun rfl ?_)
  unfold s_10
  walk_at "k1"
theorem bodyF {Φ : Nat → List T → Option T} (ns : List Int) (hl : ns.length ≤ 63) (sF : SrcF (Φ 11)) (dF : DrwF (Φ 12)) (nF : SA.NumF (Φ 14)) (mF : NmsF (Φ 16)) (iF : ∀ i : Int, Φ 10 [.int i] = some (.bl true))
    (tF : ∀ {n : Nat} {ns : List Str} {s : T} (b : Bool), Src s → n ≤ 12 → 1 ≤ ns.length → ns.length ≤ 1000 → ∃ (a : Tr) (s' : T), Φ (if b then 17 else 19) [s, .int (n : Int), .lst (ns.map T.str)] = some (.tup [a.t, s']) ∧ Src s' ∧ a.Ok ns ∧ a.sz = n ∧ a.isT = b)
    (hF : ∀ {ns : List Str} {a : Tr} {s : T}, Src s → a.Ok ns → a.sz ≤ 20 → ∃ (b : Tr) (s' : T), Φ 20 [s, a.t, .bl a.isT] = some (.tup [b.t, s']) ∧ Src s' ∧ b.Ok ns ∧ b.isT = a.isT ∧ b.sz ≤ 100)
    (gF : ∀ a : Tr, a.sz ≤ 100 → Φ 21 [a.t, .lst []] = some (.tup [.non, .lst ((addL [] a.names).map T.str)]))
    (nmF : ∀ a : Tr, a.sz ≤ 100 → Φ 0 [a.t] = some (.lst ((addL [] a.names).map T.str)))
    (aF : ∀ {ks kn v ns}, Vals ks kn v → ∀ a : Tr, a.Ok ns → a.sz ≤ 100 → (∀ x ∈ a.names, x.length ≤ 2000) → Φ 24 [a.t, .bl a.isT, .dic ks] = some (ans a v kn))
    (duF : ∀ {ks kn v ns}, Vals ks kn v → ∀ a : Tr, a.Ok ns → a.sz ≤ 100 → Φ 25 [a.t, .bl a.isT, .dic ks, .lst ((addL [] a.names).map T.str)] = some (ans a v kn)) :
    funT false 1 14 (s_26 Φ 1000000) [scT ns] = some (.bl true) := by
  refine eq_ok (k_fun rfl ?_)
  unfold s_26
  obtain ⟨s0, q0, hs0⟩ := sF ns (by omega)
  rw [s_seq]
  walk_at "k3"
  rw [ok_eq q0]
  walk_at "k3"
  obtain ⟨it, s1, q1, hs1, i0, i1⟩ := dF s0 2 hs0 (by decide) (by decide)
  walk_at "kr"
  rw [ok_eq q1]
  walk_at "k3"
  obtain ⟨b, hb⟩ : ∃ b, b = decide (it = 1) := ⟨_, rfl⟩
  rw [← hb]
  obtain ⟨z, s2, q2, hs2, z0, z1⟩ := dF s1 12 hs1 (by decide) (by decide)
  walk_at "kr"
  rw [ok_eq q2]
  walk_at "k3"
  obtain ⟨ms, s3, q3, hs3, m0, m1⟩ := dF s2 12 hs2 (by decide) (by decide)
  walk_at "kr"
  rw [ok_eq q3]
  walk_at "k3"
  obtain ⟨nms, s4, q4, hs4, l1, l4, nd, hn⟩ := mF s3 hs3
  walk_at "kr"
  rw [ok_eq q4]
  walk_at "k3"
  obtain ⟨n, rfl⟩ : ∃ n : Nat, z = (n : Int) := ⟨z.toNat, by omega⟩
  obtain ⟨a0, s5, q5, hs5, ho0, hz0, ht0⟩ := tF (n := n) (ns := nms) b hs4 (by omega) l1 (by omega)
  refine n_cutF (fun e' => e' = [some (scT ns), some s5, some (.bl b), some (.int (n : Int)), some (.int ms), some (.lst (nms.map T.str)), none, none, none, none, none, none, some a0.t, none]) ?_ ?_
  · cases b
    · walk_at "k3"
      replace q5 : Φ 19 _ = _ := q5
      rw [ok_eq q5]
      walk_at "k3"
    · walk_at "k3"
      replace q5 : Φ 17 _ = _ := q5
      rw [ok_eq q5]
      walk_at "k3"
  rintro _ rfl
  obtain ⟨h8, s6, q6, hs6, h80, h81⟩ := dF s5 8 hs5 (by decide) (by decide)
  refine n_cutF (fun e' => ∃ (a : Tr) (s7 : T), e' = [some (scT ns), some s7, some (.bl a.isT), some (.int (n : Int)), some (.int ms), some (.lst (nms.map T.str)), none, none, none, none, none, none, some a.t, none] ∧ Src s7 ∧ a.Ok nms ∧ a.sz ≤ 100) ?_ ?_
  · walk_at "k3"
    rw [ok_eq q6]
    walk_at "k3"
    refine w_ifE (fun c => ?_) fun c => ⟨a0, s6, by rw [ht0], hs6, ho0, by omega⟩
    obtain ⟨a1, s7, q7, hs7, ho1, ht1, hz1⟩ := hF hs6 ho0 (by omega)
    rw [ht0] at q7
    rw [ok_eq q7]
    walk_at "k3"
    exact ⟨a1, s7, by rw [ht1, ht0], hs7, ho1, hz1⟩
  rintro _ ⟨a, s7, rfl, hs7, ho, hz⟩
  clear q0 q1 q2 q3 q4 q5 q6 hs0 hs1 hs2 hs3 hs4 hs5 hs6 ho0 ht0 hz0 tF hF sF mF
  walk_at "kr"
  rw [ok_eq (dnew_eq _)]
  walk_at "k3"
  refine n_cutF (fun e' => ∃ (ks : List (Key × T)) (kn : List Str) (v : Str → Int) (s8 : T) (o7 o13 : Option T), e' = [some (scT ns), some s8, some (.bl a.isT), some (.int (n : Int)), some (.int ms), some (.lst (nms.map T.str)), some (.dic ks), o7, none, none, none, none, some a.t, o13] ∧ Vals ks kn v ∧ Same ks) ?_ ?_
  · walk_at "k3"
    rw [List.length_map]
    refine ⟨by omega, ?_⟩
    refine for_inv (fun i e' => ∃ (ks : List (Key × T)) (kn : List Str) (v : Str → Int) (s8 : T) (o7 o13 : Option T), e' = [some (scT ns), some s8, some (.bl a.isT), some (.int (n : Int)), some (.int ms), some (.lst (nms.map T.str)), some (.dic ks), o7, none, none, none, none, some a.t, o13] ∧ Src s8 ∧ Vals ks kn v ∧ Same ks ∧ ks.length ≤ i) ⟨[], [], _, s7, none, none, rfl, hs7, Vals.new, same_nil, Nat.zero_le _⟩ ?_ ?_
    · rintro i x _ hx ⟨ks, kn, v, s8, o7, o13, rfl, hs8, hV, hS, hl8⟩
      obtain ⟨il, rfl⟩ := rngT_get hx
      obtain ⟨x, s9, q9, hs9, x0, x1⟩ := nF s8 hs8
      obtain ⟨g, s10, q10, hs10, g0, g1⟩ := dF s9 2 hs9 (by decide) (by decide)
      walk_at "k3"
      refine n_cutF (fun e' => ∃ w : Int, w.natAbs < 2 ^ 60 ∧ e' = [some (scT ns), some s10, some (.bl a.isT), some (.int (n : Int)), some (.int ms), some (.lst (nms.map T.str)), some (.dic ks), some (.int (0 + (i : Int))), none, none, none, none, some a.t, some (.int w)]) ?_ ?_
      · walk_at "k3"
        rw [ok_eq q9]
        walk_at "k3"
        rw [ok_eq q10]
        walk_at "k3"
        have x60 : x.natAbs < 2 ^ 60 := ten18_lt x0 x1
        obtain rfl | rfl : g = 0 ∨ g = 1 := by omega
        · walk_at "k3"
          exact ⟨x * 1, by rw [Int.mul_one]; exact x60, rfl⟩
        · walk_at "k3"
          refine ⟨x * -1, ?_, rfl⟩
          rw [show x * -1 = -x from by omega, Int.natAbs_neg]
          exact x60
      rintro _ ⟨w, hw, rfl⟩
      walk_at "k3"
      obtain ⟨nm, hnm⟩ : ∃ nm, nms[i]? = some nm := ⟨_, List.getElem?_eq_getElem il⟩
      have eat : atI (nms.map T.str) (0 + (i : Int)) = some (.str nm) := by
        rw [Int.zero_add]
        exact atI_ge (by omega) (by rw [Int.toNat_natCast, List.getElem?_map, hnm]; rfl)
      have ln : (setK ks (.inr nm) (.int w)).length ≤ ks.length + 1 := setK_len
      have put : Ok (atI (nms.map T.str) (0 + (i : Int))) fun u => Ok (keyT u) fun z => ks.length < 16777216 ∧ ∃ (ks' : List (Key × T)) (kn : List Str) (v : Str → Int) (s8 : T) (o7 o13 : Option T), [some (scT ns), some s10, some (T.bl a.isT), some (T.int (n : Int)), some (T.int ms), some (T.lst (nms.map T.str)), some (T.dic (setK ks z (T.int w))), some (T.int (0 + (i : Int))), none, none, none, none, some a.t, some (T.int w)] = [some (scT ns), some s8, some (T.bl a.isT), some (T.int (n : Int)), some (T.int ms), some (T.lst (nms.map T.str)), some (T.dic ks'), o7, none, none, none, none, some a.t, o13] ∧ Src s8 ∧ Vals ks' kn v ∧ Same ks' ∧ ks'.length ≤ i + 1 := by
        rw [ok_eq eat, ok_eq (show keyT (T.str nm) = some (.inr nm) from rfl)]
        exact ⟨by omega, _, _, _, _, _, _, rfl, hs10, hV.set nm w hw, hS.set _ _, by omega⟩
      by_cases c1 : 3 < ms
      · rw [if_pos (decide_eq_true c1)]
        exact put
      · rw [if_neg (by simpa using c1)]
        refine ⟨by rw [List.length_map]; omega, ?_⟩
        by_cases c2 : ms % ((nms.map T.str).length : Int) = 0 + (i : Int)
        · rw [if_neg (by simpa using c2)]
          exact ⟨ks, kn, v, s10, _, _, rfl, hs10, hV, hS, by omega⟩
        · rw [if_pos (by simpa using c2)]
          exact put
    · rintro _ ⟨ks, kn, v, s8, o7, o13, rfl, hs8, hV, hS, hl8⟩
      exact ⟨ks, kn, v, s8, o7, o13, rfl, hV, hS⟩
  rintro _ ⟨ks, kn, v, s8, o7, o13, rfl, hV, hS⟩
  have e1 := gF a hz
  have e2 := nmF a hz
  have e3 := aF hV a ho hz fun x hx => by have := (hn x (Tr.nsub ho x hx)).2; omega
  have e4 := duF hV a ho hz
  have hk : ∀ x ∈ a.names, PyData.strOk x = true := fun x hx => name_ok (hn x (Tr.nsub ho x hx)).1
  walk_at "kr"
  walk_at "kr"
  rw [ok_eq e1]
  walk_at "k3"
  walk_at "kr"
  rw [ok_eq e2]
  walk_at "k3"
  walk_at "kr"
  have e5 : eqT (.lst ((addL [] a.names).map T.str)) (.lst ((addL [] a.names).map T.str)) = some true := eqT_self (b := false) (j := 4) (.lst fun x hx => by
    obtain ⟨y, hy, rfl⟩ := List.mem_map.mp hx
    rcases addL_sub _ _ y hy with h | h
    · cases h
    · exact .str (hk y h)) (by decide)
  rw [ok_eq e5]
  walk_at "k3"
  walk_at "kr"
  have e6 : ∀ e : FSt, fVar 6 e = some (.dic ks) → fDcp (fVar 6) e = some (.dic ks) := fun e he => by
    unfold fDcp
    rw [he]
    exact if_pos (pure_same hS)
  rw [ok_eq (e6 _ rfl)]
  walk_at "k3"
  walk_at "kr"
  rw [ok_eq e3]
  walk_at "k3"
  walk_at "kr"
  rw [ok_eq hS.eq]
  walk_at "k3"
  have e7 : eqT (ans a v kn) (ans a v kn) = some true := eqT_self (ans_py hk) (by decide)
  have fin : ∀ t : T, t = ans a v kn → Ok (eqT t (ans a v kn)) fun b => T.bl b = T.bl true := fun t ht => by rw [ht, ok_eq e7]
  unfold ans at e4 fin ⊢
  cases hf : fst kn a.names with
  | some z =>
    rw [hf] at e4 fin
    walk_at "kr"
    walk_at "kr"
    rw [ok_eq e4]
    exact fin _ rfl
  | none =>
    rw [hf] at e4 fin
    cases a with
    | te e =>
      simp only [Tr.val, Tr.isT] at e4 fin ⊢
      walk_at "kr"
      rw [ok_eq (iF _)]
      walk_at "k3"
      walk_at "kr"
      rw [ok_eq e4]
      exact fin _ rfl
    | ce c =>
      simp only [Tr.val, Tr.isT] at e4 fin ⊢
      walk_at "kr"
      walk_at "kr"
      rw [ok_eq e4]
      exact fin _ rfl
theorem law_is {xs : List T} : fu 1000000 114 26 xs = funT false 1 14 (s_26 (fu 1000000 113) 1000000) xs := u_26
theorem mainF (ns : List Int) (hl : ns.length ≤ 63) : fu 1000000 114 26 [scT ns] = some (.bl true) := by
  rw [law_is]
  refine bodyF ns hl (qSrc (k := 112)) (qDrw (k := 112)) (qNum (k := 111)) (qNms (k := 110)) (fun i => isI_F (k := 112) i) (draw_tree (k := 93)) (higher_F (k := 110)) (fun a hz => ?_) (fun a hz => ?_) (fun hV a ho hz hs => ?_) (fun hV a ho hz => ?_)
  · have := gather_F (a.sz + 1) a.t a.names (112 - a.sz) [] a.ntl (by have := a.nlen; simp only [List.length_nil]; omega)
    rw [show 112 - a.sz + (a.sz + 1) = 113 from by omega] at this
    exact this
  · have := qNamesP (a.sz + 1) a.t a.names (110 - a.sz) a.ntl (by have := a.nlen; omega)
    unfold F at this
    rw [show 110 - a.sz + (a.sz + 1) + 2 = 113 from by omega] at this
    exact this
  · have := answer_F hV a (107 - a.sz) ho hz hs
    rw [show 107 - a.sz + a.sz + 6 = 113 from by omega] at this
    exact this
  · have := due_F hV a (111 - a.sz) ho hz
    rw [show 111 - a.sz + a.sz + 2 = 113 from by omega] at this
    exact this
theorem main : ∀ ns : List Int, ns.length ≤ 63 → ∃ h', fn 1000000 114 26 [.ref 0] [.fro (ns.map D.int)] = .ok (.bl true) h' := fun ns hl => ((sims 1000000 114).f26).law (mainF ns hl)
end K03
open PySem PySem.W PyProof.Rows in
set_option maxRecDepth 100000 in
set_option maxHeartbeats 0 in
theorem PySem.Challenge.cw_lassoproof_k03_value_and_truth_holds : PySem.Challenge.rw_lassoproof_k03_value_and_truth.Holds := by
  w_on; o_law; k_head; (case hw => w_witness2)
  k_fill
  refine Mi.walk_law (l := PySem.Challenge.rw_lassoproof_k03_value_and_truth) (F := K03.fn 1000000 114 26) (k := 2 * 114 + 2) (cad := K03.cad) rfl rfl ⟨⟨rfl, by decide, by decide⟩, rfl⟩ (fun w h Y => PySem.W.kIn_of Y) ?F K03.main
  case F =>
    intro w mg fa h KX G hmg
    refine' K03.all_mk KX G hmg ?aC51 ?aC50 ?xL51 ?rv51 ?sa51 ?eC51 ?tC51 ?kC51 ?ax51 ?tx51 ?lx51 ?cx51 ?kx51 ?nx51 ?ga51 ?gg51 ?hd51 ?ia51 ?ib51 ?ic51 ?im51 ?ek51 ?ex_UnknownName_51 ?ki_LassoError_51 ?ki_ValueError_51 ?sB ?rB ?fB ?a0 ?l0 ?c0 ?k0 ?a1 ?l1 ?c1 ?k1 ?a2 ?l2 ?c2 ?k2 ?a3 ?l3 ?c3 ?k3 ?a4 ?l4 ?c4 ?k4 ?a5 ?l5 ?c5 ?k5 ?a6 ?l6 ?c6 ?k6 ?a7 ?l7 ?c7 ?k7 ?a8 ?l8 ?c8 ?k8 ?a9 ?l9 ?c9 ?k9 ?lT9 ?vT9 ?a10 ?l10 ?c10 ?k10 ?a11 ?l11 ?c11 ?k11 ?a12 ?l12 ?c12 ?k12 ?a13 ?l13 ?c13 ?k13 ?a14 ?l14 ?c14 ?k14 ?a15 ?l15 ?c15 ?k15 ?a16 ?l16 ?c16 ?k16 ?a17 ?l17 ?c17 ?k17 ?a18 ?l18 ?c18 ?k18 ?a19 ?l19 ?c19 ?k19 ?a20 ?l20 ?c20 ?k20 ?a21 ?l21 ?c21 ?k21 ?a22 ?l22 ?c22 ?k22 ?a23 ?l23 ?c23 ?k23 ?a24 ?l24 ?c24 ?k24 ?a25 ?l25 ?c25 ?k25 ?a26 ?l26 ?c26 ?k26 ?z_ValueError ?z_abs ?z_bool ?z_dict ?z_int ?z_isinstance ?z_len ?z_list ?z_max ?z_min ?z_range ?z_str ?z_tuple
    (case aC51 => k_is)
    (case aC50 => k_is)
    (case xL51 => k_is)
    (case rv51 => decide +kernel)
    (case sa51 => k_is)
    (case eC51 => k_is)
    (case tC51 => k_is)
    (case kC51 => k_is)
    (case ax51 => k_is)
    (case tx51 => k_is)
    (case lx51 => k_is)
    (case cx51 => k_is)
    (case kx51 => k_is)
    (case nx51 => k_is)
    (case ga51 => k_is)
    (case gg51 => k_is)
    (case hd51 => k_is)
    (case ia51 => k_is)
    (case ib51 => k_is)
    (case ic51 => k_is)
    (case im51 => k_is)
    (case ek51 => first | k_is | kernel_rfl)
    (case ex_UnknownName_51 => first | k_is | kernel_rfl)
    (case ki_LassoError_51 => first | k_is | kernel_rfl)
    (case ki_ValueError_51 => first | k_is | kernel_rfl)
    (case sB => k_is)
    (case rB => k_is)
    (case fB => first | k_is | kernel_rfl)
    (case a0 => k_is)
    (case l0 => k_is)
    (case c0 => k_is)
    (case k0 => k_is)
    (case a1 => k_is)
    (case l1 => k_is)
    (case c1 => k_is)
    (case k1 => k_is)
    (case a2 => k_is)
    (case l2 => k_is)
    (case c2 => k_is)
    (case k2 => k_is)
    (case a3 => k_is)
    (case l3 => k_is)
    (case c3 => k_is)
    (case k3 => k_is)
    (case a4 => k_is)
    (case l4 => k_is)
    (case c4 => k_is)
    (case k4 => k_is)
    (case a5 => k_is)
    (case l5 => k_is)
    (case c5 => k_is)
    (case k5 => k_is)
    (case a6 => k_is)
    (case l6 => k_is)
    (case c6 => k_is)
    (case k6 => k_is)
    (case a7 => k_is)
    (case l7 => k_is)
    (case c7 => k_is)
    (case k7 => k_is)
    (case a8 => k_is)
    (case l8 => k_is)
    (case c8 => k_is)
    (case k8 => k_is)
    (case a9 => k_is)
    (case l9 => k_is)
    (case c9 => k_is)
    (case k9 => k_is)
    (case lT9 => k_is)
    (case vT9 => first | exact .cons rfl .nil | exact .cons ⟨_, rfl⟩ .nil | (repeat (first | exact .nil | refine .cons rfl ?_ | refine .cons ⟨_, rfl⟩ ?_)))
    (case a10 => k_is)
    (case l10 => k_is)
    (case c10 => k_is)
    (case k10 => k_is)
    (case a11 => k_is)
    (case l11 => k_is)
    (case c11 => k_is)
    (case k11 => k_is)
    (case a12 => k_is)
    (case l12 => k_is)
    (case c12 => k_is)
    (case k12 => k_is)
    (case a13 => k_is)
    (case l13 => k_is)
    (case c13 => k_is)
    (case k13 => k_is)
    (case a14 => k_is)
    (case l14 => k_is)
    (case c14 => k_is)
    (case k14 => k_is)
    (case a15 => k_is)
    (case l15 => k_is)
    (case c15 => k_is)
    (case k15 => k_is)
    (case a16 => k_is)
    (case l16 => k_is)
    (case c16 => k_is)
    (case k16 => k_is)
    (case a17 => k_is)
    (case l17 => k_is)
    (case c17 => k_is)
    (case k17 => k_is)
    (case a18 => k_is)
    (case l18 => k_is)
    (case c18 => k_is)
    (case k18 => k_is)
    (case a19 => k_is)
    (case l19 => k_is)
    (case c19 => k_is)
    (case k19 => k_is)
    (case a20 => k_is)
    (case l20 => k_is)
    (case c20 => k_is)
    (case k20 => k_is)
    (case a21 => k_is)
    (case l21 => k_is)
    (case c21 => k_is)
    (case k21 => k_is)
    (case a22 => k_is)
    (case l22 => k_is)
    (case c22 => k_is)
    (case k22 => k_is)
    (case a23 => k_is)
    (case l23 => k_is)
    (case c23 => k_is)
    (case k23 => k_is)
    (case a24 => k_is)
    (case l24 => k_is)
    (case c24 => k_is)
    (case k24 => k_is)
    (case a25 => k_is)
    (case l25 => k_is)
    (case c25 => k_is)
    (case k25 => k_is)
    (case a26 => k_is)
    (case l26 => k_is)
    (case c26 => k_is)
    (case k26 => k_is)
    (case z_ValueError => k_is)
    (case z_abs => k_is)
    (case z_bool => k_is)
    (case z_dict => k_is)
    (case z_int => k_is)
    (case z_isinstance => k_is)
    (case z_len => k_is)
    (case z_list => k_is)
    (case z_max => k_is)
    (case z_min => k_is)
    (case z_range => k_is)
    (case z_str => k_is)
    (case z_tuple => k_is)

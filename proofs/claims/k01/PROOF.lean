import PyProof.Rows.All
import Wide.All
import OpenK.AllK
import Wide.FinOn
import HandS.GenList
import HandS.AnyAll
import HandS.EndOwn
import HandS.ForMost
import HandS.ForExc
import HandS.IsInst
import HandS.TupAny
import HandS.Wide
import HandS.Style
import HandS.Small
import HandS.Flow
import HandS.Replace
import HandS.Codes
import HandS.TupMul
import HandS.Rev
import HandS.MapObj
import HandS.MapJoin
import HandS.Zip
import KE.KExcSuper
import HandS.ExcValue
import HandS.ExcIs
import HandS.Walk
import KE.KExcLine
import PySem.Challenge.RW_snapshelf_k01_codes
set_option Elab.async false
set_option linter.all false
set_option maxRecDepth 100000
set_option maxHeartbeats 2000000
namespace GX
open PySem PySem.Spec PyProof.Rows L2 GenW

/-- the frame of a generator expression that is woken by a builtin of this def -/
def gcx (X : Cx) (cenv : Env) (N : List Str) (s4 : Shared) (H4 : Hp) (fp : List Addr) (pn : List (Addr × Obj)) : Cx :=
  { prog := X.prog, w := X.w, K := X.K, mg := X.mg, base := X.base, A := X.A.in1.in1.deeper cenv, N := N, s_0 := s4, H_0 := H4, env := cenv, outer := X.stack, stack := cenv :: X.stack, ex := fp, fn := fun _ => false, calm := true, pn := pn, xe := fun _ _ => False }

theorem clo_nil {cells : List (Str × Addr)} : ∀ {names : List (Str × NameKind)}, (∀ y ∈ names, y.2 ≠ .free) → cloFrom cells names [] = []
  | [], _ => rfl
  | (n, k) :: r, h => by
    unfold cloFrom
    have hk : ¬ (k == NameKind.free) = true := by
      have := h (n, k) List.mem_cons_self
      simpa using this
    rw [if_neg hk]
    exact clo_nil fun y hy => h y (List.mem_cons_of_mem _ hy)

/-- the scope of a generator expression that captures nothing -/
structure GScp (scope : Scope) : Prop where
  kind : scope.kind = .function
  co : scope.isCoroutine = false
  cell : ∀ y ∈ scope.names, y.2 ≠ .cell
  free : ∀ y ∈ scope.names, y.2 ≠ .free
  dot : scope.names.lookup (".0" : Str) = some NameKind.local

def Slp (s s' : Shared) : Prop := s'.os = s.os ∧ AllBare s'.gens ∧ ∀ b o, s.heap.get? b = some o → s'.heap.get? b = some o
def tau0 (N : List Str) : L2.St := N.map fun _ => none

/-- what is known where the generator stands at turn i -/
def At (Xg : Cx) (fp : List Addr) (tn : Nat → Heap → Prop) (i : Nat) (H : Hp) (s : Shared) : Prop :=
  Inv Xg [] (tau0 Xg.N) H s ∧ tn i s.heap ∧ ∀ b ∈ fp, H b = none
theorem At.slp {Xg : Cx} {fp : List Addr} {tn : Nat → Heap → Prop} {i : Nat} {H : Hp} {s s' : Shared} (hk : ∀ i h h', tn i h → (∀ b ∈ fp, ∀ o, h.get? b = some o → h'.get? b = some o) → tn i h') (h : At Xg fp tn i H s) (z : Slp s s') : At Xg fp tn i H s' := by
  obtain ⟨I, st, fr⟩ := h
  exact ⟨I.call' (ch := []) z.1 (Un.kept z.2.2) (I.hok.kept z.2.2) z.2.1 (fun b hb => by simp at hb), hk _ _ _ st fun b _ o e => z.2.2 b o e, fr⟩
theorem inv_forget {X : Cx} {pins : List (Addr × Obj)} {σ : L2.St} {H : Hp} {s : Shared} (I : Inv X pins σ H s) : Inv X pins (tau0 X.N) H s :=
  I.weak (by rw [I.len]; simp [tau0]) fun i v e => by
    unfold tau0 at e
    rw [List.getElem?_map] at e
    cases q : X.N[i]? with
    | none => rw [q] at e; cases e
    | some y => rw [q] at e; cases e

def RX (Xg : Cx) (fp : List Addr) (Endp : Hp → Prop) : GenEnd := fun n s₀ r s => ((r = .ok (.ret .none) ∨ r = .ok .next) ∧ ∃ H, Inv Xg [] (tau0 Xg.N) H s ∧ Endp H) ∨ ∃ e, r = .error e ∧ False
def YX (Xg : Cx) (fp : List Addr) (tn : Nat → Heap → Prop) (len : Nat) (W : Nat → Hp → Prop) (Yp : Nat → V → Hp → Prop) : Protocol := fun n s₀ v s kap =>
  ∃ i y H, n + 1 + i = len ∧ RelV y v ∧ At Xg fp tn (i + 1) H s ∧ Yp i y H ∧ (W (i + 1) H → ∀ s', Slp s s' → kap (.send .none) s')

section
variable {X : Cx} {scope : Scope} {cenv : Env} {N : List Str} {s4 : Shared} {H4 : Hp} {fp : List Addr} {pn : List (Addr × Obj)} {tg elt iter : Expr} {pos : Pos} {it : Addr} {tn : Nat → Heap → Prop} {J : It} {len : Nat} {W : Nat → Hp → Prop} {Yp : Nat → V → Hp → Prop} {Endp : Hp → Prop} {g : TG} {te : TE}

theorem seg_gx (hco : cenv.scope.isCoroutine = false) (T : Turn X.prog X.w X.K tg J fp it tn) (hfp : ∀ H, (∀ b ∈ fp, H b = none) → ∀ b ∈ fp, FpOk (gcx X cenv N s4 H4 fp pn) [] H b)
    (hg : PG (gcx X cenv N s4 H4 fp pn) tg g) (he : PE (gcx X cenv N s4 H4 fp pn) elt te)
    (hW : ∀ i H, W i H → i ≤ len ∧ ((J.stop i H ∧ Endp H) ∨ (i < len ∧ J.go i H ∧ ∀ x H', J.yld i H x H' → g x (tau0 N) H' fun τ2 H2 => te τ2 H2 fun y H3 => Yp i y H3))) :
    ∀ (k i : Nat) (s₀ s : Shared) (H : Hp), len - i = k → At (gcx X cenv N s4 H4 fp pn) fp tn i H s → W i H →
      Seg (model X.prog X.w) X.A.in1.in1 (RX (gcx X cenv N s4 H4 fp pn) fp Endp) (YX (gcx X cenv N s4 H4 fp pn) fp tn len W Yp) (len - i) s₀
        (.compLoop (.GeneratorExp elt [⟨tg, iter, [], 0⟩] scope pos) 0 (.ref it) .none cenv)
        ((model X.prog X.w).den (.compLoop (.GeneratorExp elt [⟨tg, iter, [], 0⟩] scope pos) 0 (.ref it) .none cenv)) [] s := by
  have hov : X.A.in1.in1.over (.compLoop (.GeneratorExp elt [⟨tg, iter, [], 0⟩] scope pos) 0 (.ref it) .none cenv) [] = (gcx X cenv N s4 H4 fp pn).A := rfl
  intro k
  induction k with
  | zero =>
    intro i s₀ s H hk hA w
    obtain ⟨hil, hc⟩ := hW i H w
    obtain ⟨stop, hE⟩ : J.stop i H ∧ Endp H := by
      rcases hc with hc | ⟨hlt, _⟩
      · exact hc
      · omega
    obtain ⟨I, st, fr⟩ := hA
    show Seg _ X.A.in1.in1 _ _ _ s₀ _ ((compTurn (.GeneratorExp elt [⟨tg, iter, [], 0⟩] scope pos) 0 (.ref it) .none cenv).onRaise (leaving cenv)) [] s
    rw [compTurn_gen, Sem.onRaise_eq_wrap]
    refine seg_bind_wrap (wpAny_standAt ?_)
    refine seg_bind_wrap ?_
    rw [hov]
    refine thn (T.done (gcx X cenv N s4 H4 fp pn) rfl rfl rfl rfl i [] s (tau0 N) H _ I (hfp H fr) st stop) fun r s1 ⟨hr, I1⟩ => ?_
    subst hr
    exact seg_end (.ok .next) (.inl ⟨.inr rfl, H, I1, hE⟩)
  | succ k ih =>
    intro i s₀ s H hk hA w
    obtain ⟨hil, hc⟩ := hW i H w
    obtain ⟨I, st, fr⟩ := hA
    show Seg _ X.A.in1.in1 _ _ _ s₀ _ ((compTurn (.GeneratorExp elt [⟨tg, iter, [], 0⟩] scope pos) 0 (.ref it) .none cenv).onRaise (leaving cenv)) [] s
    rw [compTurn_gen, Sem.onRaise_eq_wrap]
    refine seg_bind_wrap (wpAny_standAt ?_)
    refine seg_bind_wrap ?_
    rw [hov]
    rcases hc with ⟨stop, hE⟩ | ⟨hlt, go, step⟩
    · refine thn (T.done (gcx X cenv N s4 H4 fp pn) rfl rfl rfl rfl i [] s (tau0 N) H _ I (hfp H fr) st stop) fun r s1 ⟨hr, I1⟩ => ?_
      subst hr
      exact seg_end (.ok .next) (.inl ⟨.inr rfl, H, I1, hE⟩)
    · refine thn (T.item (gcx X cenv N s4 H4 fp pn) rfl rfl rfl rfl i [] s (tau0 N) H _ I (hfp H fr) st go) fun r s1 ⟨u, hr, h1⟩ => ?_
      subst hr
      refine seg_bind_wrap ?_
      rw [hov]
      refine thn h1 fun _ s2 ⟨x, H', I2, r2, y2, st2, fr2⟩ => ?_
      have I2' := I2.pinned (hfp H' fr2) (T.obj _ _ st2)
      refine seg_bind_wrap ?_
      rw [hov]
      refine wpAny_mono (hg.run _ s2 _ H' x u _ I2' r2 (step x H' y2)) (fun _ s3 ⟨τ3, H3, I3, q3⟩ => ?_) fun _ _ e => (show False from e).elim
      refine seg_bind_wrap (wpAny_of_eq (a := true) (by first | rfl | exact List.forIn_nil ..) ?_)
      simp only [if_true]
      have hy : ∀ v, yieldOut cenv v = yieldValue v := fun v => by simp only [yieldOut, hco, Bool.false_eq_true, if_false]
      simp only [hy]
      rw [Sem.bind_eq_wrap', Sem.bind_eq_wrap', Sem.wrap_wrap, Sem.wrap_wrap]
      refine seg_wrap ?_
      rw [hov]
      refine wpAny_mono (he.run _ s3 τ3 H3 _ I3 q3) (fun v s5 h5 => ?_) fun _ _ e => (show False from e).elim
      obtain ⟨y, H5, I5, r5, q5⟩ := h5
      have A5 : At (gcx X cenv N s4 H4 fp pn) fp tn (i + 1) H5 s5 := by
        refine ⟨inv_forget (I5.unpinned (pins := [])), T.keep _ _ _ st2 fun b hb o e => (I5.pin (b, o) (List.mem_append_right _ (List.mem_append_right _ (mem_pinsAt hb e)))).1, fun b hb => ?_⟩
        obtain ⟨o, e, d⟩ := T.obj _ _ st2 b hb
        exact (I5.pin (b, o) (List.mem_append_right _ (List.mem_append_right _ (mem_pinsAt hb e)))).2.1
      have hl : len - i = (len - (i + 1)) + 1 := by omega
      rw [hl]
      refine seg_at (seg_yield rfl rfl rfl ⟨i, y, H5, by omega, r5, A5, q5, fun w1 s'' hz => ?_⟩)
      exact seg_again rfl (ih (i + 1) s'' s'' H5 (by omega) (A5.slp T.keep hz) w1)

theorem seg_gs (hco : cenv.scope.isCoroutine = false) (T : Turn X.prog X.w X.K tg J fp it tn) (hfp : ∀ H, (∀ b ∈ fp, H b = none) → ∀ b ∈ fp, FpOk (gcx X cenv N s4 H4 fp pn) [] H b)
    (hg : PG (gcx X cenv N s4 H4 fp pn) tg g) (he : PE (gcx X cenv N s4 H4 fp pn) elt te)
    (hW : ∀ i H, W i H → i ≤ len ∧ ((J.stop i H ∧ Endp H) ∨ (i < len ∧ J.go i H ∧ ∀ x H', J.yld i H x H' → g x (tau0 N) H' fun τ2 H2 => te τ2 H2 fun y H3 => Yp i y H3)))
    (s₀ s : Shared) (H : Hp) (hA : At (gcx X cenv N s4 H4 fp pn) fp tn 0 H s) (w : W 0 H) :
      Seg (model X.prog X.w) X.A.in1.in1 (RX (gcx X cenv N s4 H4 fp pn) fp Endp) (YX (gcx X cenv N s4 H4 fp pn) fp tn len W Yp) len s₀
        (.compStart (.GeneratorExp elt [⟨tg, iter, [], 0⟩] scope pos) 0 (.ref it) .none cenv)
        ((model X.prog X.w).den (.compStart (.GeneratorExp elt [⟨tg, iter, [], 0⟩] scope pos) 0 (.ref it) .none cenv)) [] s := by
  have loop := seg_gx (iter := iter) (scope := scope) (pos := pos) hco T hfp hg he hW len 0 s₀ s H (Nat.sub_zero _) hA w
  rw [Nat.sub_zero] at loop
  show Seg _ X.A.in1.in1 _ _ _ s₀ _ ((compStart (.GeneratorExp elt [⟨tg, iter, [], 0⟩] scope pos) 0 (.ref it) .none cenv).onRaise (leaving cenv)) [] s
  unfold compStart
  rw [Sem.onRaise_eq_wrap]
  show Seg _ X.A.in1.in1 _ _ _ s₀ _ ((ask >>= _).wrap _ _ _ _) [] s
  refine seg_bind_wrap (wpAny_askSetting ?_)
  split
  · exact seg_again rfl loop
  · first
      | exact seg_bind_wrap (wpAny_rule (seg_bind_wrap (wpAny_standAt (seg_bind_wrap (T.self _ 0 s _ _ hA.2.1 (seg_again rfl loop))))))
      | (refine seg_bind_wrap (wpAny_rule ?_); show Seg _ X.A.in1.in1 _ _ _ s₀ _ ((standAt iter.pos >>= _).wrap _ _ _ _) [] s; exact seg_bind_wrap (wpAny_standAt (seg_bind_wrap (T.self _ 0 s _ _ hA.2.1 (seg_again rfl loop)))))
end

/-- the generator at a stands ready, with so many turns at most -/
def Goer (X Xg : Cx) (fp : List Addr) (tn : Nat → Heap → Prop) (len : Nat) (W : Nat → Hp → Prop) (Yp : Nat → V → Hp → Prop) (Endp : Hp → Prop) (a : Addr) (gn : Nat) (m : Nat) (s : Shared) : Prop :=
  s.heap.IsGen a gn ∧ s.heap.NoLimit ∧ ∃ gs, s.gens[gn]? = some gs ∧ gs.Goes (model X.prog X.w) X.A.in1.in1 (RX Xg fp Endp) (YX Xg fp tn len W Yp) m (.send .none) (s.setGen gn .running)

section
variable {X Xg : Cx} {fp : List Addr} {tn : Nat → Heap → Prop} {len : Nat} {W : Nat → Hp → Prop} {Yp : Nat → V → Hp → Prop} {Endp : Hp → Prop} {a : Addr} {gn : Nat}
/-- one turn of what walks it -/
theorem next_gx {m : Nat} {s : Shared} {Q : Option Value → Shared → Prop} {E : Value → Shared → Prop} (hh : X.A.handled = none) (hd : X.A.depth < recursionLimit) (hpin : ∀ H s, Inv Xg [] (tau0 Xg.N) H s → s.heap.IsGen a gn ∧ s.heap.NoLimit)
    (G : Goer X Xg fp tn len W Yp Endp a gn m s)
    (hstop : ∀ H s1, Inv Xg [] (tau0 Xg.N) H s1 → Endp H → Q none s1)
    (hyld : ∀ i y H v s1, RelV y v → Inv Xg [] (tau0 Xg.N) H s1 → Yp i y H → (W (i + 1) H → ∃ m', m = m' + 1 ∧ Goer X Xg fp tn len W Yp Endp a gn m' s1) → Q (some v) s1) :
    wpAny (model X.prog X.w) X.A.in1 (pyNext (.ref a)) Q E s := by
  obtain ⟨hg, hl, gs, hgs, hgo⟩ := G
  have hgl : gn < s.gens.size := (Array.getElem?_eq_some_iff.mp hgs).1
  have fromSet : ∀ {H : Hp} {s1 : Shared} {x : GenState}, x.bare = true → Inv Xg [] (tau0 Xg.N) H s1 → Inv Xg [] (tau0 Xg.N) H (s1.setGen gn x) := fun {H s1 x} hx I =>
    I.call' (s' := s1.setGen gn x) (ch := []) rfl (Un.kept fun _ _ e => e) I.hok (allBare_setGen I.bare hx) (fun b hb => by simp at hb)
  refine wpAny_gsz (n := gn + 1) hgl ?_
  refine next_genG (F := fun n s₀ s₁ => ∃ H, Inv Xg [] (tau0 Xg.N) H s₁ ∧ Endp H) (Er := fun _ _ => False) (A := X.A.in1) (g := gn) hh hl hd hg hgs ?_ (fun v s₁ gs' hbare hv => ?_) (fun s₁ hp h' hk => ?_) (fun e s₁ he => he.elim)
    (Y := YX Xg fp tn len W Yp) (n := m)
  · exact hgo
  · obtain ⟨i, y, H, h1, h2, h3, h4, h5⟩ := hv
    intro hsz
    have hsz1 : gn < s₁.gens.size := by
      have q : (s₁.setGen gn gs').gens.size = s₁.gens.size := setGen_size _ _ _
      have hsz' : gn + 1 ≤ (s₁.setGen gn gs').gens.size := hsz
      omega
    refine hyld i y H v _ h2 (fromSet hbare h3.1) h4 fun w => ?_
    have h6 := h5 w ((s₁.setGen gn gs').setGen gn .running) ⟨rfl, allBare_setGen (s := s₁.setGen gn gs') (allBare_setGen h3.1.bare hbare) rfl, fun _ _ e => e⟩
    cases m with
    | zero => exact h6.elim
    | succ m' =>
      refine ⟨m', rfl, (hpin _ _ h3.1).1, (hpin _ _ h3.1).2, gs', setGen_at hsz1, ?_⟩
      exact h6
  · obtain ⟨H, I1, hE⟩ := hp
    intro hsz
    have I2 := fromSet (x := .finished) rfl I1
    exact hstop H _ (I2.call' (s' := { s₁.setGen gn .finished with heap := h' }) (ch := []) rfl (Un.kept hk) (I2.hok.kept hk) I2.bare (fun b hb => by simp at hb)) hE

theorem all_gx {R : Result → Shared → Prop} (hh : X.A.handled = none) (hd : X.A.depth < recursionLimit) (hpin : ∀ H s, Inv Xg [] (tau0 Xg.N) H s → s.heap.IsGen a gn ∧ s.heap.NoLimit)
    (hT : ∀ H s1, Inv Xg [] (tau0 Xg.N) H s1 → Endp H → R (.ok (.ret (.bool true))) s1)
    (hY : ∀ i y H, Yp i y H → ∃ b, y = .bl b ∧ (b = true → W (i + 1) H) ∧ (b = false → ∀ s1, Inv Xg [] (tau0 Xg.N) H s1 → R (.ok (.ret (.bool false))) s1)) :
    ∀ (m : Nat) (s : Shared), Goer X Xg fp tn len W Yp Endp a gn m s → codeAny (model X.prog X.w) X.A (.builtin "all.loop" ⟨[.ref a], []⟩) R s := by
  intro m
  induction m with
  | zero =>
    intro s G
    refine codeAny_builtin F.entry_all_loop ?_
    rw [Around.under_plainId F.plain_all_loop _]
    show wpAny _ X.A.in1 (pyNext (.ref a) >>= _) _ _ s
    refine wpAny_bind (next_gx hh hd hpin G (fun H s1 I1 hE => ?_) fun i y H v s1 rv I1 hy hw => ?_)
    · exact wpAny_bind (wpAny_rule (wpAny_pure (hT H s1 I1 hE)))
    · obtain ⟨b, rfl, h1, h2⟩ := hY i y H hy
      cases rv
      refine wpAny_bind (wpAny_holding (wpAny_truthy_bool ?_))
      refine wpAny_bind (wpAny_letGo ?_)
      cases b with
      | true =>
        obtain ⟨m', e, _⟩ := hw (h1 rfl)
        cases e
      | false =>
        simp only [Bool.false_eq_true, if_false]
        exact wpAny_bind (wpAny_rule (wpAny_pure (h2 rfl s1 I1)))
  | succ m ih =>
    intro s G
    refine codeAny_builtin F.entry_all_loop ?_
    rw [Around.under_plainId F.plain_all_loop _]
    show wpAny _ X.A.in1 (pyNext (.ref a) >>= _) _ _ s
    refine wpAny_bind (next_gx hh hd hpin G (fun H s1 I1 hE => ?_) fun i y H v s1 rv I1 hy hw => ?_)
    · exact wpAny_bind (wpAny_rule (wpAny_pure (hT H s1 I1 hE)))
    · obtain ⟨b, rfl, h1, h2⟩ := hY i y H hy
      cases rv
      refine wpAny_bind (wpAny_holding (wpAny_truthy_bool ?_))
      refine wpAny_bind (wpAny_letGo ?_)
      cases b with
      | true =>
        obtain ⟨m', e, G'⟩ := hw (h1 rfl)
        obtain rfl : m = m' := by omega
        simp only [if_true]
        exact wpAny_pure ⟨plainId_quiet F.plain_all_loop _, ih _ G'⟩
      | false =>
        simp only [Bool.false_eq_true, if_false]
        exact wpAny_bind (wpAny_rule (wpAny_pure (h2 rfl s1 I1)))
end

/-! ### the making -/
section
variable {X : Cx} {scope : Scope} {N : List Str} {tg elt iter : Expr} {gpos : Pos} {wi : TI} {g : TG} {te : TE} {c P : Addr} {k : Nat}
/-- any context that a generator expression with this scope may have, woken from X -/
def IsG (X : Cx) (scope : Scope) (N : List Str) (Xg : Cx) : Prop := ∃ cl C code s4 H4 fp pn, Xg = gcx X (genEnv scope cl C code builtinsNs X.env) N s4 H4 fp pn
theorem room_g (hr : Room (k + 1) X.A) (env : Env) : Room k (X.A.in1.in1.deeper env) :=
  ⟨hr.hd, by have := hr.dp; show X.A.depth + 1 + 3 * k + 5 < _; omega, by have := hr.un; show X.A.units + 1 + 1 + 3 + 16 * k + 200 < _; omega⟩
theorem IsG.room {Xg : Cx} (h : IsG X scope N Xg) (hr : Room (k + 1) X.A) : Room k Xg.A := by
  obtain ⟨cl, C, code, s4, H4, fp, pn, rfl⟩ := h
  exact room_g hr _

/-- a generator that is made and ready -/
structure Ready (X : Cx) (scope : Scope) (N : List Str) (tg elt iter : Expr) (gpos : Pos) (pins : List (Addr × Obj)) (σ : L2.St) (J : It) (H2 : Hp) (a : Addr) (gn : Nat) (it : Addr) (fp : List Addr) (tn : Nat → Heap → Prop) (Xg : Cx) (cenv : Env) (s5 : Shared) : Prop where
  isg : IsG X scope N Xg
  isx : ∃ s4 pn, Xg = gcx X cenv N s4 H2 fp pn
  co : cenv.scope.isCoroutine = false
  turn : Turn X.prog X.w X.K tg J fp it tn
  fpok : ∀ H, (∀ b ∈ fp, H b = none) → ∀ b ∈ fp, FpOk Xg [] H b
  at0 : At Xg fp tn 0 H2 s5
  gen : s5.gens[gn]? = some (.fresh (.compStart (.GeneratorExp elt [⟨tg, iter, [], 0⟩] scope gpos) 0 (.ref it) .none cenv))
  pin : ∀ H s, Inv Xg [] (tau0 Xg.N) H s → s.heap.IsGen a gn ∧ s.heap.NoLimit
  back : ∀ H' s', Inv Xg [] (tau0 Xg.N) H' s' → Inv X pins σ H' s'

theorem gen_made {pins : List (Addr × Obj)} {σ : L2.St} {H : Hp} {s : Shared} {Q' : Value → Shared → Prop} {R : It → Hp → Prop} (hr : Room k X.A) (TB : LamX.TabB X.base X.mg c P) (hcode : X.env.code = .ref c) (S : GScp scope) (hi : PI X tg iter wi)
    (hs : ∀ v, genFold iter X.env v = pure v) (I : Inv X pins σ H s) (h : wi σ H fun J H1 => GxR.TabG H1 P ∧ ∀ H2, GxR.Tabbed P H1 H2 → R J H2)
    (hQ : ∀ J H2 a s5 gn it fp tn Xg cenv, R J H2 → Ready X scope N tg elt iter gpos pins σ J H2 a gn it fp tn Xg cenv s5 → Q' (.ref a) s5) :
    wpAny (model X.prog X.w) X.A (eval (.GeneratorExp elt [⟨tg, iter, [], 0⟩] scope gpos) X.env) Q' X.xe s := by
  refine wpAny_GeneratorExp_make S.co (closure_ok (fun y hy e => absurd e (S.free y hy))) S.cell S.dot S.kind (by have := hr.dp; omega) ?_ hs
  refine thn (hi.run pins s σ H _ I h) fun xv s1 h1 => thn h1 fun itv s2 h2 => ?_
  obtain ⟨it, fp, tn, J, H1, rfl, I2, T, st2, f2, ⟨ps, hP, ht⟩, q1⟩ := h2
  refine ⟨I2.nolimit, ?_⟩
  have hPs : s2.heap.get? P = some { cls := .none, data := .fields ps } := I2.hok P _ hP
  have hPlt : P < s2.heap.objs.size := Heap.lt_size hPs
  have cd : PySem.W.CodeHd s2.heap c P := TB.code.keeps fun b u e => I2.bk b u e
  have cont : ∀ (code : Value) (h3 : Heap) (tk : Nat) (ps' : Array Value), Heap.ExtBut P s2.heap h3 → s2.heap.objs.size ≤ h3.objs.size → h3.get? P = some { cls := .none, data := .fields ps' } → (∃ more, ps' = ps ++ more) → TriplesOk ps'.toList →
      wpAny (model X.prog X.w) X.A (builtinsFor X.env.globals X.env.builtins) (fun bi s₄ =>
        ∀ h', h'.Ns s₄.heap.objs.size (fun y => if y = ".0" then some (.ref it) else none) → Heap.SameBut s₄.heap.objs.size (s₄.heap.push { cls := .type "frame", data := .dict #[] }) h' →
          Q' (.ref h'.objs.size) { s₄ with
            gens := s₄.gens.push (.fresh (.compStart (.GeneratorExp elt [⟨tg, iter, [], 0⟩] scope gpos) 0 (.ref it) .none (genEnv scope (cloFrom X.env.cells scope.names []) s₄.heap.objs.size code bi X.env))),
            toks := s₄.toks + 1 + 1 + 1,
            heap := h'.push { cls := .type "generator", data := .fields #[.int s₄.gens.size 0, .str "<genexpr>" (s₄.toks + 1), .str (X.env.qual ++ "<genexpr>") (s₄.toks + 1 + 1)] } }) X.xe { s2 with heap := h3, toks := tk } := by
    intro code h3 tk ps' hx hsz hP3 hmore ht3
    obtain ⟨bm, ob, e1, e2, e3, e4, e5, e6, e7, e8⟩ := TB.bm
    refine wpAny_builtinsFor (m := X.mg) (by rw [I2.ok.glob]; exact (I2.mod.glob.keeps I2.bk).extBut hx TB.gP) e1 e2 (hx _ _ e4 (I2.bk _ _ e5)) e6 e7 e8 ?_
    rw [clo_nil S.free]
    obtain ⟨more, em⟩ := hmore
    subst em
    have J4 : Inv X pins σ (upd H1 P (.tbl (ps ++ more))) { s2 with heap := h3, toks := tk } := GxR.inv_tab (g' := s2.gens) (d' := s2.drawn) I2 hP (fun b o hb e => hx b o hb e) hP3 I2.bare
    have fpP : ∀ b ∈ fp, b ≠ P := fun b hb z => by
      have := (f2 b hb).1
      rw [z, hP] at this
      cases this
    have st3 : tn 0 h3 := T.keep _ _ _ st2 fun b hb o e => hx b o (fpP b hb) e
    have f4 : ∀ b ∈ fp, upd H1 P (.tbl (ps ++ more)) b = none := fun b hb => by rw [upd_ne (fpP b hb)]; exact (f2 b hb).1
    have fplt : ∀ b ∈ fp, b < h3.objs.size := fun b hb => by
      obtain ⟨o, e, _⟩ := T.obj _ _ st3 b hb
      exact Heap.lt_size e
    have fpst : ∀ b ∈ fp, b ∉ frs X.stack := fun b hb hm => by
      rcases List.mem_cons.mp (J4.stkSub b hm) with z | z
      · exact (f2 b hb).2.1 z
      · exact (f2 b hb).2.2.1 z
    intro h' hn' hs'
    show Q' (.ref h'.objs.size) _
    have hsz' : h'.objs.size = h3.objs.size + 1 := by rw [hs'.1]; exact Heap.size_push ..
    generalize hgo : ({ cls := .type "generator", data := .fields #[.int s2.gens.size 0, .str "<genexpr>" (tk + 1), .str (X.env.qual ++ "<genexpr>") (tk + 1 + 1)] } : Obj) = go
    have keep1 : ∀ b o, h3.get? b = some o → h'.get? b = some o := fun b o e => hs'.extBut b o (Nat.ne_of_lt (Heap.lt_size e)) (Heap.get?_push_of_some _ e)
    have keep5 : ∀ b o, h3.get? b = some o → (h'.push go).get? b = some o := fun b o e => Heap.get?_push_of_some _ (keep1 b o e)
    have hgoat : (h'.push go).get? h'.objs.size = some go := by
      subst hgo
      exact Heap.get?_push_size _ rfl
    have ngo : ∀ v, go.data ≠ .cell v := fun v z => by
      subst hgo
      cases z
    have nC : ∀ b, b < h3.objs.size → b ≠ h3.objs.size := fun b hb => Nat.ne_of_lt hb
    refine hQ J _ h'.objs.size _ s2.gens.size it fp tn (gcx X (genEnv scope [] h3.objs.size code builtinsNs X.env) N { s2 with heap := h3, toks := tk } (upd H1 P (.tbl (ps ++ more))) fp [(h'.objs.size, go)]) (genEnv scope [] h3.objs.size code builtinsNs X.env)
      (q1 _ ⟨⟨ps ++ more, upd_same, ht3⟩, fun b hb => upd_ne hb⟩) ⟨⟨_, _, _, _, _, _, _, rfl⟩, ⟨_, _, rfl⟩, S.co, T, ?_, ?_, ?_, ?_, ?_⟩
    · intro H5 hn b hb
      refine ⟨hn b hb, nC b (fplt b hb), fpst b hb, .inl hb, fun y cc e => ?_, fun p hp => ?_⟩
      · cases (show ([] : List (Str × Addr)).lookup y = some cc from e)
      · rw [List.append_nil] at hp
        rw [List.mem_singleton.mp hp]
        show h'.objs.size ≠ b
        exact Nat.ne_of_gt (Nat.lt_of_lt_of_le (fplt b hb) (show h3.objs.size ≤ h'.objs.size by omega))
    · refine ⟨⟨⟨J4.ok.mod, S.kind, J4.ok.glob, rfl, Nat.le_refl _, fun y z cc e => ?_, fun y hy => ?_, fun y cc e => ?_, fun _ => hr.hd, ?_, .inr ⟨rfl, rfl⟩, fun b hb => ⟨nC b (fplt b hb), fun y cc e => ?_⟩, J4.bs, Nat.le_trans J4.ok.bsz J4.sz, fun b o e hb => ?_, fpst, J4.stack, J4.stkFree⟩,
        rfl, AllBare.push J4.bare rfl, Un.kept keep5, ⟨_, hn'.push go, fun i y v e1 e2 e3 => ?_⟩, fun y cc e => ?_, ?_, fun y cc e => ?_, fun p hp => ?_, J4.hok.kept keep5, ?_⟩, ?_, f4⟩
      · cases (show ([] : List (Str × Addr)).lookup y = some cc from e)
      · rcases hy with hy | hy
        · exact absurd rfl (S.cell _ (PySem.mem_of_lookup (show scope.names.lookup y = some .cell from hy)))
        · exact absurd rfl (S.free _ (PySem.mem_of_lookup (show scope.names.lookup y = some .free from hy)))
      · cases e
      · exact Around.frames_deeper J4.ok.frames
      · cases (show ([] : List (Str × Addr)).lookup y = some cc from e)
      · have h1 := (J4.ok.bs b o e).1
        rcases (f2 b hb).2.2.2.1 with z | z
        · exact J4.ok.noex b o e z
        · exact absurd (Nat.lt_of_lt_of_le (Heap.lt_size h1) z) (Nat.lt_irrefl _)
      · have e2' : (tau0 N)[i]? = some (some v) := e2
        unfold tau0 at e2'
        rw [List.getElem?_map] at e2'
        cases q : N[i]? with
        | none => rw [q] at e2'; cases e2'
        | some y => rw [q] at e2'; cases e2'
      · cases (show ([] : List (Str × Addr)).lookup y = some cc from e)
      · exact J4.hok.fresh (Nat.le_refl _)
      · cases (show ([] : List (Str × Addr)).lookup y = some cc from e)
      · rw [List.append_nil] at hp
        rw [List.mem_singleton.mp hp]
        have hge : h3.objs.size ≤ h'.objs.size := by omega
        refine ⟨hgoat, J4.hok.fresh hge, Nat.ne_of_gt (show h3.objs.size < h'.objs.size by omega), fun hm => ?_, ngo⟩
        rcases List.mem_cons.mp (J4.stkSub _ hm) with z | z
        · exact absurd (Nat.lt_of_lt_of_le J4.lt (by rw [← z]; exact hge)) (Nat.lt_irrefl _)
        · exact J4.nofs hge z
      · show (tau0 N).length = N.length
        unfold tau0
        rw [List.length_map]
      · exact T.keep _ _ _ st3 fun b _ o e => keep5 b o e
    · show (s2.gens.push _)[s2.gens.size]? = _
      exact Array.getElem?_push_size ..
    · intro H5 s6 I6
      refine ⟨?_, I6.nolimit⟩
      have e6 := (I6.pin (h'.objs.size, go) (List.mem_append_left _ (List.mem_singleton.mpr rfl))).1
      refine ⟨go, .str "<genexpr>" (tk + 1), .str (X.env.qual ++ "<genexpr>") (tk + 1 + 1), e6, ?_, ?_, ?_⟩ <;> (subst hgo; rfl)
    · intro H5 s6 I6
      exact J4.call' (ch := fp) I6.os I6.base I6.hok I6.bare fun b hb => ⟨(f2 b hb).2.2.2.1, (f2 b hb).2.1, (f2 b hb).2.2.2.2.1, (f2 b hb).2.2.2.2.2⟩
  cases hf : codeAmong gpos ps.toList with
  | none =>
    refine wpAny_genexprCodeX hcode (cd.code hPs ht) (cd.tab hPs) hf fun c' h' tk hx hge hlt hco' _ htab' _ => ?_
    obtain ⟨o1, vs, f1, tf, fl, tg, inF, tx, tt, op, _, _, _, _, _, _, _, _, _, htr, _⟩ := hco'
    exact cont _ h' tk _ hx (Nat.le_trans hge (Nat.le_of_lt hlt)) htab'.2 ⟨_, rfl⟩ htr
  | some cv =>
    refine wpAny_genexprCode_hit hcode (cd.code hPs ht) hf ?_
    exact cont cv s2.heap s2.toks ps (Heap.ExtBut.refl _ _) (Nat.le_refl _) hPs ⟨#[], by simp⟩ ht

/-! ### all(elt for x in it) -/
def tAllG (P : Addr) (N : List Str) (wi : TI) (g : TG) (te : TE) : TE := fun σ H Q => wi σ H fun J H1 => GxR.TabG H1 P ∧ ∀ H2, GxR.Tabbed P H1 H2 →
  ∃ (len : Nat) (W : Nat → Hp → Prop), W 0 H2 ∧ ∀ i H, W i H → i ≤ len ∧ ((J.stop i H ∧ Q (.bl true) H) ∨ (i < len ∧ J.go i H ∧ ∀ x H', J.yld i H x H' → g x (tau0 N) H' fun τ2 H2 => te τ2 H2 fun y H3 => ∃ b, y = .bl b ∧ if b = true then W (i + 1) H3 else Q (.bl false) H3))
theorem pe_allG {p pos : Pos} (hr : Room k X.A) (hg : Gl X "all") (hm : X.mg "all" = none) (TB : LamX.TabB X.base X.mg c P) (hcode : X.env.code = .ref c) (S : GScp scope) (hi : PI X tg iter wi)
    (hel : ∀ Xg, IsG X scope N Xg → PG Xg tg g ∧ PE Xg elt te) (hs : ∀ v, genFold iter X.env v = pure v := by intro _; rfl)
    (he : starEach [.GeneratorExp elt [⟨tg, iter, [], 0⟩] scope gpos] X.env = (false, eval (.GeneratorExp elt [⟨tg, iter, [], 0⟩] scope gpos) X.env) :: starEach [] X.env := by rfl) :
    PE X (.Call (.Name "all" p) [.GeneratorExp elt [⟨tg, iter, [], 0⟩] scope gpos] [] pos) (tAllG P N wi g te) := by
  refine ⟨fun pins s σ H Q I h => ?_⟩
  refine wpAny_Call_Name_kw (ld_blt I hg hm (show bootBuiltins "all" = some (.builtin "all") by decide +kernel) ?_)
  refine PyProof.Rows.callWith_builtin1 ?_ he (by rfl)
  rw [he]
  show wpAny _ _ (spliced ((false, eval (.GeneratorExp elt [⟨tg, iter, [], 0⟩] scope gpos) X.env) :: backTo pos (starEach [] X.env))) _ _ s
  refine Calls.spliced_cons (gen_made (N := N) hr TB hcode S hi hs I h fun J H2 a s5 gn it fp tn Xg cenv hR RD => ?_)
  obtain ⟨len, W, w0, hW⟩ := hR
  refine Calls.spliced_nil ?_
  obtain ⟨hPG, hPE⟩ := hel Xg RD.isg
  obtain ⟨s4, pn, rfl⟩ := RD.isx
  have seg := fun (s₀ s : Shared) (H : Hp) => seg_gs (iter := iter) (scope := scope) (pos := gpos) (len := len) (W := W) (Endp := fun H => Q (.bl true) H) (Yp := fun i y H3 => ∃ b, y = .bl b ∧ if b = true then W (i + 1) H3 else Q (.bl false) H3)
    RD.co RD.turn RD.fpok hPG hPE hW s₀ s H
  refine call_function_tree F.kind_all F.plain_all F.entry_all (F.args_all1 _) ?_
  unfold Builtin.«all»
  refine wpAny_bind (m := oneArg "all" _) (wpAny_pure ?_)
  refine wpAny_bind (wpAny_pyIter_gen (RD.pin _ _ RD.at0.1).1 ?_)
  refine wpAny_pure ⟨plainId_quiet F.plain_all_loop _, ?_⟩
  refine all_gx (Xg := gcx X cenv N s4 H2 fp pn) hr.hd (by have := hr.dp; omega) RD.pin (fun H' s' I' hE => ?_) (fun i y H' hy => ?_) len s5 ⟨(RD.pin _ _ RD.at0.1).1, (RD.pin _ _ RD.at0.1).2, _, RD.gen, rfl, seg _ _ _ (RD.at0.slp RD.turn.keep ⟨rfl, allBare_setGen RD.at0.1.bare rfl, fun _ _ e => e⟩) w0⟩
  · exact ⟨.bl true, H', RD.back H' s' I', rfl, hE⟩
  · obtain ⟨b, rfl, hb⟩ := hy
    refine ⟨b, rfl, fun e => ?_, fun e s1 I1 => ?_⟩
    · rw [if_pos e] at hb
      exact hb
    · subst e
      rw [if_neg Bool.false_ne_true] at hb
      exact ⟨.bl false, H', RD.back H' s1 I1, rfl, hb⟩
end
end GX

set_option Elab.async false
set_option linter.all false
set_option maxRecDepth 100000
set_option maxHeartbeats 2000000
namespace HK
open PySem PySem.Spec PyProof.Rows L2

/-! ### constants of the module -/
def GloE (mg : Str → Option Value) (x : Str) (v : V) : Prop := ∃ u, mg x = some u ∧ RelV v u
theorem pe_glo {X : Cx} {x : Str} {v : V} {pos : Pos} (hg : Gl X x) (h : GloE X.mg x v) (hd : (x == ("__debug__" : Str)) = false := by decide) : PE X (.Name x pos) (tC v) := by
  obtain ⟨u, h1, h2⟩ := h
  exact pe_glob hg h1 h2 hd

/-! ### defs -/
/-- a def of the text, at f, its code object's value cd -/
structure FnAt (K : PySem.W.Frag) (mg : Str → Option Value) (x : Str) (st : Stmt) (ps : List Str) (f : Addr) (cd : Value) : Prop where
  ex : ∃ (oc : Value) (od : Option Addr) (kV doc pm : Value) (an : Option Addr) (ct : Value) (osl : Array (Option Value)),
    K.lookup f = some ⟨oc, od, .func (PySem.W.fnOf x x (defArgs st) (defBody st) (defScope st) .none kV doc pm an cd ct), osl⟩ ∧ PySem.W.codeIn K cd x = true ∧
    Binds K (PySem.W.fnOf x x (defArgs st) (defBody st) (defScope st) .none kV doc pm an cd ct) ps []
  kp : PySem.W.keepIn K (.ref f) = true
  mgf : mg x = some (.ref f)
/-- a def that may be called by its name -/
def CalE (P : Program) (w : World) (K : PySem.W.Frag) (mg : Str → Option Value) (base : Heap) (CX : CXT) (k : Nat) (x : Str) (sp : Sp) : Prop :=
  ∃ (f : Addr) (fd : FuncData) (ps : List Str), FnOk P w K mg base CX k f fd ps sp ∧ mg x = some (.ref f) ∧ PySem.W.keepIn K (.ref f) = true ∧ Binds K fd ps []
section
variable {P : Program} {w : World} {K : PySem.W.Frag} {mg : Str → Option Value} {base : Heap} {x : Str} {st : Stmt} {f : Addr} {cd : Value} {N ps : List Str} {k : Nat} {sp : Sp}
theorem FnAt.cal (F : FnAt K mg x st ps f cd) (S : FnScope N ps (defScope st)) (len : ∀ vs H Q E, sp vs H Q E → vs.length = ps.length)
    (hbody : ∀ (A : Around) (outer : List Env) (s : Shared) (H : Hp) (vs : List V) (Q : VK) (E : XK), Room k (A.deeper (envOfC x (defScope st) s.heap.objs.size f cd)) → sp vs H Q E →
      ∃ t, PSs (cxOf CX0 P w K mg base N x (defScope st) f cd A outer s H E).nox (defBody st) t ∧ t { nx := fun _ H' => Q .non H', rt := Q } (start N vs) H) : CalE P w K mg base CX0 (k + 1) x sp := by
  obtain ⟨oc, od, kV, doc, pm, an, ct, osl, lk, hcd, hb⟩ := F.ex
  refine ⟨f, _, ps, fn_of lk hcd S len fun A outer s H vs Q E hr hsp => ?_, F.mgf, F.kp, hb⟩
  obtain ⟨t, h, q⟩ := hbody A outer s H vs Q E hr hsp
  exact ⟨t, h.nox, q⟩
/-- .. of a def that may raise -/
theorem FnAt.calX (F : FnAt K mg x st ps f cd) (S : FnScope N ps (defScope st)) (len : ∀ vs H Q E, sp vs H Q E → vs.length = ps.length)
    (hbody : ∀ (A : Around) (outer : List Env) (s : Shared) (H : Hp) (vs : List V) (Q : VK) (E : XK), Room k (A.deeper (envOfC x (defScope st) s.heap.objs.size f cd)) → sp vs H Q E →
      ∃ t, PSs (cxOf (L2.CX P w) P w K mg base N x (defScope st) f cd A outer s H E) (defBody st) t ∧ t { nx := fun _ H' => Q .non H', rt := Q } (start N vs) H) : CalE P w K mg base (L2.CX P w) (k + 1) x sp := by
  obtain ⟨oc, od, kV, doc, pm, an, ct, osl, lk, hcd, hb⟩ := F.ex
  exact ⟨f, _, ps, fn_of lk hcd S len fun A outer s H vs Q E hr hsp => hbody A outer s H vs Q E hr hsp, F.mgf, F.kp, hb⟩
theorem CalE.mono {CX : CXT} {j : Nat} (c : CalE P w K mg base CX j x sp) (h : j ≤ k) : CalE P w K mg base CX k x sp := by
  obtain ⟨f, fd, ps, F, r⟩ := c
  exact ⟨f, fd, ps, F.mono h, r⟩
/-- the law itself, by its body -/
def FnG (P : Program) (w : World) (K : PySem.W.Frag) (mg : Str → Option Value) (base : Heap) (CX : CXT) (k : Nat) (x : Str) (st : Stmt) (ps : List Str) (f : Addr) (cd : Value) (sp : Sp) : Prop :=
  ∀ (oc : Value) (od : Option Addr) (kV doc pm : Value) (an : Option Addr) (ct : Value) (osl : Array (Option Value)), K.lookup f = some ⟨oc, od, .func (PySem.W.fnOf x x (defArgs st) (defBody st) (defScope st) .none kV doc pm an cd ct), osl⟩ → PySem.W.codeIn K cd x = true →
    FnOk P w K mg base CX k f (PySem.W.fnOf x x (defArgs st) (defBody st) (defScope st) .none kV doc pm an cd ct) ps sp
theorem law_of (S : FnScope N ps (defScope st)) (len : ∀ vs H Q E, sp vs H Q E → vs.length = ps.length)
    (hbody : ∀ (A : Around) (outer : List Env) (s : Shared) (H : Hp) (vs : List V) (Q : VK) (E : XK), Room k (A.deeper (envOfC x (defScope st) s.heap.objs.size f cd)) → sp vs H Q E →
      ∃ t, PSs (cxOf CX0 P w K mg base N x (defScope st) f cd A outer s H E).nox (defBody st) t ∧ t { nx := fun _ H' => Q .non H', rt := Q } (start N vs) H) : FnG P w K mg base CX0 (k + 1) x st ps f cd sp := by
  intro oc od kV doc pm an ct osl lk hcd
  refine fn_of lk hcd S len fun A outer s H vs Q E hr hsp => ?_
  obtain ⟨t, h, q⟩ := hbody A outer s H vs Q E hr hsp
  exact ⟨t, h.nox, q⟩
theorem fnAt_mk {oc : Value} {od : Option Addr} {kV doc pm : Value} {an : Option Addr} {ct : Value} {osl : Array (Option Value)} (m : mg x = some (.ref f)) (l : K.lookup f = some ⟨oc, od, .func (PySem.W.fnOf x x (defArgs st) (defBody st) (defScope st) .none kV doc pm an cd ct), osl⟩)
    (c : PySem.W.codeIn K cd x = true) (kp : PySem.W.keepIn K (.ref f) = true)
    (h : ∀ us : List Value, us.length = ps.length → bindArgs (PySem.W.fnOf x x (defArgs st) (defBody st) (defScope st) .none kV doc pm an cd ct) ⟨us, []⟩ = pure (ps.zip us)) : FnAt K mg x st ps f cd :=
  ⟨⟨oc, od, kV, doc, pm, an, ct, osl, l, c, .all h⟩, kp, m⟩
end
def tCal (sp : Sp) (E : L2.St → XK) (t : TA) : TE := fun σ H Q => t σ H fun vs H1 => sp vs H1 Q (E σ)
section
variable {X : Cx} {k : Nat} {x : Str} {sp : Sp} {p pos : Pos} {e : Expr} {es : List Expr} {t : TA}
theorem pe_cal (c : CalE X.prog X.w X.K X.mg X.base CX0 k x sp) (hr : Room k X.A) (hg : Gl X x) (ha : PA X (e :: es) t) (hdb : (x == ("__debug__" : Str)) = false := by decide)
    (he : starEach (e :: es) X.env = (false, eval e X.env) :: starEach es X.env := by rfl) (hpl : (backTo pos (starEach es X.env)).any (·.1) = false := by rfl) :
    PE X (.Call (.Name x p) (e :: es) [] pos) (tCal sp (fun _ => E0) t) := by
  obtain ⟨f, fd, ps, F, hm, kp, b⟩ := c
  exact pe_callS F hr hg hm kp b (fun _ _ _ _ _ _ _ h => h.elim) ha hdb he hpl
/-- a def that may raise, where it doesn't -/
theorem pe_calL (c : CalE X.prog X.w X.K X.mg X.base (L2.CX X.prog X.w) k x sp) (hr : Room k X.A) (hg : Gl X x) (ha : PA X (e :: es) t) (hdb : (x == ("__debug__" : Str)) = false := by decide)
    (he : starEach (e :: es) X.env = (false, eval e X.env) :: starEach es X.env := by rfl) (hpl : (backTo pos (starEach es X.env)).any (·.1) = false := by rfl) :
    PE X (.Call (.Name x p) (e :: es) [] pos) (tCal sp (fun _ => E0) t) := by
  obtain ⟨f, fd, ps, F, hm, kp, b⟩ := c
  exact pe_callS F hr hg hm kp b (fun _ _ _ _ _ _ _ h => by
    obtain ⟨_, _, _, _, _, _, _, _, _, _, _, _, z⟩ := h
    exact z.elim) ha hdb he hpl
/-- .. in a try, or in a def that lets it out: W is wished of it -/
theorem pe_calS {W : WX} (c : CalE X.prog X.w X.K X.mg X.base (L2.CX X.prog X.w) k x sp) (hr : Room k X.A) (hg : Gl X x) (tk : Takes X W) (ha : PA X (e :: es) t) (hdb : (x == ("__debug__" : Str)) = false := by decide)
    (he : starEach (e :: es) X.env = (false, eval e X.env) :: starEach es X.env := by rfl) (hpl : (backTo pos (starEach es X.env)).any (·.1) = false := by rfl) :
    PE X (.Call (.Name x p) (e :: es) [] pos) (tCal sp (WE W) t) := by
  obtain ⟨f, fd, ps, F, hm, kp, b⟩ := c
  exact pe_callS F hr hg hm kp b (fun σ => passAt tk σ) ha hdb he hpl
/-- f() -/
theorem pe_cal0 (c : CalE X.prog X.w X.K X.mg X.base CX0 k x sp) (hr : Room k X.A) (hg : Gl X x) (hdb : (x == ("__debug__" : Str)) = false := by decide) : PE X (.Call (.Name x p) [] [] pos) (tCal sp (fun _ => E0) tNil) := by
  obtain ⟨f, fd, ps, F, hm, kp, b⟩ := c
  have h := pe_call0 (p := p) (pos := pos) F hr hg hm kp b .nil (pass0 (X := X)) hdb
  exact h
end

/-! ### own errors without __init__ -/
def exBases : List Value := [.type "ValueError", .type "Exception", .type "BaseException", .type "object"]
structure ExcE (K : PySem.W.Frag) (mg : Str → Option Value) (x : Str) (C : Addr) : Prop where
  m : mg x = some (.ref C)
  q : PySem.W.excIn K C exBases "ValueError.__new__" = true
  kp : PySem.W.keepIn K (.ref C) = true
  sb : PySem.W.subIn K (.ref C) (.type "BaseException") = some true
  ty : PySem.W.typeIn K (.ref C) = some (.type "type")
  is : PySem.W.isClsIn K C = true
  self : PySem.W.subIn K (.ref C) (.ref C) = some true
theorem exm_self {K : PySem.W.Frag} {S : Addr} (h1 : PySem.W.subIn K (.ref S) (.type "BaseException") = some true) (h2 : PySem.W.isClsIn K S = true) (h3 : PySem.W.typeIn K (.ref S) = some (.type "type")) (h4 : PySem.W.subIn K (.ref S) (.ref S) = some true) :
    PySem.W.exmOne K (.ref S) (.ref S) = some true := by
  have e1 : (PySem.W.subIn K (.ref S) (.type "BaseException") == some true) = true := by rw [h1] <;> rfl
  have e2 : ((PySem.W.clsIn K S).isSome && PySem.W.typeIn K (.ref S) == some (.type "type")) = true := by
    have h2' : (PySem.W.clsIn K S).isSome = true := h2
    rw [h2', h3] <;> rfl
  show (if (PySem.W.subIn K (.ref S) (.type "BaseException") == some true) = true then (if ((PySem.W.clsIn K S).isSome && PySem.W.typeIn K (.ref S) == some (.type "type")) = true then PySem.W.subIn K (.ref S) (.ref S) else none) else none) = some true
  rw [if_pos e1, if_pos e2]
  exact h4
theorem ExcE.ex {K : PySem.W.Frag} {mg : Str → Option Value} {x : Str} {C : Addr} (h : ExcE K mg x C) : PySem.W.exmOne K (.ref C) (.ref C) = some true := exm_self h.sb h.is h.ty h.self
theorem pmk_own0 {X : Cx} {C : Addr} {x : Str} {p pos : Pos} (h : ExcE X.K X.mg x C) (hg : Gl X x) (hdb : (x == ("__debug__" : Str)) = false := by decide) :
    PMk X (.Call (.Name x p) [] [] pos) (fun _ H Q => Q (.ref C) none H) := by
  intro pins s σ H Q I hq
  refine wpAny_Call_Name_kw (ld_glob I hg h.m ?_ hdb)
  refine PySem.W.callWith_K0 I.kIn h.kp ?_
  show wpAny _ _ (call (.ref C) []) _ _ _
  obtain ⟨bm, N, nm, qn, bs, hdct, sn, sub, ab, col, dd, k0, k1, k2, k3, k5, mN, hC, hN, hni, T⟩ := exc_obj I.kIn h.q
  refine wpAny_call_exc_subT PySem.F.excBase_ValueError T hC hN hni (fun h' e hm => ?_) (Nat.zero_le _)
  exact mk_of I hm (raises_own h.sb h.ty) hq (I.hok.gone hm.new)

/-! ### heaps: the tables tb may grow, what stands at ch may change, all else that was tracked stands -/
def Tabs (tb : List Addr) (H : Hp) : Prop := ∀ b ∈ tb, GxR.TabG H b
structure Ext (tb ch : List Addr) (H H' : Hp) : Prop where
  keep : ∀ b o, b ∉ tb → b ∉ ch → H b = some o → H' b = some o
  tabs : Tabs tb H → Tabs tb H'
section
variable {tb ch : List Addr} {H H1 H2 H3 : Hp} {a b p : Addr} {o : HO} {K : PySem.W.Frag} {xs : List V}
theorem Ext.refl : Ext tb ch H H := ⟨fun _ _ _ _ h => h, fun h => h⟩
theorem Ext.trans (h : Ext tb ch H H1) (g : Ext tb ch H1 H2) : Ext tb ch H H2 := ⟨fun b o h1 h2 e => g.keep b o h1 h2 (h.keep b o h1 h2 e), fun t => g.tabs (h.tabs t)⟩
theorem Ext.wide {ch' : List Addr} (h : Ext tb ch H H1) (w : ∀ b ∈ ch, b ∈ ch') : Ext tb ch' H H1 := ⟨fun b o h1 h2 e => h.keep b o h1 (fun z => h2 (w b z)) e, h.tabs⟩
theorem Ext.of0 {ch' : List Addr} (h : Ext tb [] H H1) : Ext tb ch' H H1 := h.wide fun _ z => (by cases z)
theorem Tabs.ne (t : Tabs tb H) (h : H p = none) : p ∉ tb := fun z => by
  obtain ⟨ps, e, _⟩ := t p z
  rw [h] at e
  cases e
theorem TabG.upd {c : Addr} (h : GxR.TabG H c) (hp : p ≠ c) : GxR.TabG (upd H p o) c := by
  obtain ⟨ps, e, q⟩ := h
  exact ⟨ps, by rw [upd_ne (Ne.symm hp)]; exact e, q⟩
theorem Tabs.upd (t : Tabs tb H) (hp : p ∉ tb) : Tabs tb (upd H p o) := fun b hb => TabG.upd (t b hb) fun z => hp (by rw [z]; exact hb)
/-- a new object -/
theorem Ext.new (t : Tabs tb H) (h : H p = none) : Ext tb ch H (upd H p o) :=
  ⟨fun b u _ _ e => by rw [upd_ne (ne_of_none e h)]; exact e, fun _ => t.upd (t.ne h)⟩
/-- what stands at a changed place is changed -/
theorem Ext.mut (hp : p ∈ ch) (nt : p ∉ tb) : Ext tb ch H (upd H p o) :=
  ⟨fun b u _ h2 e => by rw [upd_ne (fun z => h2 (by rw [z]; exact hp))]; exact e, fun t => t.upd nt⟩
/-- what came new may be changed -/
theorem Ext.own (t : Tabs tb H) (h : Ext tb ch H H1) (hp : H p = none) : Ext tb ch H (upd H1 p o) :=
  ⟨fun b u h1 h2 e => by rw [upd_ne (ne_of_none e hp)]; exact h.keep b u h1 h2 e, fun _ => (h.tabs t).upd (t.ne hp)⟩
theorem Ext.tabbed (h : GxR.Tabbed p H H1) (hp : p ∈ tb) : Ext tb ch H H1 :=
  ⟨fun b u h1 _ e => by rw [h.2 b (fun z => h1 (by rw [z]; exact hp))]; exact e, fun t b hb => by
    by_cases e : b = p
    · rw [e]
      exact h.1
    · obtain ⟨ps, e1, e2⟩ := t b hb
      exact ⟨ps, by rw [h.2 b e]; exact e1, e2⟩⟩
theorem Ext.free (h : Ext tb ch H H1) (t : Tabs tb H) (hp : H1 p = none) (hc : p ∉ ch) : H p = none := by
  cases e : H p with
  | none => rfl
  | some u =>
    by_cases hb : p ∈ tb
    · exact absurd hp (fun z => by
        obtain ⟨ps, e1, _⟩ := h.tabs t p hb
        rw [z] at e1
        cases e1)
    · rw [h.keep p u hb hc e] at hp
      cases hp
theorem ne_tab (t : Tabs tb H) (e : H a = some o) (ho : ∀ ps, o ≠ .tbl ps) : a ∉ tb := fun z => by
  obtain ⟨ps, e1, _⟩ := t a z
  rw [e] at e1
  exact ho ps (Option.some.inj e1)
theorem Ext.rd (h : Ext tb ch H H1) (t : Tabs tb H) {u : HO} (hu : (∃ xs, u = .lst xs) ∨ ∃ xs, u = .tup xs) (r : Rd H a u) (hc : a ∉ ch) : Rd H1 a u := by
  rcases r with r | ⟨oo, r⟩
  · exact .inl (h.keep _ _ (ne_tab t r fun ps z => by rcases hu with ⟨xs, rfl⟩ | ⟨xs, rfl⟩ <;> cases z) hc r)
  · exact .inr ⟨oo, h.keep _ _ (ne_tab t r fun ps z => by cases z) hc r⟩
theorem Ext.sqL (h : Ext tb ch H H1) (t : Tabs tb H) (s : SqL K H a xs) (hc : a ∉ ch) : SqL K H1 a xs := by
  rcases s with s | s
  · exact .inl (h.rd t (.inl ⟨_, rfl⟩) s hc)
  · exact .inr s
theorem Ext.sqT (h : Ext tb ch H H1) (t : Tabs tb H) (s : SqT K H a xs) (hc : a ∉ ch) : SqT K H1 a xs := by
  rcases s with s | s
  · exact .inl (h.rd t (.inr ⟨_, rfl⟩) s hc)
  · exact .inr s
theorem Ext.lst (h : Ext tb ch H H1) (t : Tabs tb H) (e : H a = some (.lst xs)) (hc : a ∉ ch) : H1 a = some (.lst xs) := h.keep _ _ (ne_tab t e fun ps z => by cases z) hc e
theorem Ext.tup (h : Ext tb ch H H1) (t : Tabs tb H) (e : H a = some (.tup xs)) (hc : a ∉ ch) : H1 a = some (.tup xs) := h.keep _ _ (ne_tab t e fun ps z => by cases z) hc e
theorem Ext.dK {kvs : List (Key × V)} (h : Ext tb ch H H1) (t : Tabs tb H) (e : H a = some (.dK kvs)) (hc : a ∉ ch) : H1 a = some (.dK kvs) := h.keep _ _ (ne_tab t e fun ps z => by cases z) hc e
end

/-! ### the end: a law whose defs have tables -/
/-- what is known of a def's code object and its table -/
def TabAt (K : PySem.W.Frag) (mg : Str → Option Value) (h : Heap) (q : Program) : Prop := ∀ (nm : Str) (f c P : Addr) (o : Obj) (fd : FuncData) (e : Value) (dd : Option Addr) (vs : Array Value) (sl : Array (Option Value)),
  ((recsOf q).any fun e => e.name == nm) = true → mg nm = some (.ref f) → K.lookup f = some o → o.data = .func fd → fd.code = .ref c → K.lookup c = some ⟨e, dd, .fields vs, sl⟩ → vs[11]? = some (.ref P) →
  PySem.W.CodeHd h c P ∧ h.get? P = some { cls := .none, data := .fields #[] }
theorem walk_tabs {l : PySem.W.OpenLaw} {n k : Nat} {q : Program} {loose : List Str} {XP : (Str → Option Value) → Heap → Prop} {YP : World → Heap → Prop} {d : DefRec} {K : Params → PySem.W.Frag} {CX : World → CXT} {x : Str}
    (hn : l.most = some n) (hn2 : n ≤ sizeLine) (hdf : d.params.defaults = []) (hr : Room k callerA) (hY : ∀ (w : World) (h : Heap), YP w h → (K w.params).In h)
    (F : ∀ (w : World) (mg : Str → Option Value) (fa : Addr) (h : Heap), YP w h → (K w.params).In h → h.Ns mainGlobals mg → mg d.name = some (.ref fa) → TabAt (K w.params) mg h q → LamX.LawAtS l w (K w.params) (CX w) k n x mg fa h)
    (hCX : ∀ (w : World) (H : Hp) (s : Shared) (e : Value) (s' : Shared), CX w [] H s (fun _ _ _ => False) e s' → False) :
    PySem.W.WalkO q loose XP YP l.row.toRowW d [] (fun f vs => PySem.call f vs) := by
  refine Att.attach_callB hn hdf fun w s₀ s₁ mg mb fa o pm cd doc a vs ns G Y ho hd hcd hmg hobj hints hlen hbits hg => ?_
  have KX := hY w _ Y
  have tabs : TabAt (K w.params) mg s₁.heap q := fun nm f c P o1 fd1 e dd vs1 sl hrec hm k1 k2 k3 k4 k5 => by
    obtain ⟨dL, hm1, hn1⟩ := List.any_eq_true.mp hrec
    have hn2 : dL.name = nm := beq_iff_eq.mp hn1
    obtain ⟨a', o', fd', c', P', h1, h2, h3, h4, h5, h6⟩ := G.T.tab dL hm1
    rw [hn2, hm] at h1
    cases h1
    have g1 := KX _ _ k1
    rw [g1] at h2
    cases h2
    rw [k2] at h3
    cases h3
    rw [k3] at h4
    cases h4
    have hd := PySem.W.CodeHd.of h5 h6
    obtain ⟨⟨oc, vc, e1, _, e3, e4⟩, hP⟩ := h6
    have g2 := KX _ _ k4
    rw [g2] at e1
    cases e1
    cases e3
    rw [k5] at e4
    cases e4
    exact ⟨hd, hP⟩
  obtain ⟨fd, cs, sp, hT, nT, C, hb, hsp, hF⟩ := F w mg fa _ Y KX G.T.g hmg tabs
  exact LamX.law_callTs KX G.T.g G.T.b G.T.builtins G.T.nolimit hg hT nT C G.T.bmain hobj hints (Nat.le_trans hlen hn2) hr hF hb (fun H hH hS => hsp H a ns hlen hbits hH hS) fun H e s' => hCX w H s₁ e s'

/-! ### isinstance; all over a generator expression -/
theorem isi {K : PySem.W.Frag} {H : Hp} {x : V} {t n : String} {b : Bool} {Q : VK} (ty : TyX K H x (.type t)) (hk : kitB t n = some b) (q : Q (.bl b) H) : rIsi K [x, .ty n] H Q :=
  ⟨x, .ty n, .type t, .type n, b, rfl, .ty n, ty, kit_ty hk, q⟩
def trV {α : Type} (f : α → Bool) (l : List α) (i : Nat) : Bool := match l[i]? with
  | some b => f b
  | none => false
theorem trV_some {α : Type} {f : α → Bool} {l : List α} {i : Nat} {b : α} (h : l[i]? = some b) : trV f l i = f b := by
  unfold trV
  rw [h]
theorem all_trV {α : Type} (f : α → Bool) (l : List α) : (List.range l.length).all (trV f l) = l.all f := by
  rw [Bool.eq_iff_iff, List.all_eq_true, List.all_eq_true]
  constructor
  · intro h b hb
    obtain ⟨j, hj, e⟩ := List.getElem_of_mem hb
    have q := h j (List.mem_range.mpr hj)
    rw [trV_some (List.getElem?_eq_getElem hj), e] at q
    exact q
  · intro h j hj
    have hj' := List.mem_range.mp hj
    rw [trV_some (List.getElem?_eq_getElem hj')]
    exact h _ (List.getElem_mem hj')
theorem allG_by {J : It} {N : List Str} {g : TG} {te : TE} {Q : VK} {H2 : Hp} (len : Nat) (pb : Nat → Bool) (Pv : Hp → Prop) (h0 : Pv H2) (hstop : ∀ H, Pv H → J.stop len H) (hgo : ∀ i H, i < len → Pv H → J.go i H)
    (hstep : ∀ i H x H', i < len → Pv H → J.yld i H x H' → ∀ R : VK, (∀ H3, Pv H3 → R (.bl (pb i)) H3) → g x (GX.tau0 N) H' fun τ2 H2 => te τ2 H2 R)
    (hq : ∀ H b, Pv H → b = (List.range len).all pb → Q (.bl b) H) :
    ∃ (len : Nat) (W : Nat → Hp → Prop), W 0 H2 ∧ ∀ i H, W i H → i ≤ len ∧ ((J.stop i H ∧ Q (.bl true) H) ∨ (i < len ∧ J.go i H ∧ ∀ x H', J.yld i H x H' → g x (GX.tau0 N) H' fun τ2 H2 => te τ2 H2 fun y H3 => ∃ b, y = .bl b ∧ if b = true then W (i + 1) H3 else Q (.bl false) H3)) := by
  refine ⟨len, fun i H => i ≤ len ∧ Pv H ∧ ∀ j, j < i → pb j = true, ⟨Nat.zero_le _, h0, fun j hj => absurd hj (Nat.not_lt_zero _)⟩, ?_⟩
  rintro i H ⟨hi, hp, hj⟩
  refine ⟨hi, ?_⟩
  by_cases e : i < len
  · refine .inr ⟨e, hgo i H e hp, fun x H' hy => hstep i H x H' e hp hy _ fun H3 hp3 => ⟨pb i, rfl, ?_⟩⟩
    cases hb : pb i with
    | true =>
      refine iteT ⟨e, hp3, fun j hj' => ?_⟩
      rcases Nat.lt_or_ge j i with z | z
      · exact hj j z
      · have : j = i := by omega
        rw [this]
        exact hb
    | false =>
      refine iteF (hq H3 false hp3 ?_)
      symm
      rw [List.all_eq_false]
      exact ⟨i, List.mem_range.mpr e, by rw [hb]; exact Bool.false_ne_true⟩
  · have : i = len := by omega
    subst this
    refine .inl ⟨hstop H hp, hq H true hp ?_⟩
    symm
    rw [List.all_eq_true]
    exact fun j hj' => hj j (List.mem_range.mp hj')
theorem line_of {n : Nat} (h : n ≤ 100000) : n ≤ sizeLine := Nat.le_trans h (by decide)
theorem line_lt {n : Nat} (h : n ≤ 100000) : n < sizeLine := Nat.lt_of_le_of_lt h (by decide)

/-! ### data of ints, of texts -/
theorem dp_ints {K : PySem.W.Frag} {H : Hp} : ∀ ns : List Int, DpAll K H (ns.map V.int) (ns.map PyData.int)
  | [] => .nil
  | n :: r => .cons (.int n) (dp_ints r)
theorem dp_strs {K : PySem.W.Frag} {H : Hp} : ∀ ns : List Str, DpAll K H (ns.map V.str) (ns.map PyData.str)
  | [] => .nil
  | n :: r => .cons (.str n) (dp_strs r)
theorem canAll_ints : ∀ ns : List Int, PyData.canLayAll0 (ns.map PyData.int) = true
  | [] => rfl
  | n :: r => by
    show (PyData.canLay0 (.int n) && PyData.canLayAll0 (r.map PyData.int)) = true
    rw [canAll_ints r] <;> rfl
theorem depAll_ints : ∀ ns : List Int, PyData.depthAll (ns.map PyData.int) = 0
  | [] => rfl
  | n :: r => by
    show max (PyData.depth (.int n)) (PyData.depthAll (r.map PyData.int)) = 0
    rw [depAll_ints r] <;> rfl
theorem sh_ints (ns : List Int) : SeqAt.shaped (.list (ns.map PyData.int)) = true := by
  have h1 : PyData.canLay0 (.list (ns.map PyData.int)) = true := canAll_ints ns
  have h2 : PyData.depth (.list (ns.map PyData.int)) = 1 := by
    show PyData.depthAll (ns.map PyData.int) + 1 = 1
    rw [depAll_ints]
  unfold SeqAt.shaped
  rw [h1, h2] <;> rfl
theorem canAll_strs : ∀ ns : List Str, (∀ s ∈ ns, PyData.canLay0 (.str s) = true) → PyData.canLayAll0 (ns.map PyData.str) = true
  | [], _ => rfl
  | n :: r, h => by
    show (PyData.canLay0 (.str n) && PyData.canLayAll0 (r.map PyData.str)) = true
    rw [canAll_strs r fun s hs => h s (List.mem_cons_of_mem _ hs), h n (List.mem_cons_self ..)] <;> rfl
theorem depAll_strs : ∀ ns : List Str, PyData.depthAll (ns.map PyData.str) = 0
  | [] => rfl
  | n :: r => by
    show max (PyData.depth (.str n)) (PyData.depthAll (r.map PyData.str)) = 0
    rw [depAll_strs r] <;> rfl
theorem sh_tstrs {ns : List Str} (h : ∀ s ∈ ns, PyData.canLay0 (.str s) = true) : SeqAt.shaped (.tuple (ns.map PyData.str)) = true := by
  have h1 : PyData.canLay0 (.tuple (ns.map PyData.str)) = true := canAll_strs ns h
  have h2 : PyData.depth (.tuple (ns.map PyData.str)) = 1 := by
    show PyData.depthAll (ns.map PyData.str) + 1 = 1
    rw [depAll_strs]
  unfold SeqAt.shaped
  rw [h1, h2] <;> rfl

/-! ### the layer's rules, the written part told (a comprehension's frame has another context) -/
section
variable {X : Cx} {K : PySem.W.Frag} {tg : Expr} {e : Expr} {te : TE}
theorem q_isi (h : X.K = K) : CallR X (.builtin "isinstance") (rIsi K) := h ▸ call_isi
def rLenK (K : PySem.W.Frag) : List V → Hp → VK → Prop := fun xs H Q => ∃ x n, xs = [x] ∧ LenV K x H n ∧ Q (.int n) H
theorem q_len (h : X.K = K) : CallR X (.builtin "len") (rLenK K) := h ▸ call_len
def rTupK (K : PySem.W.Frag) : List V → Hp → VK → Prop := fun xs H Q => ∃ p ys, xs = [.ref p] ∧ ((SqL K H p ys ∧ ∀ l, H l = none → Q (.ref l) (upd H l (.tup ys))) ∨ (SqT K H p ys ∧ Q (.ref p) H))
theorem q_tup (h : X.K = K) : CallR X (.type "tuple") (rTupK K) := h ▸ call_tuple_of
def rLstK (K : PySem.W.Frag) : List V → Hp → VK → Prop := fun xs H Q => ∃ p ys, xs = [.ref p] ∧ (SqL K H p ys ∨ SqT K H p ys) ∧ ∀ l, H l = none → Q (.ref l) (upd H l (.lst ys))
theorem q_lst (h : X.K = K) : CallR X (.type "list") (rLstK K) := h ▸ call_list_of
theorem q_all (h : X.K = K) (hc : X.calm = true) : CallR X (.builtin "all") (rAll K) := h ▸ cr_all hc
theorem q_any (h : X.K = K) (hc : X.calm = true) : CallR X (.builtin "any") (rAny K) := h ▸ cr_any hc
theorem q_sum (h : X.K = K) (hc : X.calm = true) : CallR X (.builtin "sum") (rSum K) := h ▸ cr_sum hc
theorem q_ixL (h : X.K = K) : IxR X (rIxL K) := h ▸ ix_list
theorem q_ixT (h : X.K = K) : IxR X (rIxT K) := h ▸ ix_tup
theorem q_slL (h : X.K = K) : SlR X (rSlL K) := h ▸ sl_list
theorem q_slT (h : X.K = K) : SlR X (rSlA K) := h ▸ sl_tupA
theorem q_in (h : X.K = K) : OpR X (compareOp .In) (rIn K false) := h ▸ op_in_seq
theorem q_nin (h : X.K = K) : OpR X (compareOp .NotIn) (rIn K true) := h ▸ op_notIn_seq
theorem q_eqD (h : X.K = K) (hu : X.A.units + 64 < cLine) : OpR X (compareOp .Eq) (rEqD K) := h ▸ op_eqD hu
theorem q_neD (h : X.K = K) (hu : X.A.units + 64 < cLine) : OpR X (compareOp .NotEq) (rNeD K) := h ▸ op_neD hu
theorem q_catT (h : X.K = K) : OpR X (binaryOp .Add) (rCatA K) := h ▸ op_catA
theorem q_piL (h : X.K = K) (hl : PE X e te) : PI X tg e (iList K te) := h ▸ pi_list hl
theorem q_piT (h : X.K = K) (hl : PE X e te) : PI X tg e (iTup K te) := h ▸ pi_tup hl
theorem q_bm {T id : String} {name : Str} {o : Expr} {es : List Expr} {to : TE} {t : TA} {r : V → List V → Hp → VK → Prop} {apos cpos : Pos} (h : X.K = K) (pa : PlainAttrs T) (slot : Slot T name id) (hty : typeOf (.builtin id) = pure (.type "method_descriptor")) (hm : MtR X id r) (ho : PE X o to) (ha : PA X (e :: es) t)
    (hbase : attributeBase o name X.env (eval o X.env) = eval o X.env := by rfl)
    (hfew : ((backTo cpos (starEach (e :: es) X.env)).all (fun x => !x.1) && (backToKw cpos (keywordEach [] X.env)).all (fun x => x.1.isSome)
      && decide ((e :: es).length + ([] : List Keyword).length + (if ([] : List Keyword).isEmpty then 0 else 1) < 30)) = true := by rfl)
    (hline : (apos.endLine == cpos.line) = true := by rfl) (hs : starEach (e :: es) X.env = (false, eval e X.env) :: starEach es X.env := by rfl) (hplain : (backTo cpos (starEach es X.env)).any (·.1) = false := by rfl) :
    PE X (.Call (.Attribute o name apos) (e :: es) [] cpos) (tBM K T r to t) := h ▸ pe_bm pa slot hty hm ho ha hbase hfew hline hs hplain
theorem q_join {o : Expr} {to : TE} {apos pos : Pos} (h : X.K = K) (ho : PE X o to) (he : PE X e te) (hs : starEach [e] X.env = [(false, eval e X.env)] := by rfl) (hbase : attributeBase o "join" X.env (eval o X.env) = eval o X.env := by rfl) (hline : (apos.endLine == pos.line) = true := by rfl) :
    PE X (.Call (.Attribute o "join" apos) [e] [] pos) (tM1 (fun x xs H Q => ∃ a p, ∃ ys : List Str, x = .str a ∧ xs = [.ref p] ∧ (SqL K H p (ys.map V.str) ∨ SqT K H p (ys.map V.str)) ∧
    (ys.map (·.length)).sum + ys.length * a.length ≤ 16777216 ∧ Q (.str (Txt.join a ys)) H) to te) := h ▸ pe_join ho he hs hbase hline
end

/-- what the end asks, from the promise of the law -/
theorem law_at {l : PySem.W.OpenLaw} {w : World} {K : PySem.W.Frag} {mg : Str → Option Value} {h : Heap} {q : Program} {k n : Nat} {x nm : Str} {st : Stmt} {f fa : Addr} {cd : Value} {sp : Sp} {cs : List (Addr × Addr)}
    (hf : mg nm = some (.ref fa)) (F : FnAt K mg nm st [x] f cd) (hcs : ∀ p ∈ cs, PySem.W.CodeHd h p.1 p.2 ∧ h.get? p.2 = some { cls := .none, data := .fields #[] } ∧ K.lookup p.2 = none)
    (hb : ∀ (kV doc pm : Value) (an : Option Addr) (ct : Value) (s : Shared) (u : Value), BindsTo s (PySem.W.fnOf nm nm (defArgs st) (defBody st) (defScope st) .none kV doc pm an cd ct) ⟨[u], []⟩ [(x, u)])
    (hsp : ∀ (H : Hp) (a : Addr) (ns : List Int), ns.length ≤ n → (∀ z ∈ ns, Builtin.Int.intBits z ≤ 1048576) → Tabs (cs.map (·.2)) H → SqL K H a (ns.map V.int) → sp [.ref a] H (fun v _ => v = .bl true) fun _ _ _ => False)
    (hF : ∀ base : Heap, K.In base → base.Ns mainGlobals mg → (∀ p ∈ cs, LamX.TabB base mg p.1 p.2) → FnG l.prog w K mg base CX0 k nm st [x] f cd sp) : LamX.LawAtS l w K CX0 k n x mg fa h := by
  obtain ⟨oc, od, kV, doc, pm, an, ct, osl, lk, hcd, _⟩ := F.ex
  have e := hf.symm.trans F.mgf
  cases e
  refine ⟨PySem.W.fnOf nm nm (defArgs st) (defBody st) (defScope st) .none kV doc pm an cd ct, cs, sp, fun p hp => (hcs p hp).2.1, fun p hp => (hcs p hp).2.2, fun p hp => (hcs p hp).1, hb kV doc pm an ct, fun H a ns h1 h2 h3 h4 => ?_, fun base hK hN hT => hF base hK hN hT oc od kV doc pm an ct osl lk hcd⟩
  refine hsp H a ns h1 h2 (fun b hb => ?_) h4
  obtain ⟨p, hp, e⟩ := List.mem_map.mp hb
  rw [← e]
  refine ⟨#[], h3 p hp, ?_⟩
  first
    | trivial
    | simp [TriplesOk]
end HK

set_option Elab.async false
set_option linter.all false
set_option maxRecDepth 100000
set_option maxHeartbeats 2000000
/-! a tuple's slice with a step other than 1: t[a:b:c] -/
namespace SL
open PySem PySem.Spec PyProof.Rows L2 HT
/-- the items of xs[lo:hi:st] -/
def pick {α : Type} (xs : List α) (lo hi : Option Int) (st : Int) : List α :=
  (List.range (Builtin.Slice.slicePlaces (Builtin.Slice.sliceAdjust lo hi st (xs.length : Int)).1 (Builtin.Slice.sliceAdjust lo hi st (xs.length : Int)).2 st)).filterMap fun (m : Nat) => xs[((Builtin.Slice.sliceAdjust lo hi st (xs.length : Int)).1 + (m : Int) * st).toNat]?
section
variable {prog : Program} {w : World} {A : Around} {E : Value → Shared → Prop} {s : Shared}
theorem applied {sl : Addr} {vl vu vs : Value} {lo hi : Option Int} {st : Int} {n : Nat} {Q : Int × Int × Nat → Shared → Prop} (hs : s.heap.IsSliceOf sl vl vu vs) (pl : IsPart vl lo) (pu : IsPart vu hi) (ps : IsPart vs (some st)) (h0 : st ≠ 0)
    (h : Q ((Builtin.Slice.sliceAdjust lo hi st (n : Int)).1, st, Builtin.Slice.slicePlaces (Builtin.Slice.sliceAdjust lo hi st (n : Int)).1 (Builtin.Slice.sliceAdjust lo hi st (n : Int)).2 st) s) : wpAny (model prog w) A (Builtin.Slice.sliceApplied (.ref sl) (pure (n : Int))) Q E s := by
  obtain ⟨os, hos, hcs, hds⟩ := id hs
  unfold Builtin.Slice.sliceApplied Builtin.Slice.sliceFields
  refine wpAny_bind (wpAny_bind (wpAny_field hos hds (x := vl) rfl (wpAny_bind (wpAny_field hos hds (x := vu) rfl (wpAny_bind (wpAny_field hos hds (x := vs) rfl (wpAny_pure ?_)))))))
  refine wpAny_bind (slicePart_ ps ?_)
  show wpAny _ _ (if (st == 0) = true then _ else _) _ _ s
  rw [if_neg (by simpa using h0)]
  refine wpAny_bind (slicePart_ pl (wpAny_bind (slicePart_ pu (wpAny_bind (wpAny_pure ?_)))))
  exact wpAny_pure h
theorem pick_size (xs : List Value) (lo hi : Option Int) (st : Int) : (pick xs lo hi st).length ≤ Builtin.Slice.slicePlaces (Builtin.Slice.sliceAdjust lo hi st (xs.length : Int)).1 (Builtin.Slice.sliceAdjust lo hi st (xs.length : Int)).2 st := by
  unfold pick
  refine Nat.le_trans (List.length_filterMap_le _ _) ?_
  rw [List.length_range]
  exact Nat.le_refl _
theorem getItem_step {t sl : Addr} {items : Array Value} {vl vu vs : Value} {lo hi : Option Int} {st : Int} {Q : Value → Shared → Prop} (ht : IsTup s.heap t items) (hs : s.heap.IsSliceOf sl vl vu vs) (pl : IsPart vl lo) (pu : IsPart vu hi) (ps : IsPart vs (some st)) (h0 : st ≠ 0) (h1 : st ≠ 1)
    (hz : (pick items.toList lo hi st).length ≤ sizeLine)
    (h : Q (.ref s.heap.objs.size) { s with heap := s.heap.push { cls := .type "tuple", data := .seq (pick items.toList lo hi st).toArray } }) : wpAny (model prog w) A (getItem (.ref t) (.ref sl)) Q E s := by
  have htake : sizeOk (.seq (pick items.toList lo hi st).toArray) := by
    show (pick items.toList lo hi st).toArray.size ≤ sizeLine
    rw [List.size_toArray]
    exact hz
  obtain ⟨os, hos, hcs, hds⟩ := id hs
  have hTs : s.TypeIs (.ref sl) "slice" := ⟨os, hos, hcs⟩
  unfold getItem
  try with_reducible refine wpAny_holding ?_
  first | refine wpAny_bind (wpAny_pure ?_) | skip
  refine wpAny_bind (wpAny_sequenceKey ht.typeIs (by decide) ?_)
  refine wpAny_bind (wpAny_callSpecial?_slot (name := Str.ofString "__getitem__") ht.typeIs PyProof.Rows.slot_tuple_getitem
    (wpAny_call_entry PyProof.Rows.slot_tuple_getitem ht.typeIs entry_tuple_getitem ?_ (args_tuple_getitem _ _)))
  show wpAny _ _ (Builtin.Tuple.tupleItemsOf (.ref t) >>= _) _ _ s
  refine wpAny_bind (tupleItemsOf_ ht ?_)
  refine wpAny_bind (wpAny_typeOf hTs ?_)
  rw [if_pos (by decide)]
  refine wpAny_bind (applied hs pl pu ps h0 ?_)
  have hno : ¬ (((Builtin.Slice.sliceAdjust lo hi st (items.size : Int)).1 == 0 && st == 1 && Builtin.Slice.slicePlaces (Builtin.Slice.sliceAdjust lo hi st (items.size : Int)).1 (Builtin.Slice.sliceAdjust lo hi st (items.size : Int)).2 st == items.size) = true) := by
    intro q
    rw [Bool.and_eq_true, Bool.and_eq_true] at q
    exact h1 (eq_of_beq q.1.2)
  show wpAny _ _ (if ((Builtin.Slice.sliceAdjust lo hi st (items.size : Int)).1 == 0 && st == 1 && Builtin.Slice.slicePlaces (Builtin.Slice.sliceAdjust lo hi st (items.size : Int)).1 (Builtin.Slice.sliceAdjust lo hi st (items.size : Int)).2 st == items.size) = true then _ else _) _ _ s
  rw [if_neg hno]
  have e : ((List.range (Builtin.Slice.slicePlaces (Builtin.Slice.sliceAdjust lo hi st (items.size : Int)).1 (Builtin.Slice.sliceAdjust lo hi st (items.size : Int)).2 st)).filterMap fun (m : Nat) => items[((Builtin.Slice.sliceAdjust lo hi st (items.size : Int)).1 + (m : Int) * st).toNat]?) = pick items.toList lo hi st := by
    unfold pick
    rw [Array.length_toList]
    congr 1
    funext m
    rw [Array.getElem?_toList]
  rw [e]
  first
    | exact wpAny_bind (m := Builtin.Tuple.tupleExact _) (wpAny_newObj_type (wpAny_pure ⟨_, rfl, wpAny_pure h⟩) htake)
    | exact wpAny_bind (m := Builtin.Tuple.tupleExact _) (wpAny_newObj_type (wpAny_bind (wpAny_pure (wpAny_pure ⟨_, rfl, wpAny_pure h⟩))) htake)
    | exact wpAny_bind (wpAny_bind (m := Builtin.Tuple.tupleExact _) (wpAny_newObj_type (wpAny_pure (wpAny_pure ⟨_, rfl, wpAny_pure h⟩)) htake))
    | exact wpAny_bind (wpAny_bind (m := Builtin.Tuple.tupleExact _) (wpAny_newObj_type (wpAny_pure ⟨_, rfl, wpAny_pure h⟩) htake))
end
theorem fm_get {xs : List V} {us : List Value} (r : Vals xs us) (f : Nat → Nat) : ∀ l : List Nat, Vals (l.filterMap fun m => xs[f m]?) (l.filterMap fun m => us[f m]?)
  | [] => .nil
  | m :: t => by
    have ih := fm_get r f t
    rw [List.filterMap_cons, List.filterMap_cons]
    cases e : xs[f m]? with
    | none =>
      rw [r.none_of e]
      exact ih
    | some x =>
      obtain ⟨u, hu, hx⟩ := r.get e
      rw [hu]
      exact .cons hx ih
theorem pick_vals {xs : List V} {us : List Value} (r : Vals xs us) (lo hi : Option Int) (st : Int) : Vals (pick xs lo hi st) (pick us lo hi st) := by
  unfold pick
  rw [← r.length]
  exact fm_get r _ _
def tStep (K : PySem.W.Frag) (te : TE) (tl th ts : TO) : TE := fun σ H Q => te σ H fun x H1 => tl σ H1 fun l H2 => th σ H2 fun u H3 => ts σ H3 fun o H4 => ∃ a xs st, x = .ref a ∧ o = some st ∧ st ≠ 0 ∧ st ≠ 1 ∧ SqT K H4 a xs ∧ (pick xs l u st).length ≤ sizeLine ∧
  ∀ p, H4 p = none → Q (.ref p) (upd H4 p (.tup (pick xs l u st)))
theorem pe_step {X : Cx} {K : PySem.W.Frag} {e : Expr} {te : TE} {lo hi : Option Expr} {sx : Expr} {tl th ts : TO} {p3 pos : Pos} (hK : X.K = K) (he : PE X e te) (hl : PO X lo tl) (hu : PO X hi th) (hst : PO X (some sx) ts) : PE X (.Subscript e (.Slice lo hi (some sx) p3) pos) (tStep K te tl th ts) := by
  subst hK
  refine ⟨fun pins s σ H Q I h => ?_⟩
  refine Subscript_ (thn (he.run pins s σ H _ I h) fun v s1 ⟨x, H1, I1, r1, q1⟩ => ?_)
  refine wpAny_Slice (thn (hl.run pins s1 σ H1 _ I1 q1) fun vl s2 ⟨l, H2, I2, pl, q2⟩ => thn (hu.run pins s2 σ H2 _ I2 q2) fun vu s3 ⟨u, H3, I3, pu, q3⟩ => ?_)
  refine thn (hst.run pins s3 σ H3 _ I3 q3) fun vs s4 ⟨o, H4, I4, ps, q4⟩ => ?_
  obtain ⟨a, xs, st, ex, eo, h0, h1, hx, hz, q⟩ := q4
  subst ex eo
  cases r1
  have I5 : Inv X pins σ H4 { s4 with heap := s4.heap.push { cls := .type "slice", data := .fields #[vl, vu, vs] } } := I4.kept (t' := s4.toks) fun b ob q => Heap.get?_push_of_some _ q
  obtain ⟨its, r, ht, hzz⟩ := I5.tuple hx
  show wpAny (model X.prog X.w) X.A (subscriptTail e (.Slice lo hi (some sx) p3) (.ref a) (.ref s4.heap.objs.size)) (EP X pins σ Q) X.xe { s4 with heap := s4.heap.push { cls := .type "slice", data := .fields #[vl, vu, vs] } }
  refine tail_any (ops := [.ref a, .ref s4.heap.objs.size]) ht.typeIs PyProof.Rows.slot_tuple_getitem.lookup ?_ (by with_unfolding_all rfl)
  have rp := pick_vals r l u st
  have e1 : its.toArray.toList = its := by simp
  refine getItem_step ht (Heap.IsSliceOf.new _ vl vu vs) pl pu ps h0 h1 (by rw [e1, ← rp.length]; exact hz) ?_
  rw [e1]
  refine ⟨.ref _, _, I5.laid (t' := s4.toks) (o := .tup (pick xs l u st)) (fun b ob q => Heap.get?_push_of_some _ q) (Nat.le_refl _) ?_, rfl, q _ (I5.hok.fresh (Nat.le_refl _))⟩
  exact ⟨hz, _, rp, ⟨_, Heap.get?_push_size _ rfl, rfl, _, rfl⟩⟩
end SL

set_option Elab.async false
set_option linter.all false
set_option maxRecDepth 100000
set_option maxHeartbeats 2000000
/-! data, and what is evaluated to some data -/
namespace DT
open PySem PySem.Spec PyProof.Rows L2 HK
/-- the kind's name -/
def tyN : PyData → String
  | .none => "NoneType"
  | .bool _ => "bool"
  | .int _ => "int"
  | .str _ => "str"
  | .list _ => "list"
  | .tuple _ => "tuple"
  | .dict _ => "dict"
def isTup : PyData → Bool
  | .tuple _ => true
  | _ => false
def isLst : PyData → Bool
  | .list _ => true
  | _ => false
def isStr : PyData → Bool
  | .str _ => true
  | _ => false
def isBl : PyData → Bool
  | .bool _ => true
  | _ => false
def isIntB : PyData → Bool
  | .int _ => true
  | .bool _ => true
  | _ => false
theorem kit_tup : ∀ d : PyData, kitB (tyN d) "tuple" = some (isTup d)
  | .none => show kitB "NoneType" "tuple" = some false by decide +kernel
  | .bool _ => show kitB "bool" "tuple" = some false by decide +kernel
  | .int _ => show kitB "int" "tuple" = some false by decide +kernel
  | .str _ => show kitB "str" "tuple" = some false by decide +kernel
  | .list _ => show kitB "list" "tuple" = some false by decide +kernel
  | .tuple _ => show kitB "tuple" "tuple" = some true by decide +kernel
  | .dict _ => show kitB "dict" "tuple" = some false by decide +kernel
theorem kit_lst : ∀ d : PyData, kitB (tyN d) "list" = some (isLst d)
  | .none => show kitB "NoneType" "list" = some false by decide +kernel
  | .bool _ => show kitB "bool" "list" = some false by decide +kernel
  | .int _ => show kitB "int" "list" = some false by decide +kernel
  | .str _ => show kitB "str" "list" = some false by decide +kernel
  | .list _ => show kitB "list" "list" = some true by decide +kernel
  | .tuple _ => show kitB "tuple" "list" = some false by decide +kernel
  | .dict _ => show kitB "dict" "list" = some false by decide +kernel
theorem kit_str : ∀ d : PyData, kitB (tyN d) "str" = some (isStr d)
  | .none => show kitB "NoneType" "str" = some false by decide +kernel
  | .bool _ => show kitB "bool" "str" = some false by decide +kernel
  | .int _ => show kitB "int" "str" = some false by decide +kernel
  | .str _ => show kitB "str" "str" = some true by decide +kernel
  | .list _ => show kitB "list" "str" = some false by decide +kernel
  | .tuple _ => show kitB "tuple" "str" = some false by decide +kernel
  | .dict _ => show kitB "dict" "str" = some false by decide +kernel
theorem kit_bool : ∀ d : PyData, kitB (tyN d) "bool" = some (isBl d)
  | .none => show kitB "NoneType" "bool" = some false by decide +kernel
  | .bool _ => show kitB "bool" "bool" = some true by decide +kernel
  | .int _ => show kitB "int" "bool" = some false by decide +kernel
  | .str _ => show kitB "str" "bool" = some false by decide +kernel
  | .list _ => show kitB "list" "bool" = some false by decide +kernel
  | .tuple _ => show kitB "tuple" "bool" = some false by decide +kernel
  | .dict _ => show kitB "dict" "bool" = some false by decide +kernel
theorem kit_int : ∀ d : PyData, kitB (tyN d) "int" = some (isIntB d)
  | .none => show kitB "NoneType" "int" = some false by decide +kernel
  | .bool _ => show kitB "bool" "int" = some true by decide +kernel
  | .int _ => show kitB "int" "int" = some true by decide +kernel
  | .str _ => show kitB "str" "int" = some false by decide +kernel
  | .list _ => show kitB "list" "int" = some false by decide +kernel
  | .tuple _ => show kitB "tuple" "int" = some false by decide +kernel
  | .dict _ => show kitB "dict" "int" = some false by decide +kernel
theorem ite_f {b : Bool} {A B : Prop} (e : b = false) (h : B) : if b = true then A else B := by
  subst e
  exact iteF h
theorem ite_t {b : Bool} {A B : Prop} (e : b = true) (h : A) : if b = true then A else B := by
  subst e
  exact iteT h
theorem ite_nf {b : Bool} {A B : Prop} (e : b = false) (h : A) : if (!b) = true then A else B := by
  subst e
  exact iteT h
theorem ite_nt {b : Bool} {A B : Prop} (e : b = true) (h : B) : if (!b) = true then A else B := by
  subst e
  exact iteF h
section
variable {K : PySem.W.Frag} {tb : List Addr} {H H' : Hp} {v : V} {d : PyData}
theorem ty_L {a : Addr} {xs : List V} (h : SqL K H a xs) : TyX K H (.ref a) (.type "list") := by
  rcases h with (h | ⟨o, h⟩) | ⟨o, its, n, h1, h2, _⟩
  · exact .base (.lst h)
  · exact .base (.frz h)
  · exact .kList h1 h2
theorem ty_T {a : Addr} {xs : List V} (h : SqT K H a xs) : TyX K H (.ref a) (.type "tuple") := by
  rcases h with (h | ⟨o, h⟩) | ⟨o, its, n, h1, h2, _⟩
  · exact .base (.tup h)
  · exact .fTuple h
  · exact .kTuple h1 h2
theorem Dp_ty (h : Dp K H v d) : TyX K H v (.type (tyN d)) := by
  cases h with
  | non => exact .base .non
  | bl b => exact .base (.bl b)
  | int i => exact .base (.int i)
  | str x => exact .base (.str x)
  | lst h _ => exact ty_L h
  | tup h _ => exact ty_T h
mutual
theorem Dp_ext (e : Ext tb [] H H') (hT : Tabs tb H) : ∀ (d : PyData) {v : V}, Dp K H v d → Dp K H' v d
  | .none, _, .non => .non
  | .bool b, _, .bl _ => .bl b
  | .int i, _, .int _ => .int i
  | .str s, _, .str _ => .str s
  | .list ds, _, .lst h a => .lst (e.sqL hT h (by simp)) (DpAll_ext e hT ds a)
  | .tuple ds, _, .tup h a => .tup (e.sqT hT h (by simp)) (DpAll_ext e hT ds a)
theorem DpAll_ext (e : Ext tb [] H H') (hT : Tabs tb H) : ∀ (ds : List PyData) {vs : List V}, DpAll K H vs ds → DpAll K H' vs ds
  | [], _, .nil => .nil
  | d :: ds, _, .cons h t => .cons (Dp_ext e hT d h) (DpAll_ext e hT ds t)
end
theorem DpAll_len : ∀ {vs : List V} {ds : List PyData}, DpAll K H vs ds → vs.length = ds.length
  | _, _, .nil => rfl
  | _, _, .cons _ t => by rw [List.length_cons, List.length_cons, DpAll_len t]
theorem DpAll_get : ∀ {vs : List V} {ds : List PyData} {i : Nat} {v : V}, DpAll K H vs ds → vs[i]? = some v → ∃ d, ds[i]? = some d ∧ Dp K H v d
  | _, _, _, _, .nil, e => by simp at e
  | _, _, 0, _, .cons h _, e => by
    simp at e
    subst e
    exact ⟨_, rfl, h⟩
  | _, _, i + 1, v, .cons _ t, e => by
    obtain ⟨d, h1, h2⟩ := DpAll_get (i := i) (v := v) t (by simpa using e)
    exact ⟨d, by simpa using h1, h2⟩
theorem DpAll_ints : ∀ {vs : List V} {ns : List Int}, DpAll K H vs (ns.map PyData.int) → vs = ns.map V.int
  | _, [], .nil => rfl
  | _, n :: r, .cons (.int _) t => by rw [DpAll_ints t] <;> rfl
theorem DpAll_two {vs : List V} {ds : List PyData} (h : DpAll K H vs ds) (hl : vs.length = 2) : ∃ x0 x1 d0 d1, vs = [x0, x1] ∧ ds = [d0, d1] ∧ Dp K H x0 d0 ∧ Dp K H x1 d1 := by
  cases h with
  | nil => cases hl
  | cons k0 h =>
    cases h with
    | nil => cases hl
    | cons k1 h =>
      cases h with
      | nil => exact ⟨_, _, _, _, rfl, rfl, k0, k1⟩
      | cons _ _ => simp at hl
/-- data, or some dict -/
def AnyD (K : PySem.W.Frag) (H : Hp) (v : V) (d : PyData) : Prop := Dp K H v d ∨ ∃ a kvs, v = .ref a ∧ H a = some (.dK kvs) ∧ d = .dict []
theorem AnyD_ty (h : AnyD K H v d) : TyX K H v (.type (tyN d)) := by
  rcases h with h | ⟨a, kvs, rfl, h, rfl⟩
  · exact Dp_ty h
  · exact .base (.dK h)
theorem AnyD_ext (e : Ext tb [] H H') (hT : Tabs tb H) (h : AnyD K H v d) : AnyD K H' v d := by
  rcases h with h | ⟨a, kvs, h1, h2, h3⟩
  · exact .inl (Dp_ext e hT d h)
  · exact .inr ⟨a, kvs, h1, e.dK hT h2 (by simp), h3⟩
theorem AnyD_tup {ds : List PyData} (h : AnyD K H v (.tuple ds)) : ∃ a vs, v = .ref a ∧ SqT K H a vs ∧ DpAll K H vs ds := by
  rcases h with h | ⟨a, kvs, h1, h2, h3⟩
  · cases h with
    | tup h1 h2 => exact ⟨_, _, rfl, h1, h2⟩
  · cases h3
end
/-! ### what evaluates to a value of which G holds, the tables tb growing -/
section
variable {K : PySem.W.Frag} {tb : List Addr} {σ : L2.St} {H : Hp}
def Gv (tb : List Addr) (te : TE) (σ : L2.St) (H : Hp) (G : Hp → V → Prop) : Prop := ∀ H1, Ext tb [] H H1 → ∀ Q : VK, (∀ v H2, Ext tb [] H1 H2 → G H2 v → Q v H2) → te σ H1 Q
def Ga (tb : List Addr) (ta : TA) (σ : L2.St) (H : Hp) (G : Hp → List V → Prop) : Prop := ∀ H1, Ext tb [] H H1 → ∀ Q : List V → Hp → Prop, (∀ vs H2, Ext tb [] H1 H2 → G H2 vs → Q vs H2) → ta σ H1 Q
abbrev GI (P : Int → Prop) : Hp → V → Prop := fun _ v => ∃ i, v = .int i ∧ P i
abbrev GD (K : PySem.W.Frag) : Hp → V → Prop := fun H v => ∃ d, Dp K H v d
abbrev GAny (K : PySem.W.Frag) : Hp → V → Prop := fun H v => ∃ d, AnyD K H v d
theorem Gv.imp {te : TE} {G G' : Hp → V → Prop} (h : Gv tb te σ H G) (w : ∀ H v, G H v → G' H v) : Gv tb te σ H G' := fun H1 e Q q => h H1 e Q fun v H2 e2 g => q v H2 e2 (w H2 v g)
theorem Gv.any {te : TE} (h : Gv tb te σ H (GD K)) : Gv tb te σ H (GAny K) := h.imp fun _ _ ⟨d, g⟩ => ⟨d, .inl g⟩
theorem Gv.int {te : TE} {P : Int → Prop} (h : Gv tb te σ H (GI P)) : Gv tb te σ H (GD K) := h.imp fun _ _ ⟨i, e, _⟩ => ⟨.int i, e ▸ .int i⟩
theorem gv_var {i : Nat} {v : V} {G : Hp → V → Prop} (h : σ[i]? = some (some v)) (g : ∀ H1, Ext tb [] H H1 → G H1 v) : Gv tb (tVar i) σ H G := fun H1 e Q q => ⟨v, h, q v H1 Ext.refl (g H1 e)⟩
theorem gv_c {v : V} {G : Hp → V → Prop} (g : ∀ H1, G H1 v) : Gv tb (tC v) σ H G := fun H1 _ Q q => q v H1 Ext.refl (g H1)
theorem gv_ci {i : Int} : Gv tb (tC (.int i)) σ H (GD K) := gv_c fun _ => ⟨_, .int i⟩
theorem gv_cn : Gv tb (tC .non) σ H (GD K) := gv_c fun _ => ⟨_, .non⟩
theorem gv_cb {b : Bool} : Gv tb (tC (.bl b)) σ H (GD K) := gv_c fun _ => ⟨_, .bl b⟩
theorem gv_cs {s : Str} : Gv tb (tC (.str s)) σ H (GD K) := gv_c fun _ => ⟨_, .str s⟩
theorem gv_d {i : Nat} {v : V} {d : PyData} (hT : Tabs tb H) (h : σ[i]? = some (some v)) (g : Dp K H v d) : Gv tb (tVar i) σ H (GD K) := gv_var h fun H1 e => ⟨d, Dp_ext e hT d g⟩
theorem gv_i {i : Nat} {n : Int} {P : Int → Prop} (h : σ[i]? = some (some (.int n))) (g : P n) : Gv tb (tVar i) σ H (GI P) := gv_var h fun _ _ => ⟨n, rfl, g⟩
theorem ga_nil {G : Hp → List V → Prop} (g : ∀ H1, G H1 []) : Ga tb tNil σ H G := fun H1 _ Q q => q [] H1 Ext.refl (g H1)
/-- items that are data, n of them -/
abbrev GDs (K : PySem.W.Frag) (n : Nat) : Hp → List V → Prop := fun H vs => vs.length = n ∧ ∃ ds, DpAll K H vs ds
theorem ga_nilD : Ga tb tNil σ H (GDs K 0) := ga_nil fun _ => ⟨rfl, [], .nil⟩
theorem ga_consD {te : TE} {ta : TA} {n : Nat} (hT : Tabs tb H) (h : Gv tb te σ H (GD K)) (t : Ga tb ta σ H (GDs K n)) : Ga tb (tCons te ta) σ H (GDs K (n + 1)) := fun H1 e Q q =>
  h H1 e _ fun v H2 e2 ⟨d, hd⟩ => t H2 (e.trans e2) _ fun vs H3 e3 ⟨hl, ds, hds⟩ => q (v :: vs) H3 (e2.trans e3) ⟨by rw [List.length_cons, hl], d :: ds, .cons (Dp_ext e3 ((e.trans e2).tabs hT) d hd) hds⟩
abbrev GAs (K : PySem.W.Frag) (n : Nat) : Hp → List V → Prop := fun H vs => vs.length = n ∧ ∀ v ∈ vs, ∃ d, AnyD K H v d
theorem ga_nilA : Ga tb tNil σ H (GAs K 0) := ga_nil fun _ => ⟨rfl, fun v hv => by cases hv⟩
theorem ga_consA {te : TE} {ta : TA} {n : Nat} (hT : Tabs tb H) (h : Gv tb te σ H (GAny K)) (t : Ga tb ta σ H (GAs K n)) : Ga tb (tCons te ta) σ H (GAs K (n + 1)) := fun H1 e Q q =>
  h H1 e _ fun v H2 e2 ⟨d, hd⟩ => t H2 (e.trans e2) _ fun vs H3 e3 ⟨hl, hds⟩ => q (v :: vs) H3 (e2.trans e3) ⟨by rw [List.length_cons, hl], fun x hx => by
    rcases List.mem_cons.mp hx with rfl | hx
    · exact ⟨d, AnyD_ext e3 ((e.trans e2).tabs hT) hd⟩
    · exact hds x hx⟩
theorem gv_tup {ta : TA} {n : Nat} (hT : Tabs tb H) (hn : n ≤ 100000) (h : Ga tb ta σ H (GDs K n)) : Gv tb (tTup ta) σ H (GD K) := fun H1 e Q q =>
  h H1 e _ fun vs H2 e2 ⟨hl, ds, hds⟩ => ⟨by rw [hl]; exact line_of hn, fun p np => by
    have e3 : Ext tb [] H2 (upd H2 p (.tup vs)) := Ext.new ((e.trans e2).tabs hT) np
    exact q _ _ (e2.trans e3) ⟨.tuple ds, .tup (SqT.of upd_same) (DpAll_ext e3 ((e.trans e2).tabs hT) ds hds)⟩⟩
theorem gv_lst {ta : TA} {n : Nat} (hT : Tabs tb H) (hn : n ≤ 100000) (h : Ga tb ta σ H (GDs K n)) : Gv tb (tLst ta) σ H (GD K) := fun H1 e Q q =>
  h H1 e _ fun vs H2 e2 ⟨hl, ds, hds⟩ => ⟨by rw [hl]; exact line_of hn, fun p np => by
    have e3 : Ext tb [] H2 (upd H2 p (.lst vs)) := Ext.new ((e.trans e2).tabs hT) np
    exact q _ _ (e2.trans e3) ⟨.list ds, .lst (SqL.of upd_same) (DpAll_ext e3 ((e.trans e2).tabs hT) ds hds)⟩⟩
theorem gv_op {ta te : TE} {g : Int → Int → Int} {P P1 P2 : Int → Prop} (ha : Gv tb ta σ H (GI P1)) (hb : Gv tb te σ H (GI P2)) (hp : ∀ i j, P1 i → P2 j → P (g i j)) : Gv tb (tOp (rI0 fun i j => .int (g i j)) ta te) σ H (GI P) := fun H1 e Q q =>
  ha H1 e _ fun _ H2 e2 ⟨i, ei, hi⟩ => hb H2 (e.trans e2) _ fun _ H3 e3 ⟨j, ej, hj⟩ => ⟨i, j, ei, ej, q _ H3 (e2.trans e3) ⟨_, rfl, hp i j hi hj⟩⟩
theorem gv_opC {ta te : TE} {C : Int → Int → Prop} {g : Int → Int → Int} {P P1 P2 : Int → Prop} (ha : Gv tb ta σ H (GI P1)) (hb : Gv tb te σ H (GI P2)) (hc : ∀ i j, P1 i → P2 j → C i j) (hp : ∀ i j, P1 i → P2 j → P (g i j)) : Gv tb (tOp (rI C fun i j => .int (g i j)) ta te) σ H (GI P) := fun H1 e Q q =>
  ha H1 e _ fun _ H2 e2 ⟨i, ei, hi⟩ => hb H2 (e.trans e2) _ fun _ H3 e3 ⟨j, ej, hj⟩ => ⟨i, j, ei, ej, hc i j hi hj, q _ H3 (e2.trans e3) ⟨_, rfl, hp i j hi hj⟩⟩
theorem gv_k {n : Int} {P : Int → Prop} (h : P n) : Gv tb (tC (.int n)) σ H (GI P) := gv_c fun _ => ⟨n, rfl, h⟩
end
/-! ### tuples joined, cut: somewhere there is such a tuple -/
section
variable {K : PySem.W.Frag} {tb : List Addr} {H : Hp} {a b : Addr} {xs ys : List V} {Q : VK}
theorem cat_rd (hT : Tabs tb H) (hx : SqT K H a xs) (hy : SqT K H b ys) (hz : xs.length + ys.length ≤ 100000) (q : ∀ p H', Ext tb [] H H' → SqT K H' p (xs ++ ys) → Q (.ref p) H') : rCatA K (.ref a) (.ref b) H Q := by
  refine ⟨a, b, xs, ys, rfl, rfl, hx, hy, line_of hz, fun e => ?_, fun _ e => ?_, fun _ _ p np => ?_⟩
  · subst e
    exact q b H Ext.refl hy
  · subst e
    refine q a H Ext.refl ?_
    rw [List.append_nil]
    exact hx
  · exact q p _ (Ext.new hT np) (SqT.of upd_same)
theorem cut_rd {lo hi : Option Int} (hT : Tabs tb H) (hx : SqT K H a xs) (q : ∀ p H', Ext tb [] H H' → SqT K H' p (cutV xs lo hi) → Q (.ref p) H') : rSlA K (.ref a) lo hi H Q := by
  refine ⟨a, xs, rfl, hx, fun hw => ?_, fun _ p np => ?_⟩
  · refine q a H Ext.refl ?_
    have : cutV xs lo hi = xs := by
      unfold cutV
      rw [hw.1, hw.2, List.drop_zero, Nat.sub_zero, List.take_length]
    rw [this]
    exact hx
  · exact q p _ (Ext.new hT np) (SqT.of upd_same)
end
theorem cut_to {α : Type} (f : α → V) (l : List α) (n : Nat) (h : n ≤ l.length) : cutV (l.map f) none (some (n : Int)) = (l.take n).map f := by
  unfold cutV
  rw [HT.sIx_nat, HT.sIx_none, List.drop_zero, Nat.sub_zero, List.length_map, List.map_take, Nat.min_eq_left h]
theorem cut_from {α : Type} (f : α → V) (l : List α) (n : Nat) : cutV (l.map f) (some (n : Int)) none = (l.drop n).map f := by
  unfold cutV
  rw [HT.sIx_nat, HT.sIx_none, List.length_map, List.map_drop]
  rcases Nat.le_total n l.length with h | h
  · rw [Nat.min_eq_left h]
    exact List.take_of_length_le (by rw [List.length_drop, List.length_map]; exact Nat.le_refl _)
  · rw [Nat.min_eq_right h, Nat.sub_self, List.take_zero]
    symm
    exact List.drop_eq_nil_of_le (by rw [List.length_map]; exact h)
end DT

set_option Elab.async false
set_option linter.all false
set_option maxRecDepth 100000
set_option maxHeartbeats 2000000
/-! data with dicts anywhere in it; such a thing == a text, in a row of texts -/
namespace PySem
namespace SeqAt
open PySem.AutoSeq1 (wpAny_loadPart')
open PySem.MeetsSeq PySem.MeetsSeq2 PySem.MeetsSeq3
theorem dict_declines_str (l : Addr) (es : Array DictEntry) (ep : Nat) (dd : Option Addr) (sl : Array (Option Value)) (b : Str) (u : Tok) :
    Meets (Builtin.«dict.__eq__» ⟨[.ref l, .str b u], []⟩) (fun _ R s => s.heap.get? l = some { cls := .type "dict", dict := dd, data := .dict es ep, slots := sl } ∧ R (.ok (.ret .notImplemented)) s) :=
  .of_wp fun prog w A R s h => by obtain ⟨hp, g, d, tk, os⟩ := s; obtain ⟨hl, h⟩ := h; have f1 := F.sub_str_dict; wp_walk using wpAny_loadPart' hl, wpAny_load hl; exact ⟨_, rfl, h⟩
theorem str_declines_dict (b : Str) (u : Tok) (l : Addr) (es : Array DictEntry) (ep : Nat) (dd : Option Addr) (sl : Array (Option Value)) :
    Meets (Builtin.«str.__eq__» ⟨[.str b u, .ref l], []⟩) (fun _ R s => s.heap.get? l = some { cls := .type "dict", dict := dd, data := .dict es ep, slots := sl } ∧ R (.ok (.ret .notImplemented)) s) :=
  .of_wp fun prog w A R s h => by obtain ⟨hp, g, d, tk, os⟩ := s; obtain ⟨hl, h⟩ := h; wp_walk using wpAny_loadPart' hl, wpAny_load hl; exact ⟨_, rfl, h⟩
section
variable {A : Around} {s : Shared}
theorem Rc_dict_str {l : Addr} {es : Array DictEntry} {ep : Nat} {dd : Option Addr} {sl : Array (Option Value)} (b : Str) (u : Tok) (ho : s.heap.get? l = some { cls := .type "dict", dict := dd, data := .dict es ep, slots := sl }) (hu : A.units < cLine) : RcAt A s (.ref l) (.str b u) false := fun prog w E Q h => by
  exact rc_eq_decline_or (k := false) ⟨_, ho, rfl⟩ (typeIs_str s b u) (by decide) F.sub_str_dict F.slot_dict_eq F.slot_str_eq_refl
    (fun _ hq => call_meets F.slot_dict_eq ⟨_, ho, rfl⟩ F.entry_dict_eq (F.args_dict_eq_2 _ _) (dict_declines_str l es ep dd sl b u) ⟨ho, hq⟩)
    (fun _ hq => call_meets F.slot_str_eq_refl (typeIs_str s b u) F.entry_str_eq (F.args_str_eq_2 _ _) (str_declines_dict b u l es ep dd sl) ⟨ho, hq⟩)
    (fun _ hq => wpAny_of_eq (rfl : isSame (.ref l) (.str b u) = pure false) hq) (.inr hu) h
theorem Rc_str_dict {l : Addr} {es : Array DictEntry} {ep : Nat} {dd : Option Addr} {sl : Array (Option Value)} (b : Str) (u : Tok) (ho : s.heap.get? l = some { cls := .type "dict", dict := dd, data := .dict es ep, slots := sl }) (hu : A.units < cLine) : RcAt A s (.str b u) (.ref l) false := fun prog w E Q h => by
  exact rc_eq_decline_or (k := false) (typeIs_str s b u) ⟨_, ho, rfl⟩ (by decide) F.sub_dict_str F.slot_str_eq F.slot_dict_eq_refl
    (fun _ hq => call_meets F.slot_str_eq (typeIs_str s b u) F.entry_str_eq (F.args_str_eq_2 _ _) (str_declines_dict b u l es ep dd sl) ⟨ho, hq⟩)
    (fun _ hq => call_meets F.slot_dict_eq_refl ⟨_, ho, rfl⟩ F.entry_dict_eq (F.args_dict_eq_2 _ _) (dict_declines_str l es ep dd sl b u) ⟨ho, hq⟩)
    (fun _ hq => wpAny_of_eq (rfl : isSame (.str b u) (.ref l) = pure false) hq) (.inr hu) h
theorem Eq_str_dict {l : Addr} {es : Array DictEntry} {ep : Nat} {dd : Option Addr} {sl : Array (Option Value)} (b : Str) (u : Tok) (ho : s.heap.get? l = some { cls := .type "dict", dict := dd, data := .dict es ep, slots := sl }) (hu : A.units < cLine) : EqAt A s (.str b u) (.ref l) false := fun prog w E Q h => by
  unfold eqBool
  refine wpAny_holding ?_
  refine wpAny_ite_split (fun hab => absurd (eq_of_beq hab) nofun) (fun _ => ?_)
  exact wpAny_bind (Rc_str_dict b u ho hu prog w E _ (wpAny_truthy_bool h))
end
end SeqAt
end PySem
namespace DT
open PySem PySem.Spec PyProof.Rows L2 HK
mutual
inductive Rp (K : PySem.W.Frag) (H : Hp) : V → PyData → Prop
  | non : Rp K H .non .none
  | bl (b : Bool) : Rp K H (.bl b) (.bool b)
  | int (i : Int) : Rp K H (.int i) (.int i)
  | str (x : Str) : Rp K H (.str x) (.str x)
  | lst {a : Addr} {xs : List V} {ds : List PyData} : SqL K H a xs → RpAll K H xs ds → Rp K H (.ref a) (.list ds)
  | tup {a : Addr} {xs : List V} {ds : List PyData} : SqT K H a xs → RpAll K H xs ds → Rp K H (.ref a) (.tuple ds)
  | dct {a : Addr} {kvs : List (Key × V)} : H a = some (.dK kvs) → Rp K H (.ref a) (.dict [])
inductive RpAll (K : PySem.W.Frag) (H : Hp) : List V → List PyData → Prop
  | nil : RpAll K H [] []
  | cons {v : V} {vs : List V} {d : PyData} {ds : List PyData} : Rp K H v d → RpAll K H vs ds → RpAll K H (v :: vs) (d :: ds)
end
section
variable {K : PySem.W.Frag} {tb : List Addr} {H H' : Hp} {v : V} {d : PyData}
theorem Rp_ty (h : Rp K H v d) : TyX K H v (.type (tyN d)) := by
  cases h with
  | non => exact .base .non
  | bl b => exact .base (.bl b)
  | int i => exact .base (.int i)
  | str x => exact .base (.str x)
  | lst h _ => exact ty_L h
  | tup h _ => exact ty_T h
  | dct h => exact .base (.dK h)
mutual
theorem Rp_ext (e : Ext tb [] H H') (hT : Tabs tb H) : ∀ (d : PyData) {v : V}, Rp K H v d → Rp K H' v d
  | .none, _, .non => .non
  | .bool b, _, .bl _ => .bl b
  | .int i, _, .int _ => .int i
  | .str s, _, .str _ => .str s
  | .list ds, _, .lst h a => .lst (e.sqL hT h (by simp)) (RpAll_ext e hT ds a)
  | .tuple ds, _, .tup h a => .tup (e.sqT hT h (by simp)) (RpAll_ext e hT ds a)
  | .dict _, _, .dct h => .dct (e.dK hT h (by simp))
theorem RpAll_ext (e : Ext tb [] H H') (hT : Tabs tb H) : ∀ (ds : List PyData) {vs : List V}, RpAll K H vs ds → RpAll K H' vs ds
  | [], _, .nil => .nil
  | d :: ds, _, .cons h t => .cons (Rp_ext e hT d h) (RpAll_ext e hT ds t)
end
theorem RpAll_len : ∀ {vs : List V} {ds : List PyData}, RpAll K H vs ds → vs.length = ds.length
  | _, _, .nil => rfl
  | _, _, .cons _ t => by rw [List.length_cons, List.length_cons, RpAll_len t]
theorem RpAll_get : ∀ {vs : List V} {ds : List PyData} {i : Nat} {v : V}, RpAll K H vs ds → vs[i]? = some v → ∃ d, ds[i]? = some d ∧ Rp K H v d
  | _, _, _, _, .nil, e => by simp at e
  | _, _, 0, _, .cons h _, e => by
    simp at e
    subst e
    exact ⟨_, rfl, h⟩
  | _, _, i + 1, v, .cons _ t, e => by
    obtain ⟨d, h1, h2⟩ := RpAll_get (i := i) (v := v) t (by simpa using e)
    exact ⟨d, by simpa using h1, h2⟩
theorem RpAll_app : ∀ {xs ys : List V} {cs ds : List PyData}, RpAll K H xs cs → RpAll K H ys ds → RpAll K H (xs ++ ys) (cs ++ ds)
  | _, _, _, _, .nil, t => t
  | _, _, _, _, .cons h r, t => .cons h (RpAll_app r t)
theorem RpAll_take : ∀ {xs : List V} {cs : List PyData} (k : Nat), RpAll K H xs cs → RpAll K H (xs.take k) (cs.take k)
  | _, _, 0, _ => .nil
  | _, _, _ + 1, .nil => .nil
  | _, _, k + 1, .cons h r => .cons h (RpAll_take k r)
theorem RpAll_drop : ∀ {xs : List V} {cs : List PyData} (k : Nat), RpAll K H xs cs → RpAll K H (xs.drop k) (cs.drop k)
  | _, _, 0, h => h
  | _, _, _ + 1, .nil => .nil
  | _, _, k + 1, .cons _ r => RpAll_drop k r
theorem Rp_tup {ds : List PyData} (h : Rp K H v (.tuple ds)) : ∃ a vs, v = .ref a ∧ SqT K H a vs ∧ RpAll K H vs ds := by
  cases h with
  | tup h1 h2 => exact ⟨_, _, rfl, h1, h2⟩
theorem Rp_strs : ∀ ss : List Str, RpAll K H (ss.map V.str) (ss.map PyData.str)
  | [] => .nil
  | s :: r => .cons (.str s) (Rp_strs r)
theorem Rp_ints : ∀ ss : List Int, RpAll K H (ss.map V.int) (ss.map PyData.int)
  | [] => .nil
  | s :: r => .cons (.int s) (Rp_ints r)
end
/-! ### x == 'a', x in ('a', ..) -/
def eqS (d : PyData) (s : Str) : Bool := match d with
  | .str z => z == s
  | _ => false
section
variable {X : Cx}
theorem eq_str {pins : List (Addr × Obj)} {σ : L2.St} {H : Hp} {s : Shared} {x : V} {v : Value} {d : PyData} (I : L2.Inv X pins σ H s) (hu : X.A.units + 64 < cLine) (h : Rp X.K H x d) (r : RelV x v) (b : Str) (u : Tok) : SeqAt.EqAt X.A.in1 s (.str b u) v (eqS d b) := by
  have hu1 : X.A.in1.units < cLine := by show X.A.units + 1 < cLine; omega
  cases h with
  | non =>
    cases (show v = Value.none from r)
    exact SeqAt.EqAt.str_none b u
  | bl k =>
    cases (show v = Value.bool k from r)
    exact SeqAt.EqAt.str_bool b u k
  | int i =>
    obtain ⟨t, rfl⟩ := (show ∃ t, v = Value.int i t from r)
    exact SeqAt.EqAt.str_int b u i t
  | str z =>
    obtain ⟨t, rfl⟩ := (show ∃ t, v = Value.str z t from r)
    have e : eqS (.str z) b = (b == z) := by
      show (z == b) = (b == z)
      by_cases h : z = b
      · subst h
        rfl
      · have h1 : (z == b) = false := by simpa using h
        have h2 : (b == z) = false := by simpa using fun q => h q.symm
        rw [h1, h2]
    rw [e]
    exact SeqAt.EqAt.str_str b u z t
  | @lst a xs ds hq _ =>
    cases (show v = Value.ref a from r)
    obtain ⟨its, _, pl, _⟩ := I.list hq
    exact SeqAt.EqAt.str_list b u pl.isList hu1
  | @tup a xs ds hq _ =>
    cases (show v = Value.ref a from r)
    obtain ⟨its, _, pl, _⟩ := I.tuple hq
    exact SeqAt.EqAt.str_tuple b u pl hu1
  | @dct a kvs hq =>
    cases (show v = Value.ref a from r)
    obtain ⟨_, _, vs, _, hd⟩ := I.hok a _ hq
    obtain ⟨o, es, ep, ho, hx, hdd, _⟩ := hd
    obtain ⟨cls, dd, dat, sl⟩ := o
    obtain ⟨hc, hdn, _⟩ := hx
    simp only at hc hdd
    subst hc hdd
    exact SeqAt.Eq_str_dict b u ho hu1
def rInS (K : PySem.W.Frag) : R2 := fun x y H Q => ∃ (p : Addr) (ss : List Str) (d : PyData), y = .ref p ∧ SqT K H p (ss.map V.str) ∧ Rp K H x d ∧ Q (.bl (ss.any (eqS d))) H
theorem mem_strs {pins : List (Addr × Obj)} {σ : L2.St} {H : Hp} {s : Shared} {x : V} {v : Value} {d : PyData} (I : L2.Inv X pins σ H s) (hu : X.A.units + 64 < cLine) (h : Rp X.K H x d) (r : RelV x v) :
    ∀ {ss : List Str} {us : List Value}, Vals (ss.map V.str) us → (∀ u ∈ us, SeqAt.EqAt X.A.in1 s u v (match u with | .str b _ => eqS d b | _ => false)) ∧ us.any (fun u => match u with | .str b _ => eqS d b | _ => false) = ss.any (eqS d)
  | [], _, .nil => ⟨fun u hm => (by cases hm), rfl⟩
  | b :: ss, _, .cons (⟨t, rfl⟩) tl => by
    obtain ⟨h1, h2⟩ := mem_strs I hu h r (ss := ss) tl
    refine ⟨fun u hu' => ?_, ?_⟩
    · rcases List.mem_cons.mp hu' with rfl | hu'
      · exact eq_str I hu h r b t
      · exact h1 u hu'
    · rw [List.any_cons, List.any_cons, h2]
theorem q_inS {K : PySem.W.Frag} (hK : X.K = K) (hu : X.A.units + 64 < cLine) : OpR X (compareOp .In) (rInS K) := by
  subst hK
  intro pins s σ H x y v u Q I rx ry h
  obtain ⟨p, ss, d, rfl, hq, hd, q⟩ := h
  cases ry
  obtain ⟨its, r, pl, hz⟩ := I.tuple hq
  obtain ⟨h1, h2⟩ := mem_strs I hu hd rx (ss := ss) r
  refine SeqAt.in_tupleAt (fun u => match u with | .str b _ => eqS d b | _ => false) pl (fun w hw => h1 w (by simpa using hw)) ⟨.bl _, H, I, rfl, ?_⟩
  have e : its.toArray.any (fun u => match u with | .str b _ => eqS d b | _ => false) = ss.any (eqS d) := by
    rw [← h2]
    simp
  rw [e]
  exact q
theorem rc_str {pins : List (Addr × Obj)} {σ : L2.St} {H : Hp} {s : Shared} {x : V} {v : Value} {d : PyData} (I : L2.Inv X pins σ H s) (hu : X.A.units + 64 < cLine) (h : Rp X.K H x d) (r : RelV x v) (b : Str) (u : Tok) : SeqAt.RcAt X.A s v (.str b u) (eqS d b) := by
  have hu1 : X.A.units < cLine := by omega
  cases h with
  | non =>
    cases (show v = Value.none from r)
    exact SeqAt.RcAt.none_str b u
  | bl k =>
    cases (show v = Value.bool k from r)
    exact SeqAt.RcAt.bool_str k b u
  | int i =>
    obtain ⟨t, rfl⟩ := (show ∃ t, v = Value.int i t from r)
    exact SeqAt.RcAt.int_str i t b u
  | str z =>
    obtain ⟨t, rfl⟩ := (show ∃ t, v = Value.str z t from r)
    exact SeqAt.RcAt.str_str z t b u
  | @lst a xs ds hq _ =>
    cases (show v = Value.ref a from r)
    obtain ⟨its, _, pl, _⟩ := I.list hq
    exact SeqAt.RcAt.list_str b u pl.isList hu1
  | @tup a xs ds hq _ =>
    cases (show v = Value.ref a from r)
    obtain ⟨its, _, pl, _⟩ := I.tuple hq
    exact SeqAt.RcAt.tuple_str b u pl hu1
  | @dct a kvs hq =>
    cases (show v = Value.ref a from r)
    obtain ⟨_, _, vs, _, hd⟩ := I.hok a _ hq
    obtain ⟨o, es, ep, ho, hx, hdd, _⟩ := hd
    obtain ⟨cls, dd, dat, sl⟩ := o
    obtain ⟨hc, hdn, _⟩ := hx
    simp only at hc hdd
    subst hc hdd
    exact SeqAt.Rc_dict_str b u ho hu1
theorem q_repT {K : PySem.W.Frag} (hK : X.K = K) : OpR X (binaryOp .Mult) (rRepT K) := hK ▸ op_repT
def rEqS (K : PySem.W.Frag) : R2 := fun x y H Q => ∃ (b : Str) (d : PyData), y = .str b ∧ Rp K H x d ∧ Q (.bl (eqS d b)) H
theorem q_eqS {K : PySem.W.Frag} (hK : X.K = K) (hu : X.A.units + 64 < cLine) : OpR X (compareOp .Eq) (rEqS K) := by
  subst hK
  intro pins s σ H x y v u Q I rx ry h
  obtain ⟨b, d, rfl, hd, q⟩ := h
  obtain ⟨t, rfl⟩ := ry
  exact rc_str I hu hd rx b t X.prog X.w X.xe _ ⟨.bl _, H, I, rfl, q⟩
end
end DT

set_option Elab.async false
set_option linter.all false
set_option maxRecDepth 100000
set_option maxHeartbeats 1000000
/-! sep.join(reversed(a list of texts)) -/
namespace RJ
open PySem PySem.Spec PyProof.Rows
section
variable {prog : Program} {w : World} {A : Around} {E : Value → Shared → Prop} {s : Shared}
theorem join_rev {x : Str} {t : Tok} {ys : List Str} {it l : Addr} {items : Array Value} {Q : Value → Shared → Prop} (hh : A.handled = none) (hit : s.heap.IsRevIter it l ((items.size : Int) - 1)) (hl : s.heap.IsList l items) (hne : l ≠ it) (hn : items.size ≤ sizeLine)
    (hP : ∀ acc : Array Value, ItemsOf (fun i v => items[items.size - 1 - i]? = some v) acc items.size → StrsAre acc.toList ys) (hok : (ys.map (·.length)).sum + ys.length * x.length ≤ 16777216)
    (hq : ∀ (h' : Heap) (tk : Nat), (∀ b o, b ≠ it → s.heap.get? b = some o → h'.get? b = some o) → ∀ t', Q (.str (Txt.join x ys) t') { s with heap := h', toks := tk }) :
    wpAny (model prog w) A (call (.builtin "str.join") [.str x t, .ref it]) Q E s := by
  refine wpAny_call (codeAny_call_builtin F.slot_str_join.plain F.entry_str_join (F.slot_str_join.check _ _ _ _ _ _ _ _ (typeIs_str _ _ _) (F.args_str_join_2 _ _) ?_))
  rw [join_tree_other]
  refine wpAny_bind (wpAny_typeOf hit.typeIs ?_)
  show wpAny _ A.in1 ((pyIter (.ref it)).tryCatch _ >>= fun it => collect it >>= fun items => joinTail x items) _ _ s
  refine wpAny_bind (wpAny_tryCatch (wpAny_pyIter_revIter hit ?_))
  refine wpAny_bind (RT.collect_rev (A := A.in1) hh hit hl hne hn fun h' tk acc hk hacc => ?_)
  obtain ⟨ll, hl', ht⟩ := strsAre_values (hP acc hacc)
  subst ht
  rw [hl']
  have hok' := joinOk_of hok
  unfold JoinOk at hok'
  rw [Bool.not_eq_true'] at hok'
  have g : Gives (joinTail x (strValues ll)) (joinMade x ll) := by
    have g0 := gives_joinTail x ll hok'
    cases ll with
    | nil => exact g0
    | cons p r => cases r with
      | nil => exact g0
      | cons q r' => exact g0
  exact g prog w A (wants Q E) _ (post_join ll ⟨joinFit_length hok', fun t' k => hq h' k hk t'⟩)
end
open L2
def tJoinRev (K : PySem.W.Frag) (to te : TE) : TE := fun σ H Q => to σ H fun x H1 => (∃ a, x = .str a) ∧ te σ H1 fun y H2 => ∃ (a : Str) (q : Addr) (ys : List Str),
  x = .str a ∧ y = .ref q ∧ SqL K H2 q (ys.map V.str) ∧ (ys.map (·.length)).sum + ys.length * a.length ≤ 16777216 ∧ Q (.str (Txt.join a ys.reverse)) H2
theorem strs_of : ∀ {ys : List Str} {us : List Value}, Vals (ys.map V.str) us → StrsAre us ys
  | [], _, .nil => .nil
  | y :: ys, _, .cons (⟨t, rfl⟩) tl => .cons y t (strs_of tl)
section
variable {X : Cx}
theorem pe_joinRev {o e : Expr} {to te : TE} {apos pos p2 pos2 : Pos} (hc : X.calm = true) (ho : PE X o to) (hg2 : Gl X "reversed") (hm2 : X.mg "reversed" = none) (he : PE X e te)
    (hs : starEach [e] X.env = (false, eval e X.env) :: starEach [] X.env := by rfl)
    (hs1 : starEach [.Call (.Name "reversed" p2) [e] [] pos2] X.env = [(false, eval (.Call (.Name "reversed" p2) [e] [] pos2) X.env)] := by rfl)
    (hbase : attributeBase o "join" X.env (eval o X.env) = eval o X.env := by rfl) (hline : (apos.endLine == pos.line) = true := by rfl) :
    PE X (.Call (.Attribute o "join" apos) [.Call (.Name "reversed" p2) [e] [] pos2] [] pos) (tJoinRev X.K to te) := by
  refine ⟨fun pins s σ H Q I h => ?_⟩
  refine PySem.Call_method1 hbase hs1 hline (thn (ho.run pins s σ H _ I h) fun v s1 ⟨x, H1, I1, r1, q1⟩ => ?_)
  obtain ⟨⟨a, rfl⟩, q1⟩ := q1
  obtain ⟨t, rfl⟩ := _root_.id r1
  refine ⟨"str", _, F.plainAttrs_str, F.slot_str_join, F.type_str_join, typeIs_str _ _ _, (fun _ e => nomatch e), Calls.callWith_builtin rfl (Calls.evalArgs_plain (Calls.spliced_cons ?_))⟩
  refine Call_ (ld_blt I1 hg2 hm2 PyProof.Rows.boot_reversed (PyProof.Rows.callWith_type1 (args_cons (thn (he.run pins s1 σ H1 _ I1 q1) fun u s2 ⟨y, H2, I2, r2, q2⟩ => args_nil ?_) hs) hs rfl))
  obtain ⟨a', q, ys, ea, rfl, hq, hz, q3⟩ := q2
  cases ea
  obtain rfl : u = Value.ref q := r2
  obtain ⟨its, rv, p', hsz⟩ := I2.list hq
  refine call_reversed_list p'.isList (Calls.spliced_nil ?_)
  have k0 : ∀ b o, s2.heap.get? b = some o → (s2.heap.push (revObj q ((its.toArray.size : Int) - 1))).get? b = some o := fun b o e => Heap.get?_push_of_some _ e
  have I3 : Inv X pins σ H2 { s2 with heap := s2.heap.push (revObj q ((its.toArray.size : Int) - 1)) } := I2.kept (t' := s2.toks) k0
  obtain ⟨f0, f1, f2, f3, f4, f5⟩ := I2.fpOk (H' := H2) (b := s2.heap.objs.size) (Nat.le_refl _) (I2.hok.fresh (Nat.le_refl _))
  have hl := p'.isList
  obtain ⟨ol, hol, _⟩ := id hl
  have hne : q ≠ s2.heap.objs.size := Nat.ne_of_lt (Heap.lt_size hol)
  have hn : its.toArray.size ≤ sizeLine := by rw [List.size_toArray, ← rv.length]; exact hsz
  refine join_rev (s := { s2 with heap := s2.heap.push (revObj q ((its.toArray.size : Int) - 1)) }) (ys := ys.reverse) (I2.ok.hd hc) ⟨_, Heap.get?_push_size _ rfl, rfl, rfl⟩ (hl.push _) hne hn (fun acc hacc => ?_) ?_ fun h' tk hk t' => ?_
  · have := RT.vals_rev rv hacc
    rw [← List.map_reverse] at this
    exact strs_of this
  · rw [List.map_reverse, List.sum_reverse, List.length_reverse]
    exact hz
  · exact ⟨.str _, H2, I3.turned (t' := tk) (fun b o hb e => hk b o hb e) f0 f1 f3 f4 f5, ⟨t', rfl⟩, q3⟩
theorem q_joinRev {K : PySem.W.Frag} {o e : Expr} {to te : TE} {apos pos p2 pos2 : Pos} (hK : X.K = K) (hc : X.calm = true) (ho : PE X o to) (hg2 : Gl X "reversed") (hm2 : X.mg "reversed" = none) (he : PE X e te)
    (hs : starEach [e] X.env = (false, eval e X.env) :: starEach [] X.env := by rfl)
    (hs1 : starEach [.Call (.Name "reversed" p2) [e] [] pos2] X.env = [(false, eval (.Call (.Name "reversed" p2) [e] [] pos2) X.env)] := by rfl)
    (hbase : attributeBase o "join" X.env (eval o X.env) = eval o X.env := by rfl) (hline : (apos.endLine == pos.line) = true := by rfl) :
    PE X (.Call (.Attribute o "join" apos) [.Call (.Name "reversed" p2) [e] [] pos2] [] pos) (tJoinRev K to te) := hK ▸ pe_joinRev hc ho hg2 hm2 he hs hs1 hbase hline
end
/-! x *= y, ints -/
def ipM : TIp := fun x y H Q => ∃ i j, x = .int i ∧ y = .int j ∧ CMul i j ∧ Q (.int (i * j)) H
theorem ip_mul {X : Cx} : PIp X .Mult ipM := by
  intro pins s σ H x y v u Q I r1 r2 h
  obtain ⟨i, j, e1, e2, hc, q⟩ := h
  subst e1; subst e2
  obtain ⟨t, rfl⟩ := r1
  obtain ⟨t', rfl⟩ := r2
  exact imul_int ⟨.int _, H, I.tok _, ⟨_, rfl⟩, q⟩ hc.ok
/-! zip of two lists or two tuples, K told -/
theorem q_zipA {X : Cx} {K : PySem.W.Frag} {e e2 : Expr} {ta : TA} {p pos tpos : Pos} {elts : List Expr} {kk : Nat} (hK : X.K = K) (hg : Gl X "zip") (hm : X.mg "zip" = none) (ha : PA X [e, e2] ta)
    (hs : starEach [e, e2] X.env = (false, eval e X.env) :: starEach [e2] X.env := by rfl) (hpl : (backTo pos (starEach [e2] X.env)).any (·.1) = false := by rfl) :
    PI X (.Tuple elts kk tpos) (.Call (.Name "zip" p) [e, e2] [] pos) (RZ.iZipA K ta) := hK ▸ RZ.pi_zipA hg hm ha hs hpl
theorem q_pgT {X : Cx} {K : PySem.W.Frag} {es : List Expr} {k : Nat} {t : TGs} {n : Nat} {pos : Pos} (hK : X.K = K) (hc : X.calm = true) (h : PGs X es t)
    (hn : (assignEach es X.env).length = n := by rfl) (hst : (assignEach es X.env).findIdx? (·.1) = none := by rfl) : PG X (.Tuple es k pos) (gTup K n t) := hK ▸ pg_tup hc h hn hst
end RJ

set_option Elab.async false
set_option linter.all false
set_option maxRecDepth 100000
set_option maxHeartbeats 2000000
/-! own errors whose __init__ says super().__init__(text) -/
namespace HK
open PySem PySem.Spec PyProof.Rows L2
/-- a def whose body is super().__init__(text) -/
structure SupSh (st : Stmt) (p2 p3 : Pos) : Prop where
  body : ∃ (p0 p1 p4 pc : Pos) (txt : Str) (j : Nat), defBody st = [.Expr (.Call (.Attribute (.Call (.Name "super" p0) [] [] p1) "__init__" p2) [.Constant (.str txt) j pc] [] p3) p4]
  line : (p2.endLine == p3.line) = true
  binds : ∀ (qual : Str) (kV doc pm : Value) (an : Option Addr) (cd ct : Value) (cc : Addr) (s : Shared) (u : Value), BindsTo s (PySem.W.ksFn "__init__" qual (defArgs st) (defBody st) (defScope st) .none kV doc pm an cd ct cc) ⟨[u], []⟩ [("self", u)]
  ar : ∃ ar, ((defArgs st).posonlyargs ++ (defArgs st).args).head? = some ar ∧ ar.arg = "self"
  cell : ∀ x ∈ (defScope st).names, x.2 ≠ .cell
  co : (defScope st).isCoroutine = false
  gen : (defScope st).isGenerator = false
  kind : (defScope st).kind = .function
  su : (defScope st).names.lookup ("super" : Str) = some .globalImplicit
  cl : (defScope st).names.lookup ("__class__" : Str) = some .free
  se : (defScope st).names.lookup ("self" : Str) = some .local
/-- the __init__ of the class C: super().__init__(text), over ValueError -/
structure InitS (P : Program) (K : PySem.W.Frag) (C fI : Addr) : Prop where
  i : PySem.W.findIn K (.ref C) "__init__" = some (some (.ref fI))
  ti : PySem.W.typeIn K (.ref fI) = some (.type "function")
  ex : ∃ (cc cda : Addr) (st : Stmt) (p2 p3 : Pos) (qual : Str) (oc kV doc pm ct : Value) (od an : Option Addr) (osl : Array (Option Value)) (ccl : Value) (cdd : Option Addr) (vs : Array Value) (ccs : Array (Option Value)) (file : Str) (tf : Tok)
      (cl : Value) (cld : Option Addr) (csl : Array (Option Value)),
    SupSh st p2 p3 ∧ K.lookup fI = some ⟨oc, od, .func (PySem.W.ksFn "__init__" qual (defArgs st) (defBody st) (defScope st) .none kV doc pm an (.ref cda) ct cc), osl⟩ ∧ PySem.W.codeIn K (.ref cda) qual = true ∧
    K.lookup cda = some ⟨ccl, cdd, .fields vs, ccs⟩ ∧ vs[2]? = some (.str file tf) ∧ ((P.main.file : Str) == file) = true ∧
    K.lookup cc = some ⟨cl, cld, .cell (some (.ref C)), csl⟩
structure ExcI (P : Program) (K : PySem.W.Frag) (mg : Str → Option Value) (x : Str) (C : Addr) : Prop where
  m : mg x = some (.ref C)
  q : PySem.W.excInitIn K C exBases "ValueError.__new__" = true
  kp : PySem.W.keepIn K (.ref C) = true
  sb : PySem.W.subIn K (.ref C) (.type "BaseException") = some true
  ty : PySem.W.typeIn K (.ref C) = some (.type "type")
  is : PySem.W.isClsIn K C = true
  self : PySem.W.subIn K (.ref C) (.ref C) = some true
  sv : PySem.W.subIn K (.ref C) (.type "ValueError") = some true
  su : PySem.W.ks_superIn K C C "__init__" = some (some (.builtin "ValueError.__init__"))
  mr : PySem.W.mroIn K C (.ref C) = some true
  op : PySem.W.nsIn K cStatics "thirdparty.any" = some none
  ms : mg "super" = none
  ps : (P.main.scope.names.lookup ("super" : Str)).isSome = false
  ini : ∃ fI, InitS P K C fI
theorem ExcI.ex {P : Program} {K : PySem.W.Frag} {mg : Str → Option Value} {x : Str} {C : Addr} (h : ExcI P K mg x C) : PySem.W.exmOne K (.ref C) (.ref C) = some true := exm_self h.sb h.is h.ty h.self
theorem sup_eq {o : Expr} {name : Str} {p2 p3 pc : Pos} {txt : Str} {j : Nat} {env : Env} (hline : (p2.endLine == p3.line) = true) : eval (.Call (.Attribute o name p2) [.Constant (.str txt) j pc] [] p3) env = (do
      let ov ← attributeBase o name env (eval o env)
      standAt p2.atName
      let (f, first) ← holding [ov] (getMethod ov name (do return (← importBound o env).getD true))
      callWith p3 f first (backTo p3 (starEach [.Constant (.str txt) j pc] env)) []) := by
  rw [arm_eval_Call]
  have hf : methodCallForm 1 (backTo p3 (starEach [.Constant (.str txt) j pc] env)) (backToKw p3 (keywordEach [] env)) = true := rfl
  unfold methodCall calleeOf methodCallPos
  simp only [List.length_cons, List.length_nil, Nat.zero_add, Nat.add_zero, hf, hline, Bool.not_true, Bool.false_or, if_true, pure_bind]
  rfl
theorem call_ownI {X : Cx} {pins : List (Addr × Obj)} {σ : L2.St} {H : Hp} {s : Shared} {C : Addr} {x : Str} {k : Nat} {Q : Value → Shared → Prop} (h : ExcI X.prog X.K X.mg x C) (hr : Room k X.A) (I : Inv X pins σ H s)
    (hq : ∀ (h' : Heap) (tk : Nat) (e t : Addr), (∀ b o, s.heap.get? b = some o → h'.get? b = some o) → s.heap.get? e = none → h'.get? e = some (PySem.W.excRec (.ref C) t none .none .none (.bool false)) → Q (.ref e) { s with heap := h', toks := tk }) :
    wpAny (model X.prog X.w) X.A (call (.ref C) []) Q X.xe s := by
  obtain ⟨nm, N', qn, bs, bm, hdct, sn, sub, ab, col, dd, k0, k1, k2, k3, k5, hC, hT⟩ := PySem.W.excInit_of I.kIn h.q
  obtain ⟨fI, hi⟩ := h.ini
  obtain ⟨cc, cda, st, p2, p3, qual, oc, kV, doc, pm, ct, od, an, osl, ccl, cdd, vs, ccs, file, tf, cl, cld, csl, sh, hfI, hcd, hcda, hvs, hfile, hcc⟩ := hi.ex
  obtain ⟨p0, p1, p4, pc, txt, j, hbody⟩ := sh.body
  obtain ⟨ar, har, hars⟩ := sh.ar
  have hline := sh.line
  have hbind := sh.binds qual kV doc pm an (.ref cda) ct cc
  have hcell := sh.cell
  have hco := sh.co
  have hgen := sh.gen
  have hk := sh.kind
  have hsu := sh.su
  have hcl := sh.cl
  have hse := sh.se
  obtain ⟨hp, gg, dr, tk, os⟩ := s
  have hsz : hp.objs.size ≤ hp.objs.size + 1 := Nat.le_succ _
  have k1' : ∀ b o, hp.get? b = some o → ((hp.push (PySem.W.kdv_tup [])).push (PySem.HandSPX.excO C hp.objs.size)).get? b = some o := fun b o e => Heap.get?_push_of_some _ (Heap.get?_push_of_some _ e)
  have hget : ((hp.push (PySem.W.kdv_tup [])).push (PySem.HandSPX.excO C hp.objs.size)).get? (hp.objs.size + 1) = some (PySem.HandSPX.excO C hp.objs.size) := by heap_get
  refine wpAny_call (PySem.HandSPX.call_own F.excBase_ValueError hT hC (PySem.W.looks_findIn I.kIn hi.i) (fun self => PySem.W.bind_fn I.kIn self hi.ti) (Nat.zero_le _) ?_)
  have above : hp.objs.size ≤ ((hp.push (PySem.W.kdv_tup [])).push (PySem.HandSPX.excO C hp.objs.size)).objs.size := by rw [Heap.size_push, Heap.size_push]; omega
  generalize hh1 : (hp.push (PySem.W.kdv_tup [])).push (PySem.HandSPX.excO C hp.objs.size) = h1 at k1' hget above
  have hnew : hp.get? (hp.objs.size + 1) = none := by
    cases e : hp.get? (hp.objs.size + 1) with
    | none => rfl
    | some o => exact absurd (Heap.lt_size e) (Nat.not_lt.mpr (Nat.le_succ _))
  generalize he0 : hp.objs.size + 1 = e0 at hget hnew
  have kI := I.kIn
  have glob := I.ok.mod.glob.keeps I.bk
  obtain ⟨mb, blt, hmb⟩ := I.ok.mod.blt
  have blt := blt.keeps I.bk
  have KX1 : X.K.In h1 := kI.keeps k1'
  refine ks_codeAny_call_defAt (fd := PySem.W.ksFn "__init__" qual (defArgs st) (defBody st) (defScope st) .none kV doc pm an (.ref cda) ct cc) (body := defBody st) (binds := [("self", .ref e0)])
    (by rw [make_depth]; have := hr.dp; omega) (KX1 _ _ hfI) rfl (I.nolimit.keeps k1') (PySem.W.codeRec_of KX1 hcd) rfl (hbind _ _) hcell ?_ ?_ hco hgen hk
  · intro y hy
    rw [List.mem_singleton.mp hy]
    exact hse
  intro h2 hns2 k2'
  have KX2 : X.K.In h2 := KX1.keeps k2'
  have kk2 : ∀ b o, hp.get? b = some o → h2.get? b = some o := fun b o e => k2' b o (k1' b o e)
  rw [hbody]
  refine ks_wpAt_execs_cons (ks_wpAt_Expr_any (ks_wpAt_MethodCall (pl := (do return (← importBound (.Call (.Name "super" p0) [] [] p1) (callEnv _ _ _)).getD true)) ?_ (sup_eq hline)) (by show ((defScope st).kind == .module && _) = false; rw [hk]; rfl))
  refine ks_wpAt_super_base (f := fI) (cc := cda) (ar := ar) hsu hcl (by decide) rfl (KX2 _ _ hfI) rfl har rfl (KX2 _ _ hcda) rfl hvs hfile h.ps ?_
  refine PySem.W.ks_loadName_global hk hsu (Calls.loadGlobal_builtin (glob.keeps kk2) h.ms (blt.keeps kk2) ((hmb _ (by decide)).trans PyProof.Rows.Boot.«super») ⟨rfl, ?_⟩)
  refine wpAny_loadName_free hk hcl rfl ⟨_, KX2 _ _ hcc, rfl⟩ ?_
  rw [hars]
  refine wpAny_loadName_local hk hse hns2 rfl ?_
  obtain ⟨oD, cdD, hD1, hD2⟩ : ∃ oD cdD, h2.get? C = some oD ∧ oD.data = .cls cdD := ⟨_, _, kk2 _ _ hC, rfl⟩
  refine ks_wpAny_isType_cls hD1 hD2 ⟨rfl, ?_⟩
  refine ks_wpAny_call_super hD1 hD2 (k2' _ _ hget) rfl (fun c z => by cases z) (PySem.W.looks_mroIn KX2 h.mr) (fun h3 hso k3' => ?_)
  have KX3 : X.K.In h3 := KX2.keeps k3'
  have he3 := k3' _ _ (k2' _ _ hget)
  have hC3 := k3' _ _ (kk2 _ _ hC)
  have hsu2 := h.su
  have hne : e0 ≠ C := fun z => absurd (Heap.lt_size hC) (by rw [← z, ← he0]; exact Nat.not_lt.mpr (Nat.le_succ _))
  cases hc : PySem.W.clsIn X.K C with
  | none => unfold PySem.W.ks_superIn at hsu2; rw [hc] at hsu2; cases hsu2
  | some cd =>
    unfold PySem.W.ks_superIn at hsu2
    rw [hc] at hsu2
    have I3 : PySem.W.InstAt h3 e0 (PySem.HandSPX.excO C hp.objs.size) C none := ⟨he3, rfl, rfl, trivial⟩
    refine PySem.W.kxs_getMethod PySem.W.kxs_ValueError hso (PySem.W.looks_opaque KX3 h.op) (l₀ := cd.mro) ?_ rfl KX3 hsu2 (I3.type.andThen (PySem.W.looks_subIn KX3 h.sv)) hne (by decide) ?_
    · exact fun A Q E s k q => wpAny_bind ((PySem.W.looks_clsIn KX3 hc) A _ E s k (wpAny_pure q))
    have kk4 : ∀ b o, h3.get? b = some o → (h3.push (PySem.W.kxs_mw "ValueError.__init__" e0)).get? b = some o := fun b o e => Heap.get?_push_of_some _ e
    have hu : (h3.push (PySem.W.kxs_mw "ValueError.__init__" e0)).get? h3.objs.size = some (PySem.W.kxs_mw "ValueError.__init__" e0) := Heap.get?_push_at rfl rfl
    generalize (h3.push (PySem.W.kxs_mw "ValueError.__init__" e0)) = h4 at kk4 hu ⊢
    refine PySem.W.kxs_callWith (i := "ValueError.__init__") (x := e0) rfl (Calls.evalArgs_plain (Calls.spliced_cons ?_))
    refine Calls.Constant_str (k := j) (pos := pc) (Calls.spliced_nil ⟨hu, ?_⟩)
    have hns4 := (hns2.keeps k3').keeps kk4
    have ltL : h1.objs.size < h3.objs.size := by
      obtain ⟨oL, _, _, hL, _⟩ := hns2.keeps k3'
      exact Heap.lt_size hL
    have neL : e0 ≠ h1.objs.size := Nat.ne_of_lt (Heap.lt_size hget)
    have nou : hp.get? h3.objs.size = none := by
      cases e : hp.get? h3.objs.size with
      | none => rfl
      | some o => exact absurd (Heap.lt_size (k3' _ _ (kk2 _ _ e))) (Nat.lt_irrefl _)
    have Fq : PyProof.Rows.Fr hp h1.objs.size h4 _ := ⟨hns4, fun b o e => kk4 _ _ (k3' _ _ (kk2 _ _ e)), above⟩
    have Nq : PyProof.Rows.News hp h1.objs.size h4 [(e0, PySem.W.excObj C hp.objs.size none .none), (h3.objs.size, PySem.W.kxs_mw "ValueError.__init__" e0)] := fun p hp' => by
      rcases List.mem_cons.mp hp' with rfl | hp'
      · exact ⟨kk4 _ _ he3, neL, hnew⟩
      · rw [List.mem_singleton.mp hp']
        exact ⟨hu, Nat.ne_of_gt ltL, nou⟩
    refine PySem.W.kxs_call (t := hp.objs.size) (dv := none) (c2 := .none) (x := e0) (C := C) Fq kI Nq F.excBase_ValueError h.q (List.mem_cons_of_mem _ (List.mem_singleton_self _)) (.head (fun p hp' => ?_)) (by show 1 ≤ sizeLine; decide) (fun t' h5 F5 N5 _ => ?_)
    · rw [List.mem_singleton.mp hp']
      exact Nat.ne_of_gt (Nat.lt_trans (Heap.lt_size hget) ltL)
    have e5 := (N5 (e0, PySem.W.excObj C t' none .none) (by simp)).1
    show PySem.wpAt _ _ _ (execs [] _) _ _ _
    refine PySem.wpAt_of_wpAny (wpAny_pure ?_)
    refine ⟨rfl, ?_⟩
    have kk5 := F5.keep
    exact hq h5 _ e0 _ kk5 hnew e5
theorem pmk_ownI {X : Cx} {C : Addr} {x : Str} {k : Nat} {p pos : Pos} (h : ExcI X.prog X.K X.mg x C) (hr : Room k X.A) (hg : Gl X x) (hdb : (x == ("__debug__" : Str)) = false := by decide) :
    PMk X (.Call (.Name x p) [] [] pos) (fun _ H Q => Q (.ref C) none H) := by
  intro pins s σ H Q I hq
  refine wpAny_Call_Name_kw (ld_glob I hg h.m ?_ hdb)
  refine PySem.W.callWith_K0 I.kIn h.kp ?_
  show wpAny _ _ (call (.ref C) []) _ _ _
  refine call_ownI h hr I fun h' tk e t k1 hn he => ?_
  exact ⟨e, _, _, s, H, .ref C, none, rfl, I, k1, hn, he, ⟨rfl, rfl⟩, rfl, rfl, I.hok.gone hn, rfl, I.bare, raises_own h.sb h.ty, hq⟩
end HK

set_option Elab.async false
set_option linter.all false
set_option maxRecDepth 100000
set_option maxHeartbeats 1000000
/-! own errors as values: made bare, and asked of which class they are -/
namespace XV
open PySem PySem.Spec PyProof.Rows L2 HK
section
variable {X : Cx} {K : PySem.W.Frag}
theorem pe_bare {C : Addr} {x : Str} {k : Nat} {p pos : Pos} (h : ExcI X.prog X.K X.mg x C) (hr : Room k X.A) (hg : Gl X x) (hdb : (x == ("__debug__" : Str)) = false := by decide) :
    PE X (.Call (.Name x p) [] [] pos) (fun _ H Q => ∀ a, H a = none → Q (.ref a) (upd H a (ExO (.ref C) a))) := by
  refine ⟨fun pins s σ H Q I hq => wpAny_Call_Name_kw (ld_glob I hg h.m (PySem.W.callWith_K0 I.kIn h.kp ?_) hdb)⟩
  show wpAny _ _ (call (.ref C) []) _ _ _
  refine call_ownI h hr I fun h' tk a t k1 hn he => ?_
  have free : H a = none := I.hok.gone hn
  exact ⟨.ref a, _, I.laidN k1 hn free (exO_ok he ⟨rfl, rfl⟩ rfl rfl rfl (show 4 < 6 by decide)), rfl, hq a free⟩
/-- isinstance(e, c), e an error that stands as a value -/
def rIsV (K : PySem.W.Frag) : List V → Hp → VK → Prop := fun xs H Q => ∃ (a D : Addr) (c : V) (cv : Value) (b : Bool), xs = [.ref a, c] ∧ H a = some (ExO (.ref D) a) ∧ ExcC K D ∧ (∀ u, RelV c u → u = cv) ∧ PySem.W.kitOne K (.ref D) cv = some b ∧ Q (.bl b) H
theorem q_isV (hK : X.K = K) : CallR X (.builtin "isinstance") (rIsV K) := by
  subst hK
  intro pins s σ H xs us Q I r h
  obtain ⟨a, D, c, cv, b, rfl, ha, C, hcv, e, q⟩ := h
  cases r with
  | cons rx rr =>
  cases rr with
  | cons rt rr =>
  cases rr
  cases rx
  obtain rfl := hcv _ rt
  obtain ⟨⟨oc, od, oda, osl⟩, vs, g, ⟨z1, z2⟩, dt, _⟩ := (I.hok a _ ha).1
  dsimp only at z1 z2 dt
  subst z1 z2 dt
  exact PySem.W.kia_one (PySem.W.handS_kitx_exc C.hg C.hk C.hs C.hd C.ha C.hn C.ht C.hm) I.kIn (⟨g, rfl, rfl, trivial⟩ : PySem.W.InstAt s.heap a _ D none) e (fun z => nomatch z) fun tk => ⟨.bl b, H, I.kept (t' := tk) fun _ _ z => z, rfl, q⟩
end
end XV

set_option Elab.async false
set_option linter.all false
set_option maxRecDepth 100000
set_option maxHeartbeats 1000000
namespace K01
open PySem PySem.Spec PyProof.Rows L2 HK DT
def topS (i : Nat) : Stmt := PySem.Challenge.pw_snapshelf_k01_codes.main.body.getD i (.Pass ⟨0, 0, 0, 0⟩)
/-! __init__: slots self=0; cells [] -/
abbrev s_NoName_init : Stmt := inClass (topS 2) 0
abbrev n_NoName_init : List Str := ["self"]
theorem sh_NoName : ∃ p2 p3, SupSh s_NoName_init p2 p3 := ⟨_, _, ⟨⟨_, _, _, _, _, _, rfl⟩, rfl, fun _ _ _ _ _ _ _ _ _ _ => .of_eq rfl, ⟨_, rfl, rfl⟩, by decide +kernel, rfl, rfl, rfl, rfl, rfl, rfl⟩⟩
/-! __init__: slots self=0; cells [] -/
abbrev s_NoView_init : Stmt := inClass (topS 3) 0
abbrev n_NoView_init : List Str := ["self"]
theorem sh_NoView : ∃ p2 p3, SupSh s_NoView_init p2 p3 := ⟨_, _, ⟨⟨_, _, _, _, _, _, rfl⟩, rfl, fun _ _ _ _ _ _ _ _ _ _ => .of_eq rfl, ⟨_, rfl, rfl⟩, by decide +kernel, rfl, rfl, rfl, rfl, rfl, rfl⟩⟩
/-! __init__: slots self=0; cells [] -/
abbrev s_NoDeed_init : Stmt := inClass (topS 4) 0
abbrev n_NoDeed_init : List Str := ["self"]
theorem sh_NoDeed : ∃ p2 p3, SupSh s_NoDeed_init p2 p3 := ⟨_, _, ⟨⟨_, _, _, _, _, _, rfl⟩, rfl, fun _ _ _ _ _ _ _ _ _ _ => .of_eq rfl, ⟨_, rfl, rfl⟩, by decide +kernel, rfl, rfl, rfl, rfl, rfl, rfl⟩⟩
/-! __init__: slots self=0; cells [] -/
abbrev s_NoThing_init : Stmt := inClass (topS 5) 0
abbrev n_NoThing_init : List Str := ["self"]
theorem sh_NoThing : ∃ p2 p3, SupSh s_NoThing_init p2 p3 := ⟨_, _, ⟨⟨_, _, _, _, _, _, rfl⟩, rfl, fun _ _ _ _ _ _ _ _ _ _ => .of_eq rfl, ⟨_, rfl, rfl⟩, by decide +kernel, rfl, rfl, rfl, rfl, rfl, rfl⟩⟩
/-! __init__: slots self=0; cells [] -/
abbrev s_Taken_init : Stmt := inClass (topS 6) 0
abbrev n_Taken_init : List Str := ["self"]
theorem sh_Taken : ∃ p2 p3, SupSh s_Taken_init p2 p3 := ⟨_, _, ⟨⟨_, _, _, _, _, _, rfl⟩, rfl, fun _ _ _ _ _ _ _ _ _ _ => .of_eq rfl, ⟨_, rfl, rfl⟩, by decide +kernel, rfl, rfl, rfl, rfl, rfl, rfl⟩⟩
/-! __init__: slots self=0; cells [] -/
abbrev s_TooMany_init : Stmt := inClass (topS 7) 0
abbrev n_TooMany_init : List Str := ["self"]
theorem sh_TooMany : ∃ p2 p3, SupSh s_TooMany_init p2 p3 := ⟨_, _, ⟨⟨_, _, _, _, _, _, rfl⟩, rfl, fun _ _ _ _ _ _ _ _ _ _ => .of_eq rfl, ⟨_, rfl, rfl⟩, by decide +kernel, rfl, rfl, rfl, rfl, rfl, rfl⟩⟩
/-! __init__: slots self=0; cells [] -/
abbrev s_TooDeep_init : Stmt := inClass (topS 8) 0
abbrev n_TooDeep_init : List Str := ["self"]
theorem sh_TooDeep : ∃ p2 p3, SupSh s_TooDeep_init p2 p3 := ⟨_, _, ⟨⟨_, _, _, _, _, _, rfl⟩, rfl, fun _ _ _ _ _ _ _ _ _ _ => .of_eq rfl, ⟨_, rfl, rfl⟩, by decide +kernel, rfl, rfl, rfl, rfl, rfl, rfl⟩⟩
/-! __init__: slots self=0; cells [] -/
abbrev s_Within_init : Stmt := inClass (topS 9) 0
abbrev n_Within_init : List Str := ["self"]
theorem sh_Within : ∃ p2 p3, SupSh s_Within_init p2 p3 := ⟨_, _, ⟨⟨_, _, _, _, _, _, rfl⟩, rfl, fun _ _ _ _ _ _ _ _ _ _ => .of_eq rfl, ⟨_, rfl, rfl⟩, by decide +kernel, rfl, rfl, rfl, rfl, rfl, rfl⟩⟩
/-! __init__: slots self=0; cells [] -/
abbrev s_NoLeaf_init : Stmt := inClass (topS 10) 0
abbrev n_NoLeaf_init : List Str := ["self"]
theorem sh_NoLeaf : ∃ p2 p3, SupSh s_NoLeaf_init p2 p3 := ⟨_, _, ⟨⟨_, _, _, _, _, _, rfl⟩, rfl, fun _ _ _ _ _ _ _ _ _ _ => .of_eq rfl, ⟨_, rfl, rfl⟩, by decide +kernel, rfl, rfl, rfl, rfl, rfl, rfl⟩⟩
/-! __init__: slots self=0; cells [] -/
abbrev s_NoRoom_init : Stmt := inClass (topS 11) 0
abbrev n_NoRoom_init : List Str := ["self"]
theorem sh_NoRoom : ∃ p2 p3, SupSh s_NoRoom_init p2 p3 := ⟨_, _, ⟨⟨_, _, _, _, _, _, rfl⟩, rfl, fun _ _ _ _ _ _ _ _ _ _ => .of_eq rfl, ⟨_, rfl, rfl⟩, by decide +kernel, rfl, rfl, rfl, rfl, rfl, rfl⟩⟩
/-! __init__: slots self=0; cells [] -/
abbrev s_NoHouse_init : Stmt := inClass (topS 12) 0
abbrev n_NoHouse_init : List Str := ["self"]
theorem sh_NoHouse : ∃ p2 p3, SupSh s_NoHouse_init p2 p3 := ⟨_, _, ⟨⟨_, _, _, _, _, _, rfl⟩, rfl, fun _ _ _ _ _ _ _ _ _ _ => .of_eq rfl, ⟨_, rfl, rfl⟩, by decide +kernel, rfl, rfl, rfl, rfl, rfl, rfl⟩⟩
/-! __init__: slots self=0; cells [] -/
abbrev s_NoSnap_init : Stmt := inClass (topS 13) 0
abbrev n_NoSnap_init : List Str := ["self"]
theorem sh_NoSnap : ∃ p2 p3, SupSh s_NoSnap_init p2 p3 := ⟨_, _, ⟨⟨_, _, _, _, _, _, rfl⟩, rfl, fun _ _ _ _ _ _ _ _ _ _ => .of_eq rfl, ⟨_, rfl, rfl⟩, by decide +kernel, rfl, rfl, rfl, rfl, rfl, rfl⟩⟩
/-! __init__: slots self=0; cells [] -/
abbrev s_NoEntry_init : Stmt := inClass (topS 14) 0
abbrev n_NoEntry_init : List Str := ["self"]
theorem sh_NoEntry : ∃ p2 p3, SupSh s_NoEntry_init p2 p3 := ⟨_, _, ⟨⟨_, _, _, _, _, _, rfl⟩, rfl, fun _ _ _ _ _ _ _ _ _ _ => .of_eq rfl, ⟨_, rfl, rfl⟩, by decide +kernel, rfl, rfl, rfl, rfl, rfl, rfl⟩⟩
/-! __init__: slots self=0; cells [] -/
abbrev s_Full_init : Stmt := inClass (topS 15) 0
abbrev n_Full_init : List Str := ["self"]
theorem sh_Full : ∃ p2 p3, SupSh s_Full_init p2 p3 := ⟨_, _, ⟨⟨_, _, _, _, _, _, rfl⟩, rfl, fun _ _ _ _ _ _ _ _ _ _ => .of_eq rfl, ⟨_, rfl, rfl⟩, by decide +kernel, rfl, rfl, rfl, rfl, rfl, rfl⟩⟩
/-! __init__: slots self=0; cells [] -/
abbrev s_Lost_init : Stmt := inClass (topS 16) 0
abbrev n_Lost_init : List Str := ["self"]
theorem sh_Lost : ∃ p2 p3, SupSh s_Lost_init p2 p3 := ⟨_, _, ⟨⟨_, _, _, _, _, _, rfl⟩, rfl, fun _ _ _ _ _ _ _ _ _ _ => .of_eq rfl, ⟨_, rfl, rfl⟩, by decide +kernel, rfl, rfl, rfl, rfl, rfl, rfl⟩⟩
/-! __init__: slots self=0; cells [] -/
abbrev s_NoDisk_init : Stmt := inClass (topS 17) 0
abbrev n_NoDisk_init : List Str := ["self"]
theorem sh_NoDisk : ∃ p2 p3, SupSh s_NoDisk_init p2 p3 := ⟨_, _, ⟨⟨_, _, _, _, _, _, rfl⟩, rfl, fun _ _ _ _ _ _ _ _ _ _ => .of_eq rfl, ⟨_, rfl, rfl⟩, by decide +kernel, rfl, rfl, rfl, rfl, rfl, rfl⟩⟩
/-! __init__: slots self=0; cells [] -/
abbrev s_NoSent_init : Stmt := inClass (topS 18) 0
abbrev n_NoSent_init : List Str := ["self"]
theorem sh_NoSent : ∃ p2 p3, SupSh s_NoSent_init p2 p3 := ⟨_, _, ⟨⟨_, _, _, _, _, _, rfl⟩, rfl, fun _ _ _ _ _ _ _ _ _ _ => .of_eq rfl, ⟨_, rfl, rfl⟩, by decide +kernel, rfl, rfl, rfl, rfl, rfl, rfl⟩⟩
/-! __init__: slots self=0; cells [] -/
abbrev s_Other_init : Stmt := inClass (topS 19) 0
abbrev n_Other_init : List Str := ["self"]
theorem sh_Other : ∃ p2 p3, SupSh s_Other_init p2 p3 := ⟨_, _, ⟨⟨_, _, _, _, _, _, rfl⟩, rfl, fun _ _ _ _ _ _ _ _ _ _ => .of_eq rfl, ⟨_, rfl, rfl⟩, by decide +kernel, rfl, rfl, rfl, rfl, rfl, rfl⟩⟩
/-! __init__: slots self=0; cells [] -/
abbrev s_NotOpen_init : Stmt := inClass (topS 20) 0
abbrev n_NotOpen_init : List Str := ["self"]
theorem sh_NotOpen : ∃ p2 p3, SupSh s_NotOpen_init p2 p3 := ⟨_, _, ⟨⟨_, _, _, _, _, _, rfl⟩, rfl, fun _ _ _ _ _ _ _ _ _ _ => .of_eq rfl, ⟨_, rfl, rfl⟩, by decide +kernel, rfl, rfl, rfl, rfl, rfl, rfl⟩⟩
/-! __init__: slots self=0; cells [] -/
abbrev s_NoWord_init : Stmt := inClass (topS 21) 0
abbrev n_NoWord_init : List Str := ["self"]
theorem sh_NoWord : ∃ p2 p3, SupSh s_NoWord_init p2 p3 := ⟨_, _, ⟨⟨_, _, _, _, _, _, rfl⟩, rfl, fun _ _ _ _ _ _ _ _ _ _ => .of_eq rfl, ⟨_, rfl, rfl⟩, by decide +kernel, rfl, rfl, rfl, rfl, rfl, rfl⟩⟩
/-! is_number: slots one=0; cells [] -/
abbrev s_is_number : Stmt := topS 23
abbrev n_is_number : List Str := ["one"]
theorem sc_is_number : FnScope n_is_number ["one"] (defScope s_is_number) := ⟨rfl, rfl, rfl, by decide +kernel, rfl, by decide +kernel, by decide +kernel⟩
/-! is_name: slots one=0; cells [] -/
abbrev s_is_name : Stmt := topS 27
abbrev n_is_name : List Str := ["one"]
theorem sc_is_name : FnScope n_is_name ["one"] (defScope s_is_name) := ⟨rfl, rfl, rfl, by decide +kernel, rfl, by decide +kernel, by decide +kernel⟩
/-! code_of: slots name=0 code=1 letter=2; cells [] -/
abbrev s_code_of : Stmt := topS 28
abbrev n_code_of : List Str := ["name", "code", "letter"]
theorem sc_code_of : FnScope n_code_of ["name"] (defScope s_code_of) := ⟨rfl, rfl, rfl, by decide +kernel, rfl, by decide +kernel, by decide +kernel⟩
/-! name_of: slots code=0 letters=1 left=2 number=3; cells [] -/
abbrev s_name_of : Stmt := topS 29
abbrev n_name_of : List Str := ["code", "letters", "left", "number"]
theorem sc_name_of : FnScope n_name_of ["code"] (defScope s_name_of) := ⟨rfl, rfl, rfl, by decide +kernel, rfl, by decide +kernel, by decide +kernel⟩
/-! _law_mixed: slots _law_cell=0 _law_k=1 _law_number_here=2; cells [] -/
abbrev s_l_mixed : Stmt := topS 31
abbrev n_l_mixed : List Str := ["_law_cell", "_law_k", "_law_number_here"]
theorem sc_l_mixed : FnScope n_l_mixed ["_law_cell", "_law_k"] (defScope s_l_mixed) := ⟨rfl, rfl, rfl, by decide +kernel, rfl, by decide +kernel, by decide +kernel⟩
/-! _law_draws: slots _law_script=0 _law_drawn=1 _law_k=2 _law_cell=3 _law_j=4; cells [] -/
abbrev s_l_draws : Stmt := topS 32
abbrev n_l_draws : List Str := ["_law_script", "_law_drawn", "_law_k", "_law_cell", "_law_j"]
theorem sc_l_draws : FnScope n_l_draws ["_law_script"] (defScope s_l_draws) := ⟨rfl, rfl, rfl, by decide +kernel, rfl, by decide +kernel, by decide +kernel⟩
/-! _law_next: slots _law_drawn=0; cells [] -/
abbrev s_l_next : Stmt := topS 33
abbrev n_l_next : List Str := ["_law_drawn"]
theorem sc_l_next : FnScope n_l_next ["_law_drawn"] (defScope s_l_next) := ⟨rfl, rfl, rfl, by decide +kernel, rfl, by decide +kernel, by decide +kernel⟩
/-! _law_code: slots _law_name=0 _law_number_here=1 _law_sign=2; cells [] -/
abbrev s_l_code : Stmt := topS 34
abbrev n_l_code : List Str := ["_law_name", "_law_number_here", "_law_sign"]
theorem sc_l_code : FnScope n_l_code ["_law_name"] (defScope s_l_code) := ⟨rfl, rfl, rfl, by decide +kernel, rfl, by decide +kernel, by decide +kernel⟩
/-! _law_word: slots _law_number_here=0 _law_letters=1 _law_word_here=2 _law_k=3; cells [] -/
abbrev s_l_word : Stmt := topS 35
abbrev n_l_word : List Str := ["_law_number_here", "_law_letters", "_law_word_here", "_law_k"]
theorem sc_l_word : FnScope n_l_word ["_law_number_here"] (defScope s_l_word) := ⟨rfl, rfl, rfl, by decide +kernel, rfl, by decide +kernel, by decide +kernel⟩
/-! _law_is_code: slots _law_number_here=0; cells [] -/
abbrev s_l_is_code : Stmt := topS 36
abbrev n_l_is_code : List Str := ["_law_number_here"]
theorem sc_l_is_code : FnScope n_l_is_code ["_law_number_here"] (defScope s_l_is_code) := ⟨rfl, rfl, rfl, by decide +kernel, rfl, by decide +kernel, by decide +kernel⟩
/-! _law_refuses_name: slots _law_one=0; cells [] -/
abbrev s_l_refuses_name : Stmt := topS 37
abbrev n_l_refuses_name : List Str := ["_law_one"]
theorem sc_l_refuses_name : FnScope n_l_refuses_name ["_law_one"] (defScope s_l_refuses_name) := ⟨rfl, rfl, rfl, by decide +kernel, rfl, by decide +kernel, by decide +kernel⟩
/-! _law_refuses_code: slots _law_one=0; cells [] -/
abbrev s_l_refuses_code : Stmt := topS 38
abbrev n_l_refuses_code : List Str := ["_law_one"]
theorem sc_l_refuses_code : FnScope n_l_refuses_code ["_law_one"] (defScope s_l_refuses_code) := ⟨rfl, rfl, rfl, by decide +kernel, rfl, by decide +kernel, by decide +kernel⟩
/-! _law_number: slots _law_found=0; cells [] -/
abbrev s_l_number : Stmt := topS 39
abbrev n_l_number : List Str := ["_law_found"]
theorem sc_l_number : FnScope n_l_number ["_law_found"] (defScope s_l_number) := ⟨rfl, rfl, rfl, by decide +kernel, rfl, by decide +kernel, by decide +kernel⟩
/-! _law_fits_name: slots _law_word_here=0 _law_found=1 _law_back=2; cells [] -/
abbrev s_l_fits_name : Stmt := topS 40
abbrev n_l_fits_name : List Str := ["_law_word_here", "_law_found", "_law_back"]
theorem sc_l_fits_name : FnScope n_l_fits_name ["_law_word_here"] (defScope s_l_fits_name) := ⟨rfl, rfl, rfl, by decide +kernel, rfl, by decide +kernel, by decide +kernel⟩
/-! _law_fits_code: slots _law_number_here=0 _law_found=1; cells [] -/
abbrev s_l_fits_code : Stmt := topS 41
abbrev n_l_fits_code : List Str := ["_law_number_here", "_law_found"]
theorem sc_l_fits_code : FnScope n_l_fits_code ["_law_number_here"] (defScope s_l_fits_code) := ⟨rfl, rfl, rfl, by decide +kernel, rfl, by decide +kernel, by decide +kernel⟩
/-! _law_kinds: slots _law_one=0 _law_found=1; cells [] -/
abbrev s_l_kinds : Stmt := topS 42
abbrev n_l_kinds : List Str := ["_law_one", "_law_found"]
theorem sc_l_kinds : FnScope n_l_kinds ["_law_one"] (defScope s_l_kinds) := ⟨rfl, rfl, rfl, by decide +kernel, rfl, by decide +kernel, by decide +kernel⟩
/-! _law_refusals_right: slots _law_all_of=0 _law_k=1 _law_one=2 _law_place=3; cells ['_law_k'] -/
abbrev s_l_refusals_right : Stmt := topS 43
abbrev n_l_refusals_right : List Str := ["_law_all_of", "_law_k", "_law_one", "_law_place"]
theorem sc_l_refusals_right : FnScope n_l_refusals_right [] (defScope s_l_refusals_right) := ⟨rfl, rfl, rfl, by decide +kernel, rfl, by decide +kernel, by decide +kernel⟩
/-! law: slots _law_script=0 _law_drawn=1 _law_word_here=2 _law_other=3 _law_number_here=4 _law_great=5 _law_one=6 _law_bad=7 _law_each=8; cells [] -/
abbrev s_law : Stmt := topS 44
abbrev n_law : List Str := ["_law_script", "_law_drawn", "_law_word_here", "_law_other", "_law_number_here", "_law_great", "_law_one", "_law_bad", "_law_each"]
theorem sc_law : FnScope n_law ["_law_script"] (defScope s_law) := ⟨rfl, rfl, rfl, by decide +kernel, rfl, by decide +kernel, by decide +kernel⟩
/-! ### names, paths, leaves, deeds: what they are, of any data -/
def letters : Str := "abcdefghijklmnopqrstuvwxyz"
def isLet (c : Nat) : Bool := decide (c ∈ letters.cps.toList)
def isNm (s : Str) : Bool := decide ((1:Int) ≤ (s.length : Int)) && decide ((s.length : Int) ≤ 8) && s.cps.toList.all isLet
def nameD : PyData → Bool
  | .str s => isNm s
  | _ => false
def pathD : PyData → Bool
  | .tuple ds => decide ((ds.length : Int) ≤ 6) && ds.all nameD
  | _ => false
def innerD : PyData → Bool
  | .tuple ds => pathD (.tuple ds) && decide (0 < (ds.length : Int))
  | _ => false
def isNumD : PyData → Bool
  | .int _ => true
  | _ => false
def numTo (m : Int) : PyData → Bool
  | .int i => decide (0 ≤ i) && decide (i ≤ m)
  | _ => false
def leafD : PyData → Bool
  | .tuple ds => decide ((ds.length : Int) ≤ 8) && ds.all (numTo 255)
  | _ => false

structure Txt (K : PySem.W.Frag) (mg : Str → Option Value) : Prop where
  b_ValueError : mg "ValueError" = none
  b_abs : mg "abs" = none
  b_all : mg "all" = none
  b_bool : mg "bool" = none
  b_divmod : mg "divmod" = none
  b_enumerate : mg "enumerate" = none
  b_int : mg "int" = none
  b_isinstance : mg "isinstance" = none
  b_len : mg "len" = none
  b_min : mg "min" = none
  b_ord : mg "ord" = none
  b_range : mg "range" = none
  b_reversed : mg "reversed" = none
  b_str : mg "str" = none
  m_LETTERS : GloE mg "LETTERS" (.str letters)
  m_LONGEST_NAME : GloE mg "LONGEST_NAME" (.int 8)
section
variable {P : Program} {w : World} {K : PySem.W.Frag} {mg : Str → Option Value} {base : Heap} {f : Addr} {cd : Value}
/-! ### draws: whole numbers from 0 on, below 2147483629 -/
def Rg (x : Int) : Prop := 0 ≤ x ∧ x < 2147483629
structure Dr (ds : List Int) : Prop where
  len : ds.length ≤ 2000
  rg : ∀ x ∈ ds, Rg x
theorem Dr.snoc {ds : List Int} {x : Int} (h : ∀ x ∈ ds, Rg x) (hx : Rg x) : ∀ y ∈ ds ++ [x], Rg y := fun y hy => by
  rcases List.mem_append.mp hy with h1 | h1
  · exact h y h1
  · rw [List.mem_singleton.mp h1]
    exact hx
theorem rg_mod (x : Int) : Rg (x % 2147483629) := ⟨Int.emod_nonneg _ (by decide), Int.emod_lt_of_pos _ (by decide)⟩
theorem map_snoc (ds : List Int) (x : Int) : (ds ++ [x]).map V.int = ds.map V.int ++ [.int x] := by rw [List.map_append] <;> rfl
/-- _law_mixed: any number in the range -/
def spMixed : Sp := fun vs H Q _ => ∃ c k : Int, vs = [.int c, .int k] ∧ -1000 ≤ k ∧ k ≤ 1000 ∧ ∀ m, Rg m → Q (.int m) H
theorem ok_l_mixed (F : FnAt K mg "_law_mixed" s_l_mixed ["_law_cell", "_law_k"] f cd) : CalE P w K mg base CX0 1 "_law_mixed" spMixed := by
  refine F.cal sc_l_mixed (fun vs H Q E h => ?_) (fun A outer s H vs Q E hr h => ?_)
  · obtain ⟨c, k, rfl, _⟩ := h
    rfl
  · obtain ⟨c, k, rfl, k1, k2, q⟩ := h
    refine ⟨_, (pss_cons (ps_set (i := 2) sc_l_mixed.nd rfl (.inl rfl) (pe_op op_mod (pe_op op_add (pe_op op_add (pe_op op_mul (pe_op op_mod (pv 0) pe_int) pe_int) (pe_op op_mul (pe_op op_mul pe_int (pv 1)) (pv 1))) pe_int) pe_int))
      (pss_one (ps_ret (pe_op op_mod (pe_op op_mul (pv 2) (pv 2)) pe_int)))), ?_⟩
    have h1 : (0:Int) < 2147483647 := by decide
    have a1 := Int.emod_nonneg c (b := 2147483647) (by decide)
    have a2 := Int.emod_lt_of_pos c (b := 2147483647) (by decide)
    refine ⟨_, rfl, _, _, rfl, rfl, h1, _, _, rfl, rfl, .inr ⟨by decide, by decide⟩, _, rfl, _, _, rfl, rfl, .inl ⟨by decide, by decide⟩, _, rfl, _, _, rfl, rfl, .inr ⟨by omega, by omega⟩, _, _, rfl, rfl, _, _, rfl, rfl, _, _, rfl, rfl, h1, ?_⟩
    generalize hz : (c % 2147483647 * 48271 + 7919 * k * k + 104729) = z
    have b1 := Int.emod_nonneg z (b := 2147483647) (by decide)
    have b2 := Int.emod_lt_of_pos z (b := 2147483647) (by decide)
    refine ⟨_, rfl, _, rfl, _, _, rfl, rfl, .inl ⟨by omega, by omega⟩, _, _, rfl, rfl, (by show (0:Int) < 2147483629; decide), ?_⟩
    exact q _ (rg_mod _)
/-- _law_draws: a new list of numbers in the range -/
def spDraws (K : PySem.W.Frag) (tb : List Addr) : Sp := fun vs H Q _ => ∃ (a : Addr) (ns : List Int), vs = [.ref a] ∧ SqL K H a (ns.map V.int) ∧ ns.length ≤ 63 ∧ Tabs tb H ∧
  ∀ H' d ds, Ext tb [] H H' → H d = none → Dr ds → H' d = some (.lst (ds.map V.int)) → Q (.ref d) H'
theorem ok_l_draws {tb : List Addr} (T : Txt K mg) (F : FnAt K mg "_law_draws" s_l_draws ["_law_script"] f cd) (C_l_mixed : CalE P w K mg base CX0 1 "_law_mixed" spMixed) : CalE P w K mg base CX0 2 "_law_draws" (spDraws K tb) := by
  refine F.cal sc_l_draws (fun vs H Q E h => ?_) (fun A outer s H vs Q E hr h => ?_)
  · obtain ⟨a, ns, rfl, _⟩ := h
    rfl
  · obtain ⟨a, ns, rfl, hS, hl, hT, q⟩ := h
    refine ⟨_, (pss_cons (ps_set (i := 1) sc_l_draws.nd rfl (.inl rfl) (pe_lst pa_nil))
      (pss_cons (ps_for PassesOwn.never rfl (pi_range1 (by rfl) T.b_range (pa_cons (pe_callB (call_min2 rfl) (by rfl) T.b_min (by decide +kernel) (pa_cons (pe_callB (q_len (K := K) rfl) (by rfl) T.b_len PySem.boot_len (pa_cons (pv 0) pa_nil)) (pa_cons pe_int pa_nil))) pa_nil)) (pg_name (i := 2) sc_l_draws.nd rfl (.inl rfl)) (pss_cons (ps_set (i := 3) sc_l_draws.nd rfl (.inl rfl) (pe_callB call_abs (by rfl) T.b_abs (by decide +kernel) (pa_cons (pe_ix (q_ixL (K := K) rfl) (pv 0) (pv 2) (fun _ _ => rfl)) pa_nil)))
      (C8.pss_cut (ps_if (pt_cmpR op_lt (pv 3) (pe_op op_pow pe_int pe_int) (nomark _)) (pss_one (ps_for PassesOwn.never rfl (pi_range1 (by rfl) T.b_range (pa_cons pe_int pa_nil)) (pg_name (i := 4) sc_l_draws.nd rfl (.inl rfl)) (pss_one (ps_expr (q_bm (K := K) rfl PySem.F.plainAttrs_list PySem.F.slot_list_append PySem.F.type_list_append mt_append (pv 1) (pa_cons (pe_cal C_l_mixed (hr.mono (by first | decide | omega)) (by rfl) (pa_cons (pe_cal C_l_mixed (hr.mono (by first | decide | omega)) (by rfl) (pa_cons (pv 3) (pa_cons (pe_op op_add (pe_op op_mul pe_int (pv 4)) pe_int) pa_nil))) (pa_cons (pe_op op_add (pe_op op_add (pv 4) (pv 2)) pe_int) pa_nil))) pa_nil)))))) pss_nil)
      (C8.pss_cut (ps_while PassesOwn.never (PW.pt (pw_and (pt_cmpR op_ge (pv 3) (pe_op op_pow pe_int pe_int) (nomark _)) (pw_and1 (pt_cmpR op_lt (pe_callB (q_len (K := K) rfl) (by rfl) T.b_len PySem.boot_len (pa_cons (pv 1) pa_nil)) pe_int (nomark _))))) (pss_cons (ps_expr (q_bm (K := K) rfl PySem.F.plainAttrs_list PySem.F.slot_list_append PySem.F.type_list_append mt_append (pv 1) (pa_cons (pe_op op_mod (pv 3) pe_int) pa_nil)))
      (pss_one (ps_set (i := 3) sc_l_draws.nd rfl (.inl rfl) (pe_op op_fdivW (pv 3) pe_int)))))
      (pss_one (ps_if (pt_cmpR op_ge (pv 3) pe_int (nomark _)) (pss_one (ps_expr (q_bm (K := K) rfl PySem.F.plainAttrs_list PySem.F.slot_list_append PySem.F.type_list_append mt_append (pv 1) (pa_cons (pe_op op_mod (pv 3) pe_int) pa_nil)))) pss_nil))))))
      (pss_one (ps_ret (pv 1))))), ?_⟩
    have p18 : (10:Int) ^ (18:Int).toNat = 1000000000000000000 := by decide
    -- drawn = []
    refine ⟨by show 0 ≤ sizeLine; decide, fun d nd => ?_⟩
    have e0 : Ext tb [] H (upd H d (.lst [])) := Ext.new hT nd
    -- for k in range(min(len(script), 63))
    refine ⟨_, rfl, _, _, rfl, .inl ⟨_, e0.sqL hT hS (by simp), rfl⟩, _, _, rfl, ?_⟩
    have hn : (if (63:Int) < ((ns.map V.int).length : Int) then (63:Int) else ((ns.map V.int).length : Int)) = (ns.length : Int) := by
      rw [List.length_map]
      split <;> omega
    rw [hn]
    refine ⟨_, rfl, by omega, by omega, for_range (lo := 0) (n := (ns.length : Int).toNat) (fun i σ H1 => ∃ (ds : List Int) (y2 y3 y4 : Option V), σ = [some (.ref a), some (.ref d), y2, y3, y4] ∧ Ext tb [] H H1 ∧ H1 d = some (.lst (ds.map V.int)) ∧ (∀ x ∈ ds, Rg x) ∧ ds.length ≤ 900 + 13 * i)
      ⟨[], none, none, none, rfl, e0, upd_same, fun x hx => (by cases hx), by simp⟩ ?_ ?_⟩
    · rintro i σ H1 hi ⟨ds, y2, y3, y4, rfl, ex, hd, hrg, hlen⟩
      have hi' : i < ns.length := by omega
      have g1 : (ns.map V.int)[i]? = some (.int ns[i]) := by rw [List.getElem?_map, List.getElem?_eq_getElem hi'] <;> rfl
      generalize hz : ns[i] = z at g1
      -- cell = abs(script[k])
      refine ⟨_, rfl, _, rfl, a, _, (i : Int), .int z, rfl, by simp, ex.sqL hT hS (by simp), atI_nat g1, _, rfl, ?_⟩
      generalize hc : (if z < 0 then -z else z) = c
      have hc0 : 0 ≤ c := by rw [← hc]; split <;> omega
      -- if cell < 10 ** 18
      refine ⟨fun σ' H2 => ∃ (ds1 : List Int) (y4 : Option V), σ' = [some (.ref a), some (.ref d), some (.int (0 + (i : Int))), some (.int c), y4] ∧ Ext tb [] H H2 ∧ H2 d = some (.lst (ds1.map V.int)) ∧ (∀ x ∈ ds1, Rg x) ∧ (ds1.length ≤ 900 + 13 * i ∨ (ds1.length ≤ 900 + 13 * i + 12 ∧ c < 1000000000000000000)), ?_, ?_⟩
      · refine ⟨_, rfl, _, _, rfl, rfl, ⟨by decide, by decide, by decide⟩, _, _, rfl, rfl, _, rfl, ite2 (fun e => ?_) (fun e => ?_)⟩
        · have hlt : c < 1000000000000000000 := of_decide_eq_true e
          refine ⟨_, rfl, by decide, by decide, for_range (lo := 0) (n := (12 : Int).toNat) (fun j σ H2 => ∃ (ds1 : List Int) (y4 : Option V), σ = [some (.ref a), some (.ref d), some (.int (0 + (i : Int))), some (.int c), y4] ∧ Ext tb [] H H2 ∧ H2 d = some (.lst (ds1.map V.int)) ∧ (∀ x ∈ ds1, Rg x) ∧ ds1.length ≤ 900 + 13 * i + j)
            ⟨ds, y4, rfl, ex, hd, hrg, by omega⟩ ?_ ?_⟩
          · rintro j σ H2 hj ⟨ds1, y4, rfl, ex2, hd2, hrg2, hlen2⟩
            have hj' : j < 12 := hj
            refine ⟨_, rfl, .inl ⟨rfl, _, SqL.of hd2⟩, _, rfl, _, rfl, _, _, rfl, rfl, .inl ⟨by decide, by decide⟩, _, _, rfl, rfl, _, _, rfl, by omega, by omega, fun m hm => ?_⟩
            refine ⟨_, rfl, _, rfl, _, _, rfl, rfl, _, _, rfl, rfl, _, _, rfl, by omega, by omega, fun m2 hm2 => ?_⟩
            refine ⟨d, _, _, rfl, rfl, hd2, ?_, ?_⟩
            · rw [List.length_map]
              exact Nat.lt_of_le_of_lt hlen2 (Nat.lt_of_lt_of_le (show 900 + 13 * i + j < 100000 by omega) (by decide))
            · refine ⟨ds1 ++ [m2], some (.int (0 + (j : Int))), rfl, Ext.own hT ex2 nd, ?_, Dr.snoc hrg2 hm2, by rw [List.length_append]; show ds1.length + 1 ≤ _; omega⟩
              rw [upd_same, map_snoc]
          · rintro σ H2 ⟨ds1, y4, rfl, ex2, hd2, hrg2, hlen2⟩
            exact ⟨ds1, y4, rfl, ex2, hd2, hrg2, .inr ⟨hlen2, hlt⟩⟩
        · exact ⟨ds, y4, rfl, ex, hd, hrg, .inl hlen⟩
      · rintro σ' H2 ⟨ds1, y4, rfl, ex2, hd2, hrg2, hlen2⟩
        -- the while
        refine ⟨fun σ' H2 => ∃ (ds1 : List Int) (c2 : Int) (y4 : Option V), σ' = [some (.ref a), some (.ref d), some (.int (0 + (i : Int))), some (.int c2), y4] ∧ Ext tb [] H H2 ∧ H2 d = some (.lst (ds1.map V.int)) ∧ (∀ x ∈ ds1, Rg x) ∧ ds1.length ≤ 900 + 13 * i + 12, ?_, ?_⟩
        · refine ⟨fun m σ' H2 => ∃ (ds1 : List Int) (c2 : Int), m = c2.toNat ∧ 0 ≤ c2 ∧ σ' = [some (.ref a), some (.ref d), some (.int (0 + (i : Int))), some (.int c2), y4] ∧ Ext tb [] H H2 ∧ H2 d = some (.lst (ds1.map V.int)) ∧ (∀ x ∈ ds1, Rg x) ∧ (ds1.length ≤ 900 + 13 * i ∨ (ds1.length ≤ 900 + 13 * i + 12 ∧ c2 < 1000000000000000000)), ⟨c.toNat, ds1, c, rfl, hc0, rfl, ex2, hd2, hrg2, hlen2⟩, ?_⟩
          rintro m σ' H3 ⟨ds2, c2, rfl, hc2, rfl, ex3, hd3, hrg3, hlen3⟩
          refine ⟨_, rfl, _, _, rfl, rfl, ⟨by decide, by decide, by decide⟩, _, _, rfl, rfl, _, rfl, ite2 (fun e => ?_) (fun e => ?_)⟩
          · have hge : 1000000000000000000 ≤ c2 := of_decide_eq_true e
            refine ⟨_, rfl, _, _, rfl, .inl ⟨_, SqL.of hd3, rfl⟩, _, _, rfl, rfl, _, rfl, ite2 (fun e2 => ?_) (fun e2 => ?_)⟩
            · have h900 : ((ds2.map V.int).length : Int) < 900 := of_decide_eq_true e2
              rw [List.length_map] at h900
              refine ⟨fun σ' H' => ∃ ds3 : List Int, σ' = [some (.ref a), some (.ref d), some (.int (0 + (i : Int))), some (.int (c2 / 2147483629)), y4] ∧ Ext tb [] H H' ∧ H' d = some (.lst (ds3.map V.int)) ∧ (∀ x ∈ ds3, Rg x) ∧ ds3.length ≤ 900 + 13 * i, ?_, ?_⟩
              · rintro σ' H' ⟨ds3, rfl, ex4, hd4, hrg4, hlen4⟩
                have h1 : c2 / 2147483629 < c2 := Int.ediv_lt_self_of_pos_of_ne_one (by omega) (by decide)
                have h2 : 0 ≤ c2 / 2147483629 := Int.ediv_nonneg hc2 (by decide)
                exact ⟨_, by omega, ds3, _, rfl, h2, rfl, ex4, hd4, hrg4, .inl hlen4⟩
              · refine ⟨_, rfl, .inl ⟨rfl, _, SqL.of hd3⟩, _, rfl, _, _, rfl, rfl, (by show (0:Int) < 2147483629; decide), d, _, _, rfl, rfl, hd3, ?_, ?_⟩
                · rw [List.length_map]
                  exact Nat.lt_of_lt_of_le (show ds2.length < 100000 by omega) (by decide)
                · refine ⟨_, rfl, _, _, rfl, rfl, wide_div (b := 31) (by decide) (by decide) (by decide) (by decide), ?_⟩
                  refine ⟨ds2 ++ [c2 % 2147483629], rfl, Ext.own hT ex3 nd, ?_, Dr.snoc hrg3 (rg_mod _), by rw [List.length_append]; show ds2.length + 1 ≤ _; omega⟩
                  rw [upd_same, map_snoc]
            · exact ⟨ds2, c2, y4, rfl, ex3, hd3, hrg3, by omega⟩
          · refine iteF ?_
            exact ⟨ds2, c2, y4, rfl, ex3, hd3, hrg3, by omega⟩
        · rintro σ' H3 ⟨ds2, c2, y4, rfl, ex3, hd3, hrg3, hlen3⟩
          -- if cell >= 2147483629
          refine ⟨_, rfl, _, _, rfl, rfl, _, rfl, ite2 (fun e => ?_) (fun e => ?_)⟩
          · refine ⟨_, rfl, .inl ⟨rfl, _, SqL.of hd3⟩, _, rfl, _, _, rfl, rfl, (by show (0:Int) < 2147483629; decide), d, _, _, rfl, rfl, hd3, ?_, ?_⟩
            · rw [List.length_map]
              exact Nat.lt_of_lt_of_le (show ds2.length < 100000 by omega) (by decide)
            · refine ⟨ds2 ++ [c2 % 2147483629], _, _, _, rfl, Ext.own hT ex3 nd, ?_, Dr.snoc hrg3 (rg_mod _), by rw [List.length_append]; show ds2.length + 1 ≤ _; omega⟩
              rw [upd_same, map_snoc]
          · exact ⟨ds2, _, _, _, rfl, ex3, hd3, hrg3, by omega⟩
    · rintro σ H1 ⟨ds, y2, y3, y4, rfl, ex, hd, hrg, hlen⟩
      refine ⟨_, rfl, q _ d ds ex nd ⟨by omega, hrg⟩ hd⟩
/-- _law_next: a number in the range; the list of draws is another one -/
def spNext (tb : List Addr) : Sp := fun vs H Q _ => ∃ (d : Addr) (ds : List Int), vs = [.ref d] ∧ H d = some (.lst (ds.map V.int)) ∧ Dr ds ∧ Tabs tb H ∧
  ∀ x r H', Rg x → Dr r → Ext tb [d] H H' → H' d = some (.lst (r.map V.int)) → Q (.int x) H'
theorem ok_l_next {tb : List Addr} (F : FnAt K mg "_law_next" s_l_next ["_law_drawn"] f cd) : CalE P w K mg base CX0 1 "_law_next" (spNext tb) := by
  refine F.cal sc_l_next (fun vs H Q E h => ?_) (fun A outer s H vs Q E hr h => ?_)
  · obtain ⟨d, ds, rfl, _⟩ := h
    rfl
  · obtain ⟨d, ds, rfl, hd, hD, hT, q⟩ := h
    refine ⟨_, (pss_cons (ps_if (pt_cmpR (q_eqD (K := K) rfl hr.units) (pv 0) (pe_lst pa_nil) (nomark _)) (pss_one (ps_ret pe_int)) pss_nil)
      (pss_one (ps_ret (q_bm (K := K) rfl PySem.F.plainAttrs_list PySem.F.slot_list_pop PySem.F.type_list_pop mt_popAt (pv 0) (pa_cons pe_int pa_nil))))), ?_⟩
    refine ⟨_, rfl, by show 0 ≤ sizeLine; decide, fun p np => ?_⟩
    have e0 : Ext tb [d] H (upd H p (.lst [])) := Ext.new hT np
    have hd1 : (upd H p (.lst [])) d = some (.lst (ds.map V.int)) := by rw [upd_ne (ne_of_none hd np)]; exact hd
    cases ds with
    | nil =>
      refine ⟨.list [], .list [], .lst (SqL.of hd1) .nil, .lst (SqL.of upd_same) .nil, rfl, rfl, _, rfl, ?_⟩
      refine iteT ?_
      exact q 0 [] _ ⟨by decide, by decide⟩ ⟨by simp, fun x hx => by cases hx⟩ e0 hd1
    | cons x r =>
      refine ⟨.list ((x :: r).map PyData.int), .list [], .lst (SqL.of hd1) (dp_ints _), .lst (SqL.of upd_same) .nil, sh_ints _, rfl, _, rfl, ?_⟩
      refine iteF ?_
      refine ⟨_, rfl, .inl ⟨rfl, _, SqL.of hd1⟩, d, _, 0, 0, .int x, rfl, rfl, hd1, by decide, by decide, ?_, rfl, ?_⟩
      · simp [seqIndex?]
      · exact q x r _ (hD.rg x (List.mem_cons_self ..)) ⟨by have := hD.len; simp at this; omega, fun y hy => hD.rg y (List.mem_cons_of_mem _ hy)⟩ (e0.trans (Ext.mut (by simp) (ne_tab hT hd fun ps z => by cases z))) upd_same

/-- texts are not too long in it -/
def shortD : PyData → Prop
  | .str s => s.length ≤ 1000
  | _ => True
theorem num_int {d : PyData} (h : isNumD d = true) : ∃ i, d = .int i := by
  cases d with
  | int i => exact ⟨i, rfl⟩
  | _ => cases h
def spIsNum (K : PySem.W.Frag) : Sp := fun vs H Q _ => ∃ (v : V) (d : PyData), vs = [v] ∧ Rp K H v d ∧ Q (.bl (isNumD d)) H
theorem num_rd {v : V} {d : PyData} {H : Hp} {Q : VK} {σ : L2.St} (h0 : σ[0]? = some (some v)) (h : Rp K H v d) (q : Q (.bl (isNumD d)) H) :
    tAndV (tCB (rIsi K) (tCons (tVar 0) (tCons (tC (.ty "int")) tNil))) (tNotV (tCB (rIsi K) (tCons (tVar 0) (tCons (tC (.ty "bool")) tNil)))) σ H Q := by
  have ty := Rp_ty h
  refine ⟨_, h0, _, _, .type (tyN d), _, _, rfl, .ty _, ty, kit_ty (kit_int d), _, rfl, ?_⟩
  cases e : isIntB d with
  | false =>
    refine iteF ?_
    have : isNumD d = false := by cases d <;> first | rfl | cases e
    exact this ▸ q
  | true =>
    refine iteT ?_
    refine ⟨_, h0, _, _, .type (tyN d), _, _, rfl, .ty _, ty, kit_ty (kit_bool d), _, rfl, ?_⟩
    have : isNumD d = !isBl d := by cases d <;> first | rfl | cases e
    exact this ▸ q
theorem ok_is_number (T : Txt K mg) (F : FnAt K mg "is_number" s_is_number ["one"] f cd) : CalE P w K mg base CX0 1 "is_number" (spIsNum K) := by
  refine F.cal sc_is_number (fun vs H Q E h => ?_) (fun A outer s H vs Q E hr h => ?_)
  · obtain ⟨v, d, rfl, _⟩ := h
    rfl
  · obtain ⟨v, d, rfl, hd, q⟩ := h
    refine ⟨_, (pss_one (ps_ret (pe_and (pe_callB (q_isi (K := K) rfl) (by rfl) T.b_isinstance (by decide +kernel) (pa_cons (pv 0) (pa_cons (pe_bltn (v := .ty "int") (by rfl) T.b_int (by decide +kernel) rfl) pa_nil))) (pe_one (pe_not (pe_callB (q_isi (K := K) rfl) (by rfl) T.b_isinstance (by decide +kernel) (pa_cons (pv 0) (pa_cons (pe_bltn (v := .ty "bool") (by rfl) T.b_bool (by decide +kernel) rfl) pa_nil)))))))), ?_⟩
    exact num_rd rfl hd q

def spIsName (K : PySem.W.Frag) (tb : List Addr) : Sp := fun vs H Q _ => ∃ (v : V) (d : PyData), vs = [v] ∧ Rp K H v d ∧ shortD d ∧ Tabs tb H ∧ ∀ H', Ext tb [] H H' → Q (.bl (nameD d)) H'
theorem ok_is_name {c pt : Addr} {tb : List Addr} (T : Txt K mg) (TB : LamX.TabB base mg c pt) (hpt : pt ∈ tb) (F : FnAt K mg "is_name" s_is_name ["one"] f (.ref c)) : CalE P w K mg base CX0 1 "is_name" (spIsName K tb) := by
  refine F.cal sc_is_name (fun vs H Q E h => ?_) (fun A outer s H vs Q E hr h => ?_)
  · obtain ⟨v, d, rfl, _⟩ := h
    rfl
  · obtain ⟨v, d, rfl, hd, hl, hT, q⟩ := h
    refine ⟨_, (pss_cons (ps_if (PW.pt (pw_or (pt_not (pt_val (pe_callB (q_isi (K := K) rfl) (by rfl) T.b_isinstance (by decide +kernel) (pa_cons (pv 0) (pa_cons (pe_bltn (v := .ty "str") (by rfl) T.b_str (by decide +kernel) rfl) pa_nil))))) (pw_or1 (pt_not (pt_chain op_le op_le pe_int (pe_callB (q_len (K := K) rfl) (by rfl) T.b_len PySem.boot_len (pa_cons (pv 0) pa_nil)) (pe_glo (by rfl) T.m_LONGEST_NAME)))))) (pss_one (ps_ret pe_bl)) pss_nil)
      (pss_one (ps_ret (GX.pe_allG (N := ["sign"]) hr (by rfl) T.b_all TB rfl ⟨rfl, rfl, by decide +kernel, by decide +kernel, by rfl⟩ (pi_str (pv 0)) (fun Xg hX => ⟨by obtain ⟨_, _, _, _, _, _, _, rfl⟩ := hX; exact (pg_name (i := 0) (show (["sign"] : List Str).Nodup by decide) rfl (.inl rfl)), by obtain ⟨_, _, _, _, _, _, _, rfl⟩ := hX; exact (pe_cmpR op_in_sign (pv 0) (pe_glo (by rfl) T.m_LETTERS) (by rfl))⟩))))), ?_⟩
    refine ⟨_, rfl, _, _, .type (tyN d), _, _, rfl, .ty _, Rp_ty hd, kit_ty (kit_str d), _, rfl, ?_⟩
    cases es : isStr d with
    | false =>
      refine iteT ?_
      refine iteT ?_
      have : nameD d = false := by cases d <;> first | rfl | cases es
      exact this ▸ q H Ext.refl
    | true =>
    obtain ⟨z, rfl⟩ : ∃ z, d = .str z := by cases d <;> first | exact ⟨_, rfl⟩ | cases es
    cases hd
    have hl : z.length ≤ 1000 := hl
    have q : ∀ H', Ext tb [] H H' → Q (.bl (isNm z)) H' := q
    refine iteF ?_
    refine ⟨_, rfl, _, _, rfl, ⟨line_of (by omega), rfl⟩, _, _, rfl, rfl, _, rfl, ite2 (fun e => ?_) (fun e => ?_)⟩
    · refine ⟨_, _, rfl, rfl, _, rfl, ?_⟩
      cases e8 : decide ((z.length : Int) ≤ 8) with
      | false =>
        refine iteT ?_
        have : isNm z = false := by
          unfold isNm
          rw [e8, Bool.and_false, Bool.false_and]
        exact this ▸ q H Ext.refl
      | true =>
        refine iteF ?_
        refine ⟨_, rfl, _, rfl, hT pt hpt, fun H2 hH2 => ?_⟩
        have e2 : Ext tb [] H H2 := Ext.tabbed hH2 hpt
        refine allG_by z.cps.size (GxR.trF isLet z.cps.toList) (fun H3 => Ext tb [] H H3) e2 (fun _ _ => Nat.le_refl _) (fun i _ hi _ => hi) ?_ ?_
        · rintro i H3 x H4 hi ex ⟨rfl, c, hc, rfl⟩ R hR
          refine ⟨_, rfl, c, _, rfl, rfl, ?_⟩
          have : GxR.trF isLet z.cps.toList i = isLet c := GxR.trF_some (by simpa using hc)
          have hR' := hR H4 ex
          rw [this] at hR'
          exact hR'
        · rintro H3 b ex rfl
          rw [GxR.all_signs]
          have : isNm z = z.cps.toList.all isLet := by
            unfold isNm
            rw [e8, e, Bool.true_and, Bool.true_and]
          exact this ▸ q H3 ex
    · refine ⟨false, rfl, ?_⟩
      refine iteT ?_
      have : isNm z = false := by
        unfold isNm
        rw [Bool.eq_false_iff.mpr e, Bool.false_and, Bool.false_and]
      exact this ▸ q H Ext.refl
/-- the items of a tuple, walked by all(..) -/
theorem all_tup {tb : List Addr} {N : List Str} {g : TG} {te : TE} {Q : VK} {H H2 : Hp} {a : Addr} {xs : List V} {ds : List PyData} (fb : PyData → Bool) (hT : Tabs tb H) (ha : SqT K H a xs) (hxs : RpAll K H xs ds) (e2 : Ext tb [] H H2)
    (hstep : ∀ (i : Nat) (H3 : Hp) (x : V) (d : PyData), Ext tb [] H H3 → ds[i]? = some d → Rp K H3 x d → ∀ R : VK, (∀ H4, Ext tb [] H3 H4 → R (.bl (fb d)) H4) → g x (GX.tau0 N) H3 fun τ2 H2 => te τ2 H2 R)
    (q : ∀ H3, Ext tb [] H H3 → Q (.bl (ds.all fb)) H3) :
    ∃ (len : Nat) (W : Nat → Hp → Prop), W 0 H2 ∧ ∀ i H, W i H → i ≤ len ∧ (((Itt K a).stop i H ∧ Q (.bl true) H) ∨ (i < len ∧ (Itt K a).go i H ∧ ∀ x H', (Itt K a).yld i H x H' → g x (GX.tau0 N) H' fun τ2 H2 => te τ2 H2 fun y H3 => ∃ b, y = .bl b ∧ if b = true then W (i + 1) H3 else Q (.bl false) H3)) := by
  have hl := RpAll_len hxs
  refine allG_by ds.length (trV fb ds) (fun H3 => Ext tb [] H H3) e2 (fun H3 ex => ⟨_, ex.sqT hT ha (by simp), by omega⟩) (fun i H3 hi ex => ⟨_, _, ex.sqT hT ha (by simp), List.getElem?_eq_getElem (by omega)⟩) ?_ ?_
  · rintro i H3 x H4 hi ex ⟨rfl, hy⟩ R hR
    have hx := hy _ (ex.sqT hT ha (by simp))
    obtain ⟨d, h1, h2⟩ := RpAll_get hxs hx
    refine hstep i H4 x d ex h1 (Rp_ext ex hT d h2) R fun H5 e5 => ?_
    have hR' := hR H5 (ex.trans e5)
    rw [trV_some h1] at hR'
    exact hR'
  · rintro H3 b ex rfl
    rw [all_trV]
    exact q H3 ex
def shortT : PyData → Prop
  | .tuple ds => ∀ d ∈ ds, shortD d
  | _ => True

/-! ### codes of names -/
def sgn (k : Int) : Str := ⟨#[(letters.cps.toList[(k - 1).toNat]?).getD 0]⟩
def lets : Nat → Int → Option (List Str)
  | 0, _ => some []
  | f + 1, n => if n ≤ 0 then some [] else if n % 27 = 0 then none else (lets f (n / 27)).map (sgn (n % 27) :: ·)
def codeS : PyData → Option Str
  | .int n => if 0 < n ∧ n < 282429536481 then (lets 8 n).map (fun l => Txt.join "" l.reverse) else none
  | _ => none
theorem lets0 (f : Nat) {n : Int} (h : n ≤ 0) : lets f n = some [] := by
  cases f with
  | zero => rfl
  | succ f => show (if n ≤ 0 then some [] else _) = _; rw [if_pos h]
theorem sgn_at {k : Int} (h0 : 0 < k) (h1 : k < 27) : ∃ c, atI letters.cps.toList (k - 1) = some c ∧ sgn k = ⟨#[c]⟩ := by
  have hl : letters.cps.toList.length = 26 := by decide +kernel
  obtain ⟨j, hj⟩ : ∃ j : Nat, k - 1 = (j : Int) := ⟨(k - 1).toNat, by omega⟩
  have hk : j < letters.cps.toList.length := by omega
  refine ⟨letters.cps.toList[j], ?_, ?_⟩
  · rw [hj]
    exact atI_nat (List.getElem?_eq_getElem hk)
  · unfold sgn
    rw [hj, Int.toNat_natCast, List.getElem?_eq_getElem hk] <;> rfl
theorem sgn_len (k : Int) : (sgn k).length = 1 := rfl
theorem ones_sum : ∀ {ls : List Str}, (∀ l ∈ ls, l.length = 1) → (ls.map (·.length)).sum = ls.length
  | [], _ => rfl
  | l :: r, h => by
    rw [List.map_cons, List.sum_cons, h l (List.mem_cons_self ..), ones_sum fun x hx => h x (List.mem_cons_of_mem _ hx), List.length_cons]
    omega
def spNameOf (K : PySem.W.Frag) (tb : List Addr) (C : Addr) : Sp := fun vs H Q E => ∃ (v : V) (d : PyData), vs = [v] ∧ Rp K H v d ∧ Tabs tb H ∧ ∀ H', Ext tb [] H H' → match codeS d with
  | some s => Q (.str s) H'
  | none => E (.ref C) none H'
theorem ok_name_of {tb : List Addr} {C : Addr} (T : Txt K mg) (x_NoName : ExcI P K mg "NoName" C) (F : FnAt K mg "name_of" s_name_of ["code"] f cd) (C_is_number : CalE P w K mg base CX0 1 "is_number" (spIsNum K)) : CalE P w K mg base (L2.CX P w) 2 "name_of" (spNameOf K tb C) := by
  refine F.calX sc_name_of (fun vs H Q E h => ?_) (fun A outer s H vs Q E hr h => ?_)
  · obtain ⟨v, d, rfl, _⟩ := h
    rfl
  · obtain ⟨v, d, rfl, hd, hT, q⟩ := h
    refine ⟨_, (pss_cons (ps_if (PW.pt (pw_or (pt_not (pt_val (pe_cal C_is_number (hr.mono (by first | decide | omega)) (by rfl) (pa_cons (pv 0) pa_nil)))) (pw_or1 (pt_not (pt_chain op_lt op_lt pe_int (pv 0) (pe_op op_pow pe_int pe_int)))))) (pss_one (ps_raise rfl (takes_of rfl rfl rfl rfl) (pmk_ownI x_NoName hr (by rfl)))) pss_nil)
      (pss_cons (ps_set (i := 1) sc_name_of.nd rfl (.inl rfl) (pe_lst pa_nil))
      (pss_cons (ps_set (i := 2) sc_name_of.nd rfl (.inl rfl) (pv 0))
      (pss_cons (ps_while (passes_of rfl) (pt_cmpR op_gt (pv 2) pe_int (nomark _)) (pss_cons (ps_asg (pe_callB call_divmod (by rfl) T.b_divmod (by decide +kernel) (pa_cons (pv 2) (pa_cons pe_int pa_nil))) (RJ.q_pgT (K := K) (n := 2) rfl rfl (pgs_cons (pg_name (i := 2) sc_name_of.nd rfl (.inl rfl)) (pgs_cons (pg_name (i := 3) sc_name_of.nd rfl (.inl rfl)) pgs_nil))))
      (pss_cons (ps_if (pt_cmpR op_eq (pv 3) pe_int (nomark _)) (pss_one (ps_raise rfl (takes_of rfl rfl rfl rfl) (pmk_ownI x_NoName hr (by rfl)))) pss_nil)
      (pss_one (ps_expr (q_bm (K := K) rfl PySem.F.plainAttrs_list PySem.F.slot_list_append PySem.F.type_list_append mt_append (pv 1) (pa_cons (pe_ix ix_str (pe_glo (by rfl) T.m_LETTERS) (pe_op op_sub (pv 3) pe_int) (fun _ _ => rfl)) pa_nil)))))))
      (pss_one (ps_ret (RJ.q_joinRev (K := K) rfl rfl pe_str (by rfl) T.b_reversed (pv 1)))))))), ?_⟩
    refine ⟨_, rfl, v, d, rfl, hd, _, rfl, ?_⟩
    cases hn : isNumD d with
    | false =>
      refine iteT ?_
      refine iteT ?_
      have : codeS d = none := by cases d <;> first | rfl | cases hn
      have q0 := q H Ext.refl
      rw [this] at q0
      exact q0
    | true =>
    obtain ⟨code, rfl⟩ := num_int hn
    cases hd
    refine iteF ?_
    refine ⟨_, rfl, _, _, rfl, rfl, _, rfl, ?_⟩
    by_cases hrg : 0 < code ∧ code < 282429536481
    · rw [decide_eq_true hrg.1]
      refine iteT ?_
      refine ⟨_, _, rfl, rfl, ⟨by decide, by decide, by decide⟩, _, _, rfl, rfl, _, rfl, ?_⟩
      have e8 : decide (code < 27 ^ (8:Int).toNat) = true := decide_eq_true (show code < 282429536481 from hrg.2)
      rw [e8]
      refine iteF ?_
      refine ⟨Nat.zero_le _, fun L nL => ?_⟩
      refine ⟨_, rfl, ?_⟩
      have e0 : Ext tb [] H (upd H L (.lst (([] : List Str).map V.str))) := Ext.new hT nL
      refine ⟨fun m σ H2 => ∃ (ls : List Str) (n : Int) (y3 : Option V), σ = [some (.int code), some (.ref L), some (.int n), y3] ∧ 0 ≤ n ∧ n < 27 ^ m ∧ ls.length + m = 8 ∧ (∀ l ∈ ls, l.length = 1) ∧ Ext tb [] H H2 ∧ H2 L = some (.lst (ls.map V.str)) ∧ lets 8 code = (lets m n).map (ls ++ ·), ⟨8, [], code, _, rfl, by omega, hrg.2, rfl, (fun l hl => by cases hl), e0, upd_same, ?_⟩, ?_⟩
      · cases lets 8 code <;> rfl
      · rintro m σ H2 ⟨ls, n, y3, rfl, hn0, hnm, hlm, hls, e2, hL2, hlet⟩
        have hT2 := e2.tabs hT
        refine ⟨_, rfl, _, _, rfl, rfl, _, rfl, ?_⟩
        by_cases hpos : 0 < n
        · rw [decide_eq_true hpos]
          refine iteT ?_
          obtain ⟨m', rfl⟩ : ∃ m', m = m' + 1 := by
            cases m with
            | zero => exact absurd (show n < 1 from hnm) (by omega)
            | succ m' => exact ⟨m', rfl⟩
          have hstep : lets (m' + 1) n = if n % 27 = 0 then none else (lets m' (n / 27)).map (sgn (n % 27) :: ·) := by
            show (if n ≤ 0 then some [] else _) = _
            rw [if_neg (by omega)]
          have b27 := Int.emod_nonneg n (b := 27) (by decide)
          have c27 := Int.emod_lt_of_pos n (b := 27) (by decide)
          refine ⟨fun σ' H' => ∃ (ls : List Str) (n : Int) (y3 : Option V), σ' = [some (.int code), some (.ref L), some (.int n), y3] ∧ 0 ≤ n ∧ n < 27 ^ m' ∧ ls.length + m' = 8 ∧ (∀ l ∈ ls, l.length = 1) ∧ Ext tb [] H H' ∧ H' L = some (.lst (ls.map V.str)) ∧ lets 8 code = (lets m' n).map (ls ++ ·), fun σ' H' h => ⟨m', Nat.lt_succ_self _, h⟩, ?_⟩
          refine ⟨_, rfl, _, _, rfl, ⟨by decide, by decide⟩, fun p np => ?_⟩
          have e3 : Ext tb [] H2 (upd H2 p (.tup [.int (n / 27), .int (n % 27)])) := Ext.new hT2 np
          have e03 := e2.trans e3
          have hL3 := e3.lst hT2 hL2 (by simp)
          refine ⟨p, _, rfl, SqT.of upd_same, rfl, ?_⟩
          refine ⟨_, _, rfl, _, _, rfl, rfl, ?_⟩
          refine ⟨_, rfl, rfl, _, rfl, ?_⟩
          by_cases hz : n % 27 = 0
          · rw [decide_eq_true (show V.int (n % 27) = V.int 0 by rw [hz] <;> rfl)]
            refine iteT ?_
            have hnone : codeS (.int code) = none := by
              show (if 0 < code ∧ code < 282429536481 then (lets 8 code).map _ else none) = none
              rw [if_pos hrg, hlet, hstep, if_pos hz] <;> rfl
            have q0 := q _ e03
            rw [hnone] at q0
            exact q0
          · rw [decide_eq_false (show ¬ V.int (n % 27) = V.int 0 from fun z => hz (V.int.inj z))]
            refine iteF ?_
            obtain ⟨c, hc, hsg⟩ := sgn_at (k := n % 27) (by omega) c27
            refine ⟨_, rfl, .inl ⟨rfl, _, SqL.of hL3⟩, _, rfl, _, _, rfl, rfl, letters, _, c, rfl, rfl, (by decide +kernel), hc, L, _, _, rfl, rfl, hL3, line_lt (by rw [List.length_map]; omega), ?_⟩
            refine ⟨ls ++ [sgn (n % 27)], n / 27, _, rfl, Int.ediv_nonneg hn0 (by decide), Int.ediv_lt_of_lt_mul (by decide) (by rw [Int.pow_succ] at hnm; exact hnm), by rw [List.length_append]; show ls.length + 1 + m' = 8; omega, fun l hl => ?_, Ext.own hT e03 nL, ?_, ?_⟩
            · rcases List.mem_append.mp hl with hl | hl
              · exact hls l hl
              · rw [List.mem_singleton.mp hl]
                exact sgn_len _
            · rw [upd_same, List.map_append, hsg] <;> rfl
            · rw [hlet, hstep, if_neg hz]
              cases lets m' (n / 27) with
              | none => rfl
              | some r =>
                show some (ls ++ (sgn (n % 27) :: r)) = some ((ls ++ [sgn (n % 27)]) ++ r)
                rw [List.append_assoc] <;> rfl
        · rw [decide_eq_false hpos]
          refine iteF ?_
          have hsome : codeS (.int code) = some (Txt.join "" ls.reverse) := by
            show (if 0 < code ∧ code < 282429536481 then (lets 8 code).map _ else none) = _
            rw [if_pos hrg, hlet, lets0 m (by omega)]
            show some (Txt.join "" (ls ++ []).reverse) = _
            rw [List.append_nil]
          refine ⟨⟨_, rfl⟩, _, rfl, _, L, ls, rfl, rfl, SqL.of hL2, ?_, ?_⟩
          · rw [ones_sum hls]
            show ls.length + ls.length * 0 ≤ 16777216
            omega
          · have q0 := q H2 e2
            rw [hsome] at q0
            exact q0
    · have hnone : codeS (.int code) = none := by
        show (if 0 < code ∧ code < 282429536481 then (lets 8 code).map _ else none) = none
        rw [if_neg hrg]
      have q0 := q H Ext.refl
      rw [hnone] at q0
      by_cases hp : 0 < code
      · rw [decide_eq_true hp]
        refine iteT ?_
        refine ⟨_, _, rfl, rfl, ⟨by decide, by decide, by decide⟩, _, _, rfl, rfl, _, rfl, ?_⟩
        have e8 : decide (code < 27 ^ (8:Int).toNat) = false := decide_eq_false (show ¬ code < 282429536481 from fun z => hrg ⟨hp, z⟩)
        rw [e8]
        exact iteT q0
      · rw [decide_eq_false hp]
        refine iteF ?_
        exact ⟨_, rfl, iteT q0⟩

end
end K01

set_option Elab.async false
set_option linter.all false
set_option maxRecDepth 100000
set_option maxHeartbeats 1000000
namespace K01
open PySem PySem.Spec PyProof.Rows L2 HK DT
section
variable {P : Program} {w : World} {K : PySem.W.Frag} {mg : Str → Option Value} {base : Heap} {f : Addr} {cd : Value}
/-! ### a name's code -/
def codeL : List Nat → Int → Int
  | [], n => n
  | c :: r, n => codeL r (n * 27 + (c : Int) - 96)
def codeI (s : Str) : Int := codeL s.cps.toList 0
theorem codeL_snoc : ∀ (l : List Nat) (c : Nat) (n : Int), codeL (l ++ [c]) n = codeL l n * 27 + (c : Int) - 96
  | [], _, _ => rfl
  | a :: l, c, n => codeL_snoc l c _
theorem let_rg {c : Nat} (h : isLet c = true) : 97 ≤ c ∧ c ≤ 122 := by
  have k : letters.cps.toList.all (fun c => decide (97 ≤ c) && decide (c ≤ 122)) = true := by decide +kernel
  have := List.all_eq_true.mp k c (of_decide_eq_true h)
  simpa using this
theorem let_mk {c : Nat} (h1 : 97 ≤ c) (h2 : c ≤ 122) : isLet c = true := by
  have k : ∀ j : Fin 26, isLet (97 + j.val) = true := by decide +kernel
  have := k ⟨c - 97, by omega⟩
  rwa [show 97 + (⟨c - 97, by omega⟩ : Fin 26).val = c from (by show 97 + (c - 97) = c; omega)] at this
theorem idx_let {c : Nat} (h : isLet c = true) : ∃ rest, Builtin.Str.occurrences letters ⟨#[c]⟩ 0 letters.length 1 = (c - 97) :: rest := by
  have k : letters.cps.toList.all (fun c => (Builtin.Str.occurrences letters ⟨#[c]⟩ 0 letters.length 1).head? == some (c - 97)) = true := by decide +kernel
  have e := List.all_eq_true.mp k c (of_decide_eq_true h)
  have e := eq_of_beq e
  cases hl : Builtin.Str.occurrences letters ⟨#[c]⟩ 0 letters.length 1 with
  | nil => rw [hl] at e; cases e
  | cons a r =>
    rw [hl] at e
    exact ⟨r, by rw [Option.some.inj e]⟩
def codeD : PyData → Int
  | .str s => codeI s
  | _ => 0
def spCodeOf (K : PySem.W.Frag) (tb : List Addr) (C : Addr) : Sp := fun vs H Q E => ∃ (v : V) (d : PyData), vs = [v] ∧ Rp K H v d ∧ shortD d ∧ Tabs tb H ∧ ∀ H', Ext tb [] H H' → if nameD d = true then Q (.int (codeD d)) H' else E (.ref C) none H'
theorem ok_code_of {tb : List Addr} {C : Addr} (T : Txt K mg) (x_NoName : ExcI P K mg "NoName" C) (F : FnAt K mg "code_of" s_code_of ["name"] f cd) (C_is_name : CalE P w K mg base CX0 1 "is_name" (spIsName K tb)) : CalE P w K mg base (L2.CX P w) 2 "code_of" (spCodeOf K tb C) := by
  refine F.calX sc_code_of (fun vs H Q E h => ?_) (fun A outer s H vs Q E hr h => ?_)
  · obtain ⟨v, d, rfl, _⟩ := h
    rfl
  · obtain ⟨v, d, rfl, hd, hs, hT, q⟩ := h
    refine ⟨_, (pss_cons (ps_if (pt_not (pt_val (pe_cal C_is_name (hr.mono (by first | decide | omega)) (by rfl) (pa_cons (pv 0) pa_nil)))) (pss_one (ps_raise rfl (takes_of rfl rfl rfl rfl) (pmk_ownI x_NoName hr (by rfl)))) pss_nil)
      (pss_cons (ps_set (i := 1) sc_code_of.nd rfl (.inl rfl) pe_int)
      (pss_cons (ps_for (passes_of rfl) rfl (pi_str (pv 0)) (pg_name (i := 2) sc_code_of.nd rfl (.inl rfl)) (pss_one (ps_set (i := 1) sc_code_of.nd rfl (.inl rfl) (pe_op op_add (pe_op op_add (pe_op op_mul (pv 1) pe_int) (pe_m1 PySem.F.slot_str_index PySem.F.type_str_index mt_sindex (pe_glo (by rfl) T.m_LETTERS) (pv 2))) pe_int))))
      (pss_one (ps_ret (pv 1)))))), ?_⟩
    refine ⟨_, rfl, v, d, rfl, hd, hs, hT, fun H1 e1 => ⟨_, rfl, ?_⟩⟩
    have q1 := q H1 e1
    cases hn : nameD d with
    | false =>
      refine iteT ?_
      rw [hn, if_neg Bool.false_ne_true] at q1
      exact q1
    | true =>
    rw [hn, if_pos rfl] at q1
    obtain ⟨z, rfl⟩ : ∃ z, d = .str z := by cases d <;> first | exact ⟨_, rfl⟩ | cases hn
    cases hd
    refine iteF ?_
    have hal : z.cps.toList.all isLet = true := by
      have h : (decide ((1:Int) ≤ (z.length : Int)) && decide ((z.length : Int) ≤ 8) && z.cps.toList.all isLet) = true := hn
      exact (Bool.and_eq_true_iff.mp h).2
    refine ⟨_, rfl, z, rfl, ?_⟩
    refine for_it walk_str (fun i σ H2 => H2 = H1 ∧ ∃ y2 : Option V, σ = [some (.str z), some (.int (codeL (z.cps.toList.take i) 0)), y2]) ⟨rfl, none, rfl⟩ (fun _ _ _ _ _ => trivial) ?_ ?_
    · rintro i x σ H2 H3 hi ⟨rfl, y2, rfl⟩ ⟨rfl, c, hc, rfl⟩
      have hc' : z.cps.toList[i]? = some c := by rw [Array.getElem?_toList]; exact hc
      have hl : isLet c = true := List.all_eq_true.mp hal c (List.mem_of_getElem? hc')
      obtain ⟨rest, hr'⟩ := idx_let hl
      have rg := let_rg hl
      refine ⟨_, rfl, _, _, rfl, rfl, .inr ⟨by decide, by decide⟩, ⟨_, rfl⟩, _, rfl, letters, ⟨#[c]⟩, c - 97, rest, rfl, rfl, hr', _, _, rfl, rfl, _, _, rfl, rfl, rfl, some (.str ⟨#[c]⟩), ?_⟩
      rw [List.take_add_one, hc']
      show _ = [_, some (V.int (codeL (z.cps.toList.take i ++ [c]) 0)), _]
      rw [codeL_snoc]
      have : codeL (z.cps.toList.take i) 0 * 27 + (((c - 97 : Nat) : Int)) + 1 = codeL (z.cps.toList.take i) 0 * 27 + (c : Int) - 96 := by omega
      rw [← this]
      rfl
    · rintro σ H2 ⟨rfl, y2, rfl⟩
      have e : z.cps.toList.take z.cps.size = z.cps.toList := List.take_of_length_le (by rw [Array.length_toList]; exact Nat.le_refl _)
      rw [e]
      exact ⟨_, rfl, q1⟩
def spLCodeS : Sp := fun vs H Q _ => ∃ z : Str, vs = [.str z] ∧ Q (.int (codeI z)) H
theorem ok_l_code (T : Txt K mg) (F : FnAt K mg "_law_code" s_l_code ["_law_name"] f cd) : CalE P w K mg base CX0 1 "_law_code" spLCodeS := by
  refine F.cal sc_l_code (fun vs H Q E h => ?_) (fun A outer s H vs Q E hr h => ?_)
  · obtain ⟨z, rfl, _⟩ := h
    rfl
  · obtain ⟨z, rfl, q⟩ := h
    refine ⟨_, (pss_cons (ps_set (i := 1) sc_l_code.nd rfl (.inl rfl) pe_int)
      (pss_cons (ps_for PassesOwn.never rfl (pi_str (pv 0)) (pg_name (i := 2) sc_l_code.nd rfl (.inl rfl)) (pss_one (ps_set (i := 1) sc_l_code.nd rfl (.inl rfl) (pe_op op_sub (pe_op op_add (pe_op op_mul (pv 1) pe_int) (pe_callB call_ord (by rfl) T.b_ord (by decide +kernel) (pa_cons (pv 2) pa_nil))) pe_int))))
      (pss_one (ps_ret (pv 1))))), ?_⟩
    refine ⟨_, rfl, z, rfl, ?_⟩
    refine for_it walk_str (fun i σ H2 => H2 = H ∧ ∃ y2 : Option V, σ = [some (.str z), some (.int (codeL (z.cps.toList.take i) 0)), y2]) ⟨rfl, none, rfl⟩ (fun _ _ _ _ _ => trivial) ?_ ?_
    · rintro i x σ H2 H3 hi ⟨rfl, y2, rfl⟩ ⟨rfl, c, hc, rfl⟩
      have hc' : z.cps.toList[i]? = some c := by rw [Array.getElem?_toList]; exact hc
      refine ⟨_, rfl, _, _, rfl, rfl, .inr ⟨by decide, by decide⟩, _, rfl, ⟨#[c]⟩, rfl, rfl, _, _, rfl, rfl, _, _, rfl, rfl, rfl, some (.str ⟨#[c]⟩), ?_⟩
      rw [List.take_add_one, hc']
      show _ = [_, some (V.int (codeL (z.cps.toList.take i ++ [c]) 0)), _]
      rw [codeL_snoc]
      rfl
    · rintro σ H2 ⟨rfl, y2, rfl⟩
      have e : z.cps.toList.take z.cps.size = z.cps.toList := List.take_of_length_le (by rw [Array.length_toList]; exact Nat.le_refl _)
      rw [e]
      exact ⟨_, rfl, q⟩
/-! names and codes, there and back -/
def one (c : Nat) : Str := ⟨#[c]⟩
def valR : List Nat → Int
  | [] => 0
  | c :: r => valR r * 27 + (c : Int) - 96
theorem codeL_val : ∀ l : List Nat, codeL l 0 = valR l.reverse := fun l => by
  have : ∀ r : List Nat, codeL r.reverse 0 = valR r := fun r => by
    induction r with
    | nil => rfl
    | cons c r ih =>
      rw [List.reverse_cons, codeL_snoc, ih]
      rfl
  have h := this l.reverse
  rwa [List.reverse_reverse] at h
theorem sgn_one {k : Int} (h0 : 0 < k) (h1 : k < 27) : sgn k = one (96 + k.toNat) := by
  have key : ∀ j : Fin 26, sgn ((j.val : Int) + 1) = one (97 + j.val) := by decide +kernel
  have := key ⟨k.toNat - 1, by omega⟩
  rw [show (((⟨k.toNat - 1, by omega⟩ : Fin 26).val : Nat) : Int) + 1 = k from (by show ((k.toNat - 1 : Nat) : Int) + 1 = k; omega)] at this
  rw [this]
  show one (97 + (k.toNat - 1)) = _
  rw [show 97 + (k.toNat - 1) = 96 + k.toNat by omega]
theorem val_rg : ∀ {r : List Nat}, (∀ c ∈ r, isLet c = true) → 0 ≤ valR r ∧ valR r < 27 ^ r.length ∧ (r ≠ [] → 0 < valR r)
  | [], _ => ⟨Int.le_refl _, by decide, fun h => absurd rfl h⟩
  | c :: r, h => by
    have ih := val_rg (r := r) fun x hx => h x (List.mem_cons_of_mem _ hx)
    have rg := let_rg (h c (List.mem_cons_self ..))
    show 0 ≤ valR r * 27 + (c : Int) - 96 ∧ valR r * 27 + (c : Int) - 96 < 27 ^ (r.length + 1) ∧ _
    rw [Int.pow_succ]
    have := ih.1
    have := ih.2.1
    refine ⟨by omega, by omega, fun _ => ?_⟩
    show 0 < valR r * 27 + (c : Int) - 96
    omega
theorem lets_val : ∀ {r : List Nat} {f : Nat}, (∀ c ∈ r, isLet c = true) → r.length ≤ f → lets f (valR r) = some (r.map one)
  | [], f, _, _ => by
    rw [show valR [] = 0 from rfl, lets0 f (Int.le_refl 0)]
    rfl
  | c :: r, f, h, hf => by
    obtain ⟨g, rfl⟩ : ∃ g, f = g + 1 := ⟨f - 1, by rw [List.length_cons] at hf; omega⟩
    have hr : ∀ x ∈ r, isLet x = true := fun x hx => h x (List.mem_cons_of_mem _ hx)
    have ih := lets_val (r := r) (f := g) hr (by rw [List.length_cons] at hf; omega)
    have rg := let_rg (h c (List.mem_cons_self ..))
    have v0 := (val_rg hr).1
    show (if valR r * 27 + (c : Int) - 96 ≤ 0 then some [] else if (valR r * 27 + (c : Int) - 96) % 27 = 0 then none else (lets g ((valR r * 27 + (c : Int) - 96) / 27)).map (sgn ((valR r * 27 + (c : Int) - 96) % 27) :: ·)) = some (one c :: r.map one)
    rw [if_neg (by omega), if_neg (by omega), show (valR r * 27 + (c : Int) - 96) / 27 = valR r by omega, ih, sgn_one (by omega) (by omega), show 96 + ((valR r * 27 + (c : Int) - 96) % 27).toNat = c by omega]
    rfl
theorem val_lets : ∀ {f : Nat} {n : Int} {ls : List Str}, 0 ≤ n → n < 27 ^ f → lets f n = some ls → ∃ r : List Nat, ls = r.map one ∧ valR r = n ∧ r.length ≤ f ∧ ∀ c ∈ r, isLet c = true
  | 0, n, ls, h0, h1, h => by
    have : n = 0 := by
      have : n < 1 := h1
      omega
    subst this
    cases h
    exact ⟨[], rfl, rfl, Nat.le_refl _, fun c hc => by cases hc⟩
  | f + 1, n, ls, h0, h1, h => by
    have el : lets (f + 1) n = if n ≤ 0 then some [] else if n % 27 = 0 then none else (lets f (n / 27)).map (sgn (n % 27) :: ·) := rfl
    rw [el] at h
    by_cases z : n ≤ 0
    · rw [if_pos z] at h
      cases h
      have : n = 0 := by omega
      subst this
      exact ⟨[], rfl, rfl, Nat.zero_le _, fun c hc => by cases hc⟩
    rw [if_neg z] at h
    by_cases m : n % 27 = 0
    · rw [if_pos m] at h
      cases h
    rw [if_neg m] at h
    cases hl : lets f (n / 27) with
    | none => rw [hl] at h; cases h
    | some l =>
      rw [hl] at h
      cases h
      rw [Int.pow_succ] at h1
      obtain ⟨r, rfl, hv, hlen, hlet⟩ := val_lets (f := f) (n := n / 27) (by omega) (by omega) hl
      refine ⟨(96 + (n % 27).toNat) :: r, ?_, ?_, by rw [List.length_cons]; omega, fun c hc => ?_⟩
      · show sgn (n % 27) :: r.map one = _
        rw [sgn_one (by omega) (by omega)]
        rfl
      · show valR r * 27 + ((96 + (n % 27).toNat : Nat) : Int) - 96 = n
        rw [hv]
        omega
      · rcases List.mem_cons.mp hc with rfl | hc
        · exact let_mk (by omega) (by omega)
        · exact hlet c hc
theorem joinL_ones : ∀ l : List Nat, TL.joinL [] (l.map fun c => [c]) = l
  | [] => rfl
  | [c] => rfl
  | c :: d :: r => by
    show [c] ++ ([] ++ TL.joinL [] ((d :: r).map fun c => [c])) = _
    rw [joinL_ones (d :: r)]
    rfl
theorem join_ones (l : List Nat) : Txt.join "" (l.map one) = ⟨l.toArray⟩ := TL.ext_tl (by
  rw [TL.join_eq, TL.tl_join, List.map_map]
  have e1 : TL.tl "" = [] := by decide +kernel
  have e2 : (TL.tl ∘ one) = fun c => [c] := rfl
  rw [e1, e2, joinL_ones])
theorem nm_parts {s : Str} (h : isNm s = true) : 1 ≤ s.length ∧ s.length ≤ 8 ∧ ∀ c ∈ s.cps.toList, isLet c = true := by
  have h : (decide ((1:Int) ≤ (s.length : Int)) && decide ((s.length : Int) ≤ 8) && s.cps.toList.all isLet) = true := h
  rw [Bool.and_eq_true, Bool.and_eq_true] at h
  have h1 := of_decide_eq_true h.1.1
  have h2 := of_decide_eq_true h.1.2
  exact ⟨by omega, by omega, List.all_eq_true.mp h.2⟩
theorem pow_le {k : Nat} (h : k ≤ 8) : (27:Int) ^ k ≤ 282429536481 := by
  have : ∀ j : Fin 9, (27:Int) ^ j.val ≤ 282429536481 := by decide +kernel
  exact this ⟨k, by omega⟩
theorem there_back {s : Str} (h : isNm s = true) : codeS (.int (codeI s)) = some s := by
  obtain ⟨h1, h8, hl⟩ := nm_parts h
  have len : s.cps.toList.length = s.length := Array.length_toList
  have hr : ∀ c ∈ s.cps.toList.reverse, isLet c = true := fun c hc => hl c (List.mem_reverse.mp hc)
  have lr : s.cps.toList.reverse.length = s.length := by rw [List.length_reverse, len]
  have rg := val_rg hr
  have e : codeI s = valR s.cps.toList.reverse := codeL_val _
  rw [e]
  show (if 0 < valR s.cps.toList.reverse ∧ valR s.cps.toList.reverse < 282429536481 then (lets 8 (valR s.cps.toList.reverse)).map (fun l => Txt.join "" l.reverse) else none) = some s
  rw [if_pos ⟨rg.2.2 (fun z => by rw [z] at lr; simp at lr; omega), Int.lt_of_lt_of_le rg.2.1 (by rw [lr]; exact pow_le h8)⟩, lets_val hr (by omega)]
  show some (Txt.join "" (s.cps.toList.reverse.map one).reverse) = some s
  rw [← List.map_reverse, List.reverse_reverse, join_ones]
theorem back_there {n : Int} {s : Str} (h : codeS (.int n) = some s) : codeI s = n ∧ s.length ≤ 8 ∧ isNm s = true := by
  by_cases z : 0 < n ∧ n < 282429536481
  · have h : (if 0 < n ∧ n < 282429536481 then (lets 8 n).map (fun l => Txt.join "" l.reverse) else none) = some s := h
    rw [if_pos z] at h
    cases hl : lets 8 n with
    | none => rw [hl] at h; cases h
    | some ls =>
      rw [hl] at h
      obtain ⟨r, rfl, hv, hlen, hlet⟩ := val_lets (f := 8) (by omega) z.2 hl
      have e : Txt.join "" (r.map one).reverse = s := Option.some.inj h
      rw [← List.map_reverse, join_ones] at e
      subst e
      have ne : r ≠ [] := fun y => by
        rw [y] at hv
        have : (0:Int) = n := hv
        omega
      have l1 : 1 ≤ r.length := by
        cases r with
        | nil => exact absurd rfl ne
        | cons a b => rw [List.length_cons]; omega
      have len : (⟨r.reverse.toArray⟩ : Str).length = r.length := by
        show r.reverse.toArray.size = _
        rw [List.size_toArray, List.length_reverse]
      refine ⟨?_, by rw [len]; exact hlen, ?_⟩
      · show codeL r.reverse.toArray.toList 0 = n
        rw [List.toList_toArray, codeL_val, List.reverse_reverse, hv]
      · show (decide ((1:Int) ≤ ((⟨r.reverse.toArray⟩ : Str).length : Int)) && decide (((⟨r.reverse.toArray⟩ : Str).length : Int) ≤ 8) && r.reverse.toArray.toList.all isLet) = true
        rw [len, decide_eq_true (by omega), decide_eq_true (by omega), List.toList_toArray]
        show r.reverse.all isLet = true
        rw [List.all_eq_true]
        exact fun c hc => hlet c (List.mem_reverse.mp hc)
  · have h : (if 0 < n ∧ n < 282429536481 then (lets 8 n).map (fun l => Txt.join "" l.reverse) else none) = some s := h
    rw [if_neg z] at h
    cases h

end
end K01

set_option Elab.async false
set_option linter.all false
set_option maxRecDepth 100000
set_option maxHeartbeats 1000000
namespace K01
open PySem PySem.Spec PyProof.Rows L2 HK DT
section
variable {P : Program} {w : World} {K : PySem.W.Frag} {mg : Str → Option Value} {base : Heap} {f : Addr} {cd : Value}
/-! ### the law's own: words, what is refused, what fits -/
theorem okc (n : Int) : (codeS (.int n)).isSome = if 0 < n ∧ n < 282429536481 then (lets 8 n).isSome else false := by
  show (if 0 < n ∧ n < 282429536481 then (lets 8 n).map _ else none).isSome = _
  by_cases z : 0 < n ∧ n < 282429536481
  · rw [if_pos z, if_pos z, Option.isSome_map]
  · rw [if_neg z, if_neg z]
    rfl
theorem mod_rg (x m : Int) (h : 0 < m) : 0 ≤ x % m ∧ x % m < m := ⟨Int.emod_nonneg _ (by omega), Int.emod_lt_of_pos _ h⟩
def spLIsCode : Sp := fun vs H Q _ => ∃ c : Int, vs = [.int c] ∧ Q (.bl (codeS (.int c)).isSome) H
theorem ok_l_is_code (T : Txt K mg) (F : FnAt K mg "_law_is_code" s_l_is_code ["_law_number_here"] f cd) : CalE P w K mg base CX0 1 "_law_is_code" spLIsCode := by
  refine F.cal sc_l_is_code (fun vs H Q E h => ?_) (fun A outer s H vs Q E hr h => ?_)
  · obtain ⟨n, rfl, _⟩ := h
    rfl
  · obtain ⟨c, rfl, q⟩ := h
    refine ⟨_, (pss_cons (ps_if (PW.pt (pw_or (pt_cmpR op_lt (pv 0) pe_int (nomark _)) (pw_or1 (pt_cmpR op_ge (pv 0) (pe_op op_pow pe_int pe_int) (nomark _))))) (pss_one (ps_ret pe_bl)) pss_nil)
      (pss_cons (ps_while PassesOwn.never (pt_cmpR op_gt (pv 0) pe_int (nomark _)) (pss_cons (ps_if (pt_cmpR op_eq (pe_op op_mod (pv 0) pe_int) pe_int (nomark _)) (pss_one (ps_ret pe_bl)) pss_nil)
      (pss_one (ps_set (i := 0) sc_l_is_code.nd rfl (.inl rfl) (pe_op op_fdiv (pv 0) pe_int)))))
      (pss_one (ps_ret pe_bl)))), ?_⟩
    rw [okc] at q
    refine ⟨_, rfl, _, _, rfl, rfl, _, rfl, ?_⟩
    by_cases h1 : c < 1
    · rw [decide_eq_true h1]
      refine iteT (iteT ?_)
      rw [if_neg (by omega)] at q
      exact q
    rw [decide_eq_false h1]
    refine iteF ?_
    refine ⟨_, rfl, _, _, rfl, rfl, ⟨by decide, by decide, by decide⟩, _, _, rfl, rfl, _, rfl, ?_⟩
    by_cases h8 : c ≥ 282429536481
    · rw [show decide (c ≥ 27 ^ (8:Int).toNat) = true from decide_eq_true h8]
      refine iteT ?_
      rw [if_neg (by omega)] at q
      exact q
    rw [show decide (c ≥ 27 ^ (8:Int).toNat) = false from decide_eq_false h8]
    refine iteF ?_
    rw [if_pos (by omega)] at q
    refine ⟨fun m σ H2 => H2 = H ∧ ∃ v : Int, σ = [some (.int v)] ∧ 0 ≤ v ∧ v < 27 ^ m ∧ (lets m v).isSome = (lets 8 c).isSome, ⟨8, rfl, c, rfl, by omega, by show c < 282429536481; omega, rfl⟩, ?_⟩
    rintro m σ H2 ⟨rfl, v, rfl, hv0, hv, he⟩
    refine ⟨_, rfl, _, _, rfl, rfl, _, rfl, ?_⟩
    by_cases hp : v > 0
    · rw [decide_eq_true hp]
      obtain ⟨k, rfl⟩ : ∃ k, m = k + 1 := by
        cases m with
        | zero => exact absurd (show v < 1 from hv) (by omega)
        | succ k => exact ⟨k, rfl⟩
      have el : lets (k + 1) v = if v ≤ 0 then some [] else if v % 27 = 0 then none else (lets k (v / 27)).map (sgn (v % 27) :: ·) := rfl
      rw [el, if_neg (by omega)] at he
      refine iteT ⟨fun σ' H' => H' = H2 ∧ σ' = [some (.int (v / 27))] ∧ v % 27 ≠ 0, ?_, ?_⟩
      · rintro σ' H' ⟨rfl, rfl, hm⟩
        rw [if_neg hm, Option.isSome_map] at he
        refine ⟨k, Nat.lt_succ_self _, rfl, _, rfl, by omega, ?_, he⟩
        rw [Int.pow_succ] at hv
        omega
      · refine ⟨_, rfl, _, _, rfl, rfl, (by show (0:Int) < 27; decide), rfl, _, rfl, ?_⟩
        by_cases hm : v % 27 = 0
        · rw [decide_eq_true (show V.int (v % 27) = V.int 0 by rw [hm])]
          refine iteT ?_
          rw [if_pos hm] at he
          rw [← he] at q
          exact q
        · rw [decide_eq_false (fun z : V.int (v % 27) = V.int 0 => hm (V.int.inj z))]
          refine iteF ?_
          exact ⟨_, rfl, _, _, rfl, rfl, ⟨by decide, by decide⟩, rfl, rfl, hm⟩
    · rw [decide_eq_false hp]
      refine iteF ?_
      rw [lets0 m (by omega)] at he
      rw [← he] at q
      exact q
def spWord : Sp := fun vs H Q _ => ∃ n : Int, vs = [.int n] ∧ 0 ≤ n ∧ ∀ s : Str, isNm s = true → Q (.str s) H
theorem nm_app {s : Str} {c : Nat} {i : Nat} (h1 : s.length = i) (h8 : i < 8) (ha : ∀ c ∈ s.cps.toList, isLet c = true) (hc : isLet c = true) : (s ++ one c).length = i + 1 ∧ ∀ x ∈ (s ++ one c).cps.toList, isLet x = true := by
  have e : TL.tl (s ++ one c) = TL.tl s ++ [c] := by rw [TL.tl_append] <;> rfl
  have e : (s ++ one c).cps.toList = s.cps.toList ++ [c] := e
  constructor
  · show (s ++ one c).cps.size = _
    rw [← Array.length_toList, e, List.length_append, Array.length_toList]
    show s.length + 1 = _
    omega
  · rw [e]
    intro x hx
    rcases List.mem_append.mp hx with h | h
    · exact ha x h
    · rw [List.mem_singleton.mp h]
      exact hc
theorem nm_mk {s : Str} (h1 : 1 ≤ s.length) (h8 : s.length ≤ 8) (ha : ∀ c ∈ s.cps.toList, isLet c = true) : isNm s = true := by
  show (decide ((1:Int) ≤ (s.length : Int)) && decide ((s.length : Int) ≤ 8) && s.cps.toList.all isLet) = true
  rw [decide_eq_true (by omega), decide_eq_true (by omega), List.all_eq_true.mpr ha]
  rfl
theorem let_at {k : Int} (h0 : 0 ≤ k) (h1 : k < 26) : ∃ c, atI letters.cps.toList k = some c ∧ isLet c = true := by
  have hl : letters.cps.toList.length = 26 := by decide +kernel
  have hk : k.toNat < letters.cps.toList.length := by omega
  refine ⟨letters.cps.toList[k.toNat], ?_, decide_eq_true (List.getElem_mem hk)⟩
  have : atI letters.cps.toList ((k.toNat : Nat) : Int) = some letters.cps.toList[k.toNat] := atI_nat (List.getElem?_eq_getElem hk)
  rwa [show ((k.toNat : Nat) : Int) = k by omega] at this
theorem ok_l_word (T : Txt K mg) (F : FnAt K mg "_law_word" s_l_word ["_law_number_here"] f cd) : CalE P w K mg base CX0 1 "_law_word" spWord := by
  refine F.cal sc_l_word (fun vs H Q E h => ?_) (fun A outer s H vs Q E hr h => ?_)
  · obtain ⟨n, rfl, _⟩ := h
    rfl
  · obtain ⟨n, rfl, hn, q⟩ := h
    refine ⟨_, (pss_cons (ps_set (i := 1) sc_l_word.nd rfl (.inl rfl) pe_str)
      (pss_cons (ps_set (i := 2) sc_l_word.nd rfl (.inl rfl) pe_str)
      (pss_cons (ps_for PassesOwn.never rfl (pi_range1 (by rfl) T.b_range (pa_cons (pe_op op_add pe_int (pe_op op_mod (pv 0) pe_int)) pa_nil)) (pg_name (i := 3) sc_l_word.nd rfl (.inl rfl)) (pss_cons (ps_set (i := 0) sc_l_word.nd rfl (.inl rfl) (pe_op op_fdiv (pv 0) pe_int))
      (pss_cons (ps_set (i := 2) sc_l_word.nd rfl (.inl rfl) (pe_op op_add_str (pv 2) (pe_ix ix_str (pv 1) (pe_op op_mod (pe_op op_mul (pv 0) (pe_op op_add (pv 3) pe_int)) pe_int) (fun _ _ => rfl))))
      (pss_one (ps_set (i := 0) sc_l_word.nd rfl (.inl rfl) (pe_op op_fdiv (pv 0) pe_int))))))
      (pss_one (ps_ret (pv 2)))))), ?_⟩
    have b := mod_rg n 8 (by decide)
    refine ⟨_, rfl, _, _, rfl, rfl, (by show (0:Int) < 8; decide), _, _, rfl, rfl, _, rfl, by omega, by omega, for_range (lo := 0) (n := (1 + n % 8).toNat) (fun i σ H2 => H2 = H ∧ ∃ (m : Int) (z : Str) (y3 : Option V), σ = [some (.int m), some (.str letters), some (.str z), y3] ∧ 0 ≤ m ∧ z.length = i ∧ ∀ c ∈ z.cps.toList, isLet c = true) ⟨rfl, n, "", none, rfl, hn, by decide +kernel, fun c hc => by
      have e : ("" : Str).cps.toList = [] := by decide +kernel
      rw [e] at hc
      cases hc⟩ ?_ ?_⟩
    · rintro i σ H2 hi ⟨rfl, m, z, y3, rfl, hm, hz, ha⟩
      have b26 := mod_rg (m / 8 * (0 + (i : Int) + 1)) 26 (by decide)
      obtain ⟨c, hc, hl⟩ := let_at b26.1 b26.2
      obtain ⟨l1, l2⟩ := nm_app hz (by omega) ha hl
      refine ⟨_, rfl, _, _, rfl, rfl, ⟨by decide, by decide⟩, ?_⟩
      refine ⟨_, rfl, _, rfl, _, rfl, _, rfl, _, _, rfl, rfl, _, _, rfl, rfl, .inr ⟨by omega, by omega⟩, _, _, rfl, rfl, (by show (0:Int) < 26; decide), letters, _, c, rfl, rfl, by decide +kernel, hc, _, _, rfl, rfl, ?_, ?_⟩
      · refine line_of ?_
        show z.length + 1 ≤ _
        omega
      · exact ⟨_, rfl, _, _, rfl, rfl, ⟨by decide, by decide⟩, rfl, _, _, _, rfl, by omega, l1, l2⟩
    · rintro σ H2 ⟨rfl, m, z, y3, rfl, hm, hz, ha⟩
      exact ⟨_, rfl, q z (nm_mk (by omega) (by omega) ha)⟩
def spRefN (K : PySem.W.Frag) (tb : List Addr) : Sp := fun vs H Q _ => ∃ (v : V) (d : PyData), vs = [v] ∧ Rp K H v d ∧ shortD d ∧ Tabs tb H ∧ ∀ H', Ext tb [] H H' → Q (.bl (!nameD d)) H'
theorem ok_l_refuses_name {tb : List Addr} {C : Addr} (x_NoName : ExcI P K mg "NoName" C) (F : FnAt K mg "_law_refuses_name" s_l_refuses_name ["_law_one"] f cd) (C_code_of : CalE P w K mg base (L2.CX P w) 2 "code_of" (spCodeOf K tb C)) : CalE P w K mg base CX0 3 "_law_refuses_name" (spRefN K tb) := by
  refine F.cal sc_l_refuses_name (fun vs H Q E h => ?_) (fun A outer s H vs Q E hr h => ?_)
  · obtain ⟨v, d, rfl, _⟩ := h
    rfl
  · obtain ⟨v, d, rfl, hd, hs, hT, q⟩ := h
    refine ⟨_, (pss_cons (ps_try_only rfl rfl ⟨rfl, by decide, .inl x_NoName.m⟩ takes0 (fun W pn xe tk _ => (pss_one (ps_expr (pe_calS C_code_of (hr.mono (by first | decide | omega)) (by rfl) tk (pa_cons (pv 0) pa_nil))))) (fun a oe cls d pn _ _ => (pss_one (ps_ret pe_bl))))
      (pss_one (ps_ret pe_bl))), ?_⟩
    refine ⟨_, rfl, v, d, rfl, hd, hs, hT, fun H1 e1 => ?_⟩
    have q1 := q H1 e1
    cases hn : nameD d with
    | true =>
      rw [hn] at q1
      refine iteT ?_
      exact q1
    | false =>
      rw [hn] at q1
      refine iteF ?_
      exact ⟨true, x_NoName.ex, fun _ a ha => q1, fun z => nomatch z⟩
def spRefC (K : PySem.W.Frag) (tb : List Addr) : Sp := fun vs H Q _ => ∃ (v : V) (d : PyData), vs = [v] ∧ Rp K H v d ∧ Tabs tb H ∧ ∀ H', Ext tb [] H H' → Q (.bl (codeS d).isNone) H'
theorem ok_l_refuses_code {tb : List Addr} {C : Addr} (x_NoName : ExcI P K mg "NoName" C) (F : FnAt K mg "_law_refuses_code" s_l_refuses_code ["_law_one"] f cd) (C_name_of : CalE P w K mg base (L2.CX P w) 2 "name_of" (spNameOf K tb C)) : CalE P w K mg base CX0 3 "_law_refuses_code" (spRefC K tb) := by
  refine F.cal sc_l_refuses_code (fun vs H Q E h => ?_) (fun A outer s H vs Q E hr h => ?_)
  · obtain ⟨v, d, rfl, _⟩ := h
    rfl
  · obtain ⟨v, d, rfl, hd, hT, q⟩ := h
    refine ⟨_, (pss_cons (ps_try_only rfl rfl ⟨rfl, by decide, .inl x_NoName.m⟩ takes0 (fun W pn xe tk _ => (pss_one (ps_expr (pe_calS C_name_of (hr.mono (by first | decide | omega)) (by rfl) tk (pa_cons (pv 0) pa_nil))))) (fun a oe cls d pn _ _ => (pss_one (ps_ret pe_bl))))
      (pss_one (ps_ret pe_bl))), ?_⟩
    refine ⟨_, rfl, v, d, rfl, hd, hT, fun H' ex => ?_⟩
    have q0 := q H' ex
    cases hc : codeS d with
    | some s =>
      rw [hc] at q0
      exact q0
    | none =>
      rw [hc] at q0
      exact ⟨true, x_NoName.ex, fun _ a ha => q0, fun z => nomatch z⟩
def spLNum (K : PySem.W.Frag) : Sp := fun vs H Q _ => ∃ (v : V) (d : PyData), vs = [v] ∧ Rp K H v d ∧ Q (.bl (isNumD d)) H
theorem ok_l_number (T : Txt K mg) (F : FnAt K mg "_law_number" s_l_number ["_law_found"] f cd) : CalE P w K mg base CX0 1 "_law_number" (spLNum K) := by
  refine F.cal sc_l_number (fun vs H Q E h => ?_) (fun A outer s H vs Q E hr h => ?_)
  · obtain ⟨v, d, rfl, _⟩ := h
    rfl
  · obtain ⟨v, d, rfl, hd, q⟩ := h
    refine ⟨_, (pss_one (ps_ret (pe_and (pe_callB (q_isi (K := K) rfl) (by rfl) T.b_isinstance (by decide +kernel) (pa_cons (pv 0) (pa_cons (pe_bltn (v := .ty "int") (by rfl) T.b_int (by decide +kernel) rfl) pa_nil))) (pe_one (pe_not (pe_callB (q_isi (K := K) rfl) (by rfl) T.b_isinstance (by decide +kernel) (pa_cons (pv 0) (pa_cons (pe_bltn (v := .ty "bool") (by rfl) T.b_bool (by decide +kernel) rfl) pa_nil)))))))), ?_⟩
    exact num_rd rfl hd q
def spFitsN (tb : List Addr) : Sp := fun vs H Q _ => ∃ s : Str, vs = [.str s] ∧ isNm s = true ∧ Tabs tb H ∧ ∀ H', Ext tb [] H H' → Q (.bl true) H'
theorem ok_l_fits_name {tb : List Addr} {C : Addr} (T : Txt K mg) (F : FnAt K mg "_law_fits_name" s_l_fits_name ["_law_word_here"] f cd) (C_code_of : CalE P w K mg base (L2.CX P w) 2 "code_of" (spCodeOf K tb C)) (C_name_of : CalE P w K mg base (L2.CX P w) 2 "name_of" (spNameOf K tb C)) (C_l_number : CalE P w K mg base CX0 1 "_law_number" (spLNum K)) (C_l_code : CalE P w K mg base CX0 1 "_law_code" spLCodeS) : CalE P w K mg base CX0 3 "_law_fits_name" (spFitsN tb) := by
  refine F.cal sc_l_fits_name (fun vs H Q E h => ?_) (fun A outer s H vs Q E hr h => ?_)
  · obtain ⟨z, rfl, _⟩ := h
    rfl
  · obtain ⟨z, rfl, hz, hT, q⟩ := h
    refine ⟨_, (pss_cons (ps_set (i := 1) sc_l_fits_name.nd rfl (.inl rfl) (pe_calL C_code_of (hr.mono (by first | decide | omega)) (by rfl) (pa_cons (pv 0) pa_nil)))
      (pss_cons (ps_if (PW.pt (pw_or (pt_not (pt_val (pe_cal C_l_number (hr.mono (by first | decide | omega)) (by rfl) (pa_cons (pv 1) pa_nil)))) (pw_or1 (pt_cmpR op_ne (pv 1) (pe_cal C_l_code (hr.mono (by first | decide | omega)) (by rfl) (pa_cons (pv 0) pa_nil)) (nomark _))))) (pss_one (ps_ret pe_bl)) pss_nil)
      (pss_cons (ps_set (i := 2) sc_l_fits_name.nd rfl (.inl rfl) (pe_calL C_name_of (hr.mono (by first | decide | omega)) (by rfl) (pa_cons (pv 1) pa_nil)))
      (pss_one (ps_ret (pe_and (pe_callB (q_isi (K := K) rfl) (by rfl) T.b_isinstance (by decide +kernel) (pa_cons (pv 2) (pa_cons (pe_bltn (v := .ty "str") (by rfl) T.b_str (by decide +kernel) rfl) pa_nil))) (pe_one (pe_cmpR op_eq (pv 2) (pv 0) (nomark _))))))))), ?_⟩
    have hp := nm_parts hz
    refine ⟨_, rfl, .str z, .str z, rfl, .str z, (show z.length ≤ 1000 by omega), hT, fun H1 e1 => ?_⟩
    have hT1 := e1.tabs hT
    refine ite_t (show nameD (.str z) = true from hz) ?_
    refine ⟨_, rfl, _, .int (codeI z), rfl, .int _, true, rfl, iteF ?_⟩
    refine ⟨_, rfl, _, rfl, z, rfl, rfl, _, rfl, ?_⟩
    rw [show decide (V.int (codeD (.str z)) = V.int (codeI z)) = true from decide_eq_true rfl]
    refine iteF ?_
    refine ⟨_, rfl, _, .int (codeI z), rfl, .int _, hT1, fun H2 e2 => ?_⟩
    rw [there_back hz]
    refine ⟨_, rfl, _, _, .type "str", _, true, rfl, .ty _, Rp_ty (d := .str z) (.str z), kit_ty (by decide +kernel), true, rfl, iteT ?_⟩
    refine ⟨_, rfl, _, rfl, rfl, ?_⟩
    rw [decide_eq_true rfl]
    exact q H2 (e1.trans e2)
def spFitsC (tb : List Addr) : Sp := fun vs H Q _ => ∃ n : Int, vs = [.int n] ∧ Tabs tb H ∧ ∀ H', Ext tb [] H H' → Q (.bl true) H'
theorem ok_l_fits_code {tb : List Addr} {C : Addr} (T : Txt K mg) (F : FnAt K mg "_law_fits_code" s_l_fits_code ["_law_number_here"] f cd) (C_l_is_code : CalE P w K mg base CX0 1 "_law_is_code" spLIsCode) (C_l_refuses_code : CalE P w K mg base CX0 3 "_law_refuses_code" (spRefC K tb)) (C_name_of : CalE P w K mg base (L2.CX P w) 2 "name_of" (spNameOf K tb C)) (C_l_code : CalE P w K mg base CX0 1 "_law_code" spLCodeS) : CalE P w K mg base CX0 4 "_law_fits_code" (spFitsC tb) := by
  refine F.cal sc_l_fits_code (fun vs H Q E h => ?_) (fun A outer s H vs Q E hr h => ?_)
  · obtain ⟨n, rfl, _⟩ := h
    rfl
  · obtain ⟨n, rfl, hT, q⟩ := h
    refine ⟨_, (pss_cons (ps_if (pt_not (pt_val (pe_cal C_l_is_code (hr.mono (by first | decide | omega)) (by rfl) (pa_cons (pv 0) pa_nil)))) (pss_one (ps_ret (pe_cal C_l_refuses_code (hr.mono (by first | decide | omega)) (by rfl) (pa_cons (pv 0) pa_nil)))) pss_nil)
      (pss_cons (ps_set (i := 1) sc_l_fits_code.nd rfl (.inl rfl) (pe_calL C_name_of (hr.mono (by first | decide | omega)) (by rfl) (pa_cons (pv 0) pa_nil)))
      (pss_one (ps_ret (pe_and (pe_callB (q_isi (K := K) rfl) (by rfl) T.b_isinstance (by decide +kernel) (pa_cons (pv 1) (pa_cons (pe_bltn (v := .ty "str") (by rfl) T.b_str (by decide +kernel) rfl) pa_nil))) (pe_and (pe_cmpR op_eq (pe_cal C_l_code (hr.mono (by first | decide | omega)) (by rfl) (pa_cons (pv 1) pa_nil)) (pv 0) (nomark _)) (pe_one (pe_cmpR op_le (pe_callB (q_len (K := K) rfl) (by rfl) T.b_len PySem.boot_len (pa_cons (pv 1) pa_nil)) pe_int (nomark _))))))))), ?_⟩
    refine ⟨_, rfl, n, rfl, _, rfl, ?_⟩
    cases hc : codeS (.int n) with
    | none =>
      refine iteT ?_
      refine ⟨_, rfl, _, .int n, rfl, .int n, hT, fun H1 e1 => ?_⟩
      rw [hc]
      exact q H1 e1
    | some z =>
      refine iteF ?_
      refine ⟨_, rfl, _, .int n, rfl, .int n, hT, fun H1 e1 => ?_⟩
      rw [hc]
      obtain ⟨b1, b2, b3⟩ := back_there hc
      refine ⟨_, rfl, _, _, .type "str", _, true, rfl, .ty _, Rp_ty (d := .str z) (.str z), kit_ty (by decide +kernel), true, rfl, iteT ?_⟩
      refine ⟨_, rfl, z, rfl, _, rfl, rfl, _, rfl, ?_⟩
      rw [decide_eq_true (show V.int (codeI z) = V.int n by rw [b1])]
      refine iteT ?_
      refine ⟨_, rfl, .str z, _, rfl, ⟨by rw [sizeLine_eq]; omega, rfl⟩, _, _, rfl, rfl, ?_⟩
      have qq := q H1 e1
      rw [← decide_eq_true (show ((z.length : Nat) : Int) ≤ 8 by omega)] at qq
      exact qq

end
end K01

set_option Elab.async false
set_option linter.all false
set_option maxRecDepth 100000
set_option maxHeartbeats 1000000
namespace K01
open PySem PySem.Spec PyProof.Rows L2 HK DT
section
variable {P : Program} {w : World} {K : PySem.W.Frag} {mg : Str → Option Value} {base : Heap} {f : Addr} {cd : Value}
/-! ### what evaluates to which data, while the draws at d may be drawn -/
def er (d : Addr) (H : Hp) : Hp := fun a => if a = d then none else H a
section
variable {K : PySem.W.Frag} {tb : List Addr} {d a : Addr} {H H' : Hp} {o : HO} {σ : L2.St} {D : PyData}
theorem er_ne (h : a ≠ d) : er d H a = H a := if_neg h
theorem er_of (h : er d H a = some o) : a ≠ d ∧ H a = some o := by
  unfold er at h
  by_cases e : a = d
  · rw [if_pos e] at h
    cases h
  · rw [if_neg e] at h
    exact ⟨e, h⟩
structure Lv (tb : List Addr) (d : Addr) (H : Hp) : Prop where
  t : Tabs tb H
  r : ∃ r : List Int, Dr r ∧ H d = some (.lst (r.map V.int))
theorem Lv.nt (h : Lv tb d H) : d ∉ tb := by
  obtain ⟨r, _, hd⟩ := h.r
  exact ne_tab h.t hd fun ps z => by cases z
theorem Lv.ne (h : Lv tb d H) (n : H a = none) : a ≠ d := fun z => by
  obtain ⟨r, _, hd⟩ := h.r
  rw [z, hd] at n
  cases n
theorem Lv.te (h : Lv tb d H) : Tabs tb (er d H) := fun b hb => by
  obtain ⟨ps, e, q⟩ := h.t b hb
  exact ⟨ps, (er_ne (fun z => h.nt (by rw [← z]; exact hb))).trans e, q⟩
theorem er_un : Ext tb [] (er d H) H := ⟨fun b o _ _ h => (er_of h).2, fun t b hb => by
  obtain ⟨ps, e, q⟩ := t b hb
  exact ⟨ps, (er_of e).2, q⟩⟩
theorem er_ext (hd : d ∉ tb) (e : Ext tb [d] H H') : Ext tb [] (er d H) (er d H') := ⟨fun b o h1 _ h => by
  obtain ⟨n, h⟩ := er_of h
  rw [er_ne n]
  exact e.keep b o h1 (by simp [n]) h, fun t b hb => by
  obtain ⟨ps, e, q⟩ := e.tabs (er_un.tabs t) b hb
  exact ⟨ps, (er_ne (fun z => hd (by rw [← z]; exact hb))).trans e, q⟩⟩
theorem Lv.new (h : Lv tb d H) (n : H a = none) : Lv tb d (upd H a o) := ⟨h.t.upd (h.t.ne n), by
  obtain ⟨r, h1, h2⟩ := h.r
  exact ⟨r, h1, by rw [upd_ne (Ne.symm (h.ne n))]; exact h2⟩⟩
theorem Lv.newE (h : Lv tb d H) (n : H a = none) : er d (upd H a o) a = some o := by rw [er_ne (h.ne n)]; exact upd_same
theorem Lv.rp (h : Lv tb d H) (e : Ext tb [d] H H') {v : V} (g : Rp K (er d H) v D) : Rp K (er d H') v D := Rp_ext (er_ext h.nt e) h.te D g
theorem Lv.rps (h : Lv tb d H) (e : Ext tb [d] H H') {vs : List V} {Ds : List PyData} (g : RpAll K (er d H) vs Ds) : RpAll K (er d H') vs Ds := RpAll_ext (er_ext h.nt e) h.te Ds g
theorem Lv.sq (h : Lv tb d H) {xs : List V} (s : SqT K (er d H) a xs) : SqT K H a xs := er_un.sqT h.te s (by simp)
theorem Lv.ext0 (h : Lv tb d H) (e : Ext tb [] H H') : Lv tb d H' := ⟨e.tabs h.t, by
  obtain ⟨r, h1, h2⟩ := h.r
  exact ⟨r, h1, e.lst h.t h2 (by simp)⟩⟩
def Gx (K : PySem.W.Frag) (tb : List Addr) (d : Addr) (te : TE) (σ : L2.St) (H : Hp) (D : PyData) : Prop := ∀ H1, Ext tb [d] H H1 → Lv tb d H1 → ∀ Q : VK, (∀ v H2, Ext tb [d] H1 H2 → Lv tb d H2 → Rp K (er d H2) v D → Q v H2) → te σ H1 Q
def Gxs (K : PySem.W.Frag) (tb : List Addr) (d : Addr) (ta : TA) (σ : L2.St) (H : Hp) (Ds : List PyData) : Prop := ∀ H1, Ext tb [d] H H1 → Lv tb d H1 → ∀ Q : List V → Hp → Prop, (∀ vs H2, Ext tb [d] H1 H2 → Lv tb d H2 → RpAll K (er d H2) vs Ds → Q vs H2) → ta σ H1 Q
theorem gx_var {i : Nat} {v : V} (hL : Lv tb d H) (g : Rp K (er d H) v D) (h : σ[i]? = some (some v)) : Gx K tb d (tVar i) σ H D := fun H1 e l Q q => ⟨v, h, q v H1 Ext.refl l (hL.rp e g)⟩
theorem gx_c {v : V} (g : ∀ H1, Rp K H1 v D) : Gx K tb d (tC v) σ H D := fun H1 _ l Q q => q v H1 Ext.refl l (g _)
theorem gx_i {i : Int} : Gx K tb d (tC (.int i)) σ H (.int i) := gx_c fun _ => .int i
theorem gx_s {s : Str} : Gx K tb d (tC (.str s)) σ H (.str s) := gx_c fun _ => .str s
theorem gx_b {b : Bool} : Gx K tb d (tC (.bl b)) σ H (.bool b) := gx_c fun _ => .bl b
theorem gx_n : Gx K tb d (tC .non) σ H .none := gx_c fun _ => .non
theorem gx_neg {i : Int} : Gx K tb d (tUn (rU fun i => .int (-i)) (tC (.int i))) σ H (.int (-i)) := fun H1 _ l Q q => ⟨i, rfl, q _ H1 Ext.refl l (.int _)⟩
theorem gx_nil : Gxs K tb d tNil σ H [] := fun H1 _ l Q q => q [] H1 Ext.refl l .nil
theorem gx_cons {te : TE} {ta : TA} {Ds : List PyData} (h : Gx K tb d te σ H D) (t : Gxs K tb d ta σ H Ds) : Gxs K tb d (tCons te ta) σ H (D :: Ds) := fun H1 e l Q q =>
  h H1 e l _ fun v H2 e2 l2 g => t H2 (e.trans e2) l2 _ fun vs H3 e3 l3 gs => q (v :: vs) H3 (e2.trans e3) l3 (.cons (l2.rp e3 g) gs)
theorem gx_tup {ta : TA} {Ds : List PyData} (h : Gxs K tb d ta σ H Ds) (hn : Nat.ble Ds.length 100 = true := by rfl) : Gx K tb d (tTup ta) σ H (.tuple Ds) := fun H1 e l Q q =>
  h H1 e l _ fun vs H2 e2 l2 gs => ⟨line_of (by rw [RpAll_len gs]; have := Nat.le_of_ble_eq_true hn; omega), fun p np => by
    have e3 : Ext tb [d] H2 (upd H2 p (.tup vs)) := Ext.new l2.t np
    exact q _ _ (e2.trans e3) (l2.new np) (.tup (SqT.of (l2.newE np)) (l2.rps e3 gs))⟩
theorem gx_lst {ta : TA} {Ds : List PyData} (h : Gxs K tb d ta σ H Ds) (hn : Nat.ble Ds.length 100 = true := by rfl) : Gx K tb d (tLst ta) σ H (.list Ds) := fun H1 e l Q q =>
  h H1 e l _ fun vs H2 e2 l2 gs => ⟨line_of (by rw [RpAll_len gs]; have := Nat.le_of_ble_eq_true hn; omega), fun p np => by
    have e3 : Ext tb [d] H2 (upd H2 p (.lst vs)) := Ext.new l2.t np
    exact q _ _ (e2.trans e3) (l2.new np) (.lst (SqL.of (l2.newE np)) (l2.rps e3 gs))⟩
theorem gx_dict : Gx K tb d tDNewK σ H (.dict []) := fun H1 e l Q q p np => q _ _ (Ext.new l.t np) (l.new np) (.dct (l.newE np))
theorem gx_list {te : TE} {Ds : List PyData} (h : Gx K tb d te σ H (.tuple Ds)) : Gx K tb d (tCB (rLstK K) (tCons te tNil)) σ H (.list Ds) := fun H1 e l Q q =>
  h H1 e l _ fun v H2 e2 l2 g => by
    obtain ⟨a, xs, rfl, ha, hxs⟩ := Rp_tup g
    refine ⟨a, xs, rfl, .inr (l2.sq ha), fun p np => ?_⟩
    have e3 : Ext tb [d] H2 (upd H2 p (.lst xs)) := Ext.new l2.t np
    exact q _ _ (e2.trans e3) (l2.new np) (.lst (SqL.of (l2.newE np)) (l2.rps e3 hxs))
theorem RpAll_rep {xs : List V} {cs : List PyData} (h : RpAll K H xs cs) : ∀ k : Nat, RpAll K H (List.replicate k xs).flatten (List.replicate k cs).flatten
  | 0 => .nil
  | k + 1 => by
    rw [List.replicate_succ, List.replicate_succ, List.flatten_cons, List.flatten_cons]
    exact RpAll_app h (RpAll_rep h k)
theorem gx_rep {te : TE} {cs : List PyData} {k : Int} (h : Gx K tb d te σ H (.tuple cs)) (hne : cs ≠ []) (hl : cs.length ≤ 1000) (h2 : 2 ≤ k) (hk : k ≤ 1000) : Gx K tb d (tOp (rRepT K) te (tC (.int k))) σ H (.tuple (List.replicate k.toNat cs).flatten) := fun H1 e l Q q =>
  h H1 e l _ fun v H2 e2 l2 g => by
    obtain ⟨a, xs, rfl, ha, hxs⟩ := Rp_tup g
    have hlen := RpAll_len hxs
    refine ⟨a, k, xs, rfl, rfl, l2.sq ha, fun z => hne ?_, h2, hk, by omega, fun p np => ?_⟩
    · subst z
      exact List.eq_nil_of_length_eq_zero hlen.symm
    · have e3 : Ext tb [d] H2 (upd H2 p (.tup (List.replicate k.toNat xs).flatten)) := Ext.new l2.t np
      exact q _ _ (e2.trans e3) (l2.new np) (.tup (SqT.of (l2.newE np)) (RpAll_rep (l2.rps e3 hxs) _))
theorem cutV_take (xs : List V) (k : Nat) : cutV xs none (some (k : Int)) = xs.take k := by
  unfold cutV
  rw [HT.sIx_nat, HT.sIx_none, List.drop_zero, Nat.sub_zero]
  rcases Nat.le_total k xs.length with h | h
  · rw [Nat.min_eq_left h]
  · rw [Nat.min_eq_right h, List.take_length, List.take_of_length_le h]
theorem gx_cut {te : TE} {cs : List PyData} (k : Nat) {i : Int} (h : Gx K tb d te σ H (.tuple cs)) (hi : i = (k : Int) := by rfl) : Gx K tb d (tSl (rSlA K) te tNoPart (tPart (tC (.int i)))) σ H (.tuple (cs.take k)) := fun H1 e l Q q =>
  hi ▸ h H1 e l _ fun v H2 e2 l2 g => by
    obtain ⟨a, xs, rfl, ha, hxs⟩ := Rp_tup g
    refine ⟨_, rfl, a, xs, rfl, l2.sq ha, fun hw => ?_, fun _ p np => ?_⟩
    · refine q _ H2 e2 l2 ?_
      have : cutV xs none (some (k : Int)) = xs := by
        unfold cutV
        rw [hw.1, hw.2, List.drop_zero, Nat.sub_zero, List.take_length]
      rw [cutV_take] at this
      have := RpAll_take k hxs
      rw [‹xs.take k = xs›] at this
      exact .tup ha this
    · rw [cutV_take]
      have e3 : Ext tb [d] H2 (upd H2 p (.tup (xs.take k))) := Ext.new l2.t np
      exact q _ _ (e2.trans e3) (l2.new np) (.tup (SqT.of (l2.newE np)) (RpAll_take k (l2.rps e3 hxs)))
theorem gx_cat {ta te : TE} {cs es : List PyData} (h1 : Gx K tb d ta σ H (.tuple cs)) (h2 : Gx K tb d te σ H (.tuple es)) (hz : cs.length + es.length ≤ 1000) : Gx K tb d (tOp (rCatA K) ta te) σ H (.tuple (cs ++ es)) := fun H1 e l Q q =>
  h1 H1 e l _ fun v H2 e2 l2 g => h2 H2 (e.trans e2) l2 _ fun u H3 e3 l3 gu => by
    obtain ⟨a, xs, rfl, ha, hxs⟩ := Rp_tup (l2.rp e3 g)
    obtain ⟨b, ys, rfl, hb, hys⟩ := Rp_tup gu
    have k1 := RpAll_len hxs
    have k2 := RpAll_len hys
    refine ⟨a, b, xs, ys, rfl, rfl, l3.sq ha, l3.sq hb, line_of (by omega), fun z => ?_, fun _ z => ?_, fun _ _ p np => ?_⟩
    · subst z
      have : cs = [] := List.eq_nil_of_length_eq_zero k1.symm
      subst this
      exact q _ _ (e2.trans e3) l3 gu
    · subst z
      have : es = [] := List.eq_nil_of_length_eq_zero k2.symm
      subst this
      refine q _ _ (e2.trans e3) l3 ?_
      rw [List.append_nil]
      exact .tup ha hxs
    · have e4 : Ext tb [d] H3 (upd H3 p (.tup (xs ++ ys))) := Ext.new l3.t np
      exact q _ _ ((e2.trans e3).trans e4) (l3.new np) (.tup (SqT.of (l3.newE np)) (RpAll_app (l3.rps e4 hxs) (l3.rps e4 hys)))
theorem gx_ix0 {te : TE} {c : PyData} {cs : List PyData} (h : Gx K tb d te σ H (.tuple (c :: cs))) : Gx K tb d (tOp (rIxT K) te (tC (.int 0))) σ H c := fun H1 e l Q q =>
  h H1 e l _ fun v H2 e2 l2 g => by
    obtain ⟨a, xs, rfl, ha, hxs⟩ := Rp_tup g
    cases hxs with
    | cons k0 kr => exact ⟨a, _, 0, _, rfl, rfl, l2.sq ha, atI_nat (j := 0) rfl, q _ _ e2 l2 k0⟩
end
/-! ### rows of things of which G holds -/
section
variable {K : PySem.W.Frag} {tb : List Addr} {d : Addr} {H H0 : Hp} {σ : L2.St} {G : PyData → Prop} {Q : VK}
def AllG (K : PySem.W.Frag) (d : Addr) (G : PyData → Prop) (H : Hp) (vs : List V) : Prop := ∀ v ∈ vs, ∃ D, Rp K (er d H) v D ∧ G D
theorem AllG.ext {H' : Hp} {vs : List V} (h : AllG K d G H vs) (l : Lv tb d H) (e : Ext tb [d] H H') : AllG K d G H' vs := fun v hv => by
  obtain ⟨D, h1, h2⟩ := h v hv
  exact ⟨D, l.rp e h1, h2⟩
def Gb (K : PySem.W.Frag) (tb : List Addr) (d : Addr) (G : PyData → Prop) (ta : TA) (σ : L2.St) (H : Hp) (n : Nat) : Prop := ∀ H1, Ext tb [d] H H1 → Lv tb d H1 → ∀ Q : List V → Hp → Prop, (∀ vs H2, Ext tb [d] H1 H2 → Lv tb d H2 → vs.length = n → AllG K d G H2 vs → Q vs H2) → ta σ H1 Q
theorem gb_nil : Gb K tb d G tNil σ H 0 := fun H1 _ l Q q => q [] H1 Ext.refl l rfl fun v hv => by cases hv
theorem gb_cons {te : TE} {ta : TA} {D : PyData} {n : Nat} (h : Gx K tb d te σ H D) (g : G D) (t : Gb K tb d G ta σ H n) : Gb K tb d G (tCons te ta) σ H (n + 1) := fun H1 e l Q q =>
  h H1 e l _ fun v H2 e2 l2 r => t H2 (e.trans e2) l2 _ fun vs H3 e3 l3 hl hs => q (v :: vs) H3 (e2.trans e3) l3 (by rw [List.length_cons, hl]) fun u hu => by
    rcases List.mem_cons.mp hu with rfl | hu
    · exact ⟨D, l2.rp e3 r, g⟩
    · exact hs u hu
theorem lst_rd {ta : TA} {n : Nat} (l : Lv tb d H) (hn : n ≤ 1000) (e0 : Ext tb [d] H0 H) (gb : Gb K tb d G ta σ H0 n)
    (q : ∀ L' vs' H', L' ≠ d → Ext tb [d] H H' → Lv tb d H' → H' L' = some (.lst vs') → AllG K d G H' vs' → vs'.length = n → Q (.ref L') H') : tLst ta σ H Q := by
  refine gb H e0 l _ fun us H1 e1 l1 hl hus => ?_
  refine ⟨line_of (by omega), fun p np => ?_⟩
  have e2 : Ext tb [d] H1 (upd H1 p (.lst us)) := Ext.new l1.t np
  exact q p _ _ (l1.ne np) (e1.trans e2) (l1.new np) upd_same (hus.ext l1 e2) hl
theorem catl_rd {i : Nat} {L : Addr} {vs : List V} {ta : TA} {n : Nat} (l : Lv tb d H) (nL : L ≠ d) (hL : H L = some (.lst vs)) (hvs : AllG K d G H vs) (h : σ[i]? = some (some (.ref L))) (hlen : vs.length ≤ 1000) (hn : n ≤ 1000) (e0 : Ext tb [d] H0 H) (gb : Gb K tb d G ta σ H0 n)
    (q : ∀ L' vs' H', L' ≠ d → Ext tb [d] H H' → Lv tb d H' → H' L' = some (.lst vs') → AllG K d G H' vs' → vs'.length = vs.length + n → Q (.ref L') H') : tOp rCat (tVar i) (tLst ta) σ H Q := by
  refine ⟨_, h, ?_⟩
  refine gb H e0 l _ fun us H1 e1 l1 hl hus => ?_
  refine ⟨line_of (by omega), fun p np => ?_⟩
  have e2 : Ext tb [d] H1 (upd H1 p (.lst us)) := Ext.new l1.t np
  have l2 : Lv tb d (upd H1 p (.lst us)) := l1.new np
  have e12 := e1.trans e2
  refine ⟨L, p, vs, us, rfl, rfl, e12.lst l.t hL (by simp [nL]), upd_same, line_of (by omega), fun p2 np2 => ?_⟩
  have e3 : Ext tb [d] (upd H1 p (.lst us)) (upd (upd H1 p (.lst us)) p2 (.lst (vs ++ us))) := Ext.new l2.t np2
  refine q p2 _ _ (l2.ne np2) (e12.trans e3) (l2.new np2) upd_same (fun v hv => ?_) (by rw [List.length_append, hl])
  rcases List.mem_append.mp hv with hv | hv
  · exact (hvs.ext l (e12.trans e3)) v hv
  · exact (hus.ext l1 (e2.trans e3)) v hv
theorem asg_use {te : TE} {i : Nat} {rest : TS} {D : Ends} (h : te σ H fun x H1 => rest D (σ.set i (some x)) H1) : tSeq (tAsg te (gName i)) rest D σ H := h
theorem asg_one {te : TE} {i : Nat} {D : Ends} (h : te σ H fun x H1 => D.nx (σ.set i (some x)) H1) : tAsg te (gName i) D σ H := h
theorem nm_asg {j i : Nat} {v : V} {te : TE} {rest : TS} {D : Ends} {rt : VK} {bk ct : L2.St → Hp → Prop} (h : te (σ.set j (some v)) H fun x H1 => rest D ((σ.set j (some v)).set i (some x)) H1) : gName j v σ H (Ends.mk (tSeq (tAsg te (gName i)) rest D) rt bk ct).nx := h
theorem ret_use {te : TE} {D : Ends} (h : te σ H D.rt) : tRet te D σ H := h
end

/-! ### the refusals, as values -/
structure Errs (P : Program) (K : PySem.W.Frag) (mg : Str → Option Value) (e : Nat → Addr) (S : Addr) : Prop where
  x_NoName : ExcI P K mg "NoName" (e 0)
  x_NoView : ExcI P K mg "NoView" (e 1)
  x_NoDeed : ExcI P K mg "NoDeed" (e 2)
  x_NoThing : ExcI P K mg "NoThing" (e 3)
  x_Taken : ExcI P K mg "Taken" (e 4)
  x_TooMany : ExcI P K mg "TooMany" (e 5)
  x_TooDeep : ExcI P K mg "TooDeep" (e 6)
  x_Within : ExcI P K mg "Within" (e 7)
  x_NoLeaf : ExcI P K mg "NoLeaf" (e 8)
  x_NoRoom : ExcI P K mg "NoRoom" (e 9)
  x_NoHouse : ExcI P K mg "NoHouse" (e 10)
  x_NoSnap : ExcI P K mg "NoSnap" (e 11)
  x_NoEntry : ExcI P K mg "NoEntry" (e 12)
  x_Full : ExcI P K mg "Full" (e 13)
  x_Lost : ExcI P K mg "Lost" (e 14)
  x_NoDisk : ExcI P K mg "NoDisk" (e 15)
  x_NoSent : ExcI P K mg "NoSent" (e 16)
  x_Other : ExcI P K mg "Other" (e 17)
  x_NotOpen : ExcI P K mg "NotOpen" (e 18)
  x_NoWord : ExcI P K mg "NoWord" (e 19)
  m_ShelfError : GloE mg "ShelfError" (.ref S)
  cc : ∀ k, k < 20 → ExcC K (e k)
  kk : ∀ k j, k < 20 → j < 20 → PySem.W.kitOne K (.ref (e k)) (.ref (e j)) = some (decide (j = k))
  ks : ∀ k, k < 20 → PySem.W.kitOne K (.ref (e k)) (.ref S) = some true
  kv : ∀ k, k < 20 → PySem.W.kitOne K (.ref (e k)) (.type "ValueError") = some true
theorem Errs.m_NoName {e : Nat → Addr} {S : Addr} (R : Errs P K mg e S) : GloE mg "NoName" (.ref (e 0)) := ⟨.ref (e 0), R.x_NoName.m, rfl⟩
theorem Errs.m_NoView {e : Nat → Addr} {S : Addr} (R : Errs P K mg e S) : GloE mg "NoView" (.ref (e 1)) := ⟨.ref (e 1), R.x_NoView.m, rfl⟩
theorem Errs.m_NoDeed {e : Nat → Addr} {S : Addr} (R : Errs P K mg e S) : GloE mg "NoDeed" (.ref (e 2)) := ⟨.ref (e 2), R.x_NoDeed.m, rfl⟩
theorem Errs.m_NoThing {e : Nat → Addr} {S : Addr} (R : Errs P K mg e S) : GloE mg "NoThing" (.ref (e 3)) := ⟨.ref (e 3), R.x_NoThing.m, rfl⟩
theorem Errs.m_Taken {e : Nat → Addr} {S : Addr} (R : Errs P K mg e S) : GloE mg "Taken" (.ref (e 4)) := ⟨.ref (e 4), R.x_Taken.m, rfl⟩
theorem Errs.m_TooMany {e : Nat → Addr} {S : Addr} (R : Errs P K mg e S) : GloE mg "TooMany" (.ref (e 5)) := ⟨.ref (e 5), R.x_TooMany.m, rfl⟩
theorem Errs.m_TooDeep {e : Nat → Addr} {S : Addr} (R : Errs P K mg e S) : GloE mg "TooDeep" (.ref (e 6)) := ⟨.ref (e 6), R.x_TooDeep.m, rfl⟩
theorem Errs.m_Within {e : Nat → Addr} {S : Addr} (R : Errs P K mg e S) : GloE mg "Within" (.ref (e 7)) := ⟨.ref (e 7), R.x_Within.m, rfl⟩
theorem Errs.m_NoLeaf {e : Nat → Addr} {S : Addr} (R : Errs P K mg e S) : GloE mg "NoLeaf" (.ref (e 8)) := ⟨.ref (e 8), R.x_NoLeaf.m, rfl⟩
theorem Errs.m_NoRoom {e : Nat → Addr} {S : Addr} (R : Errs P K mg e S) : GloE mg "NoRoom" (.ref (e 9)) := ⟨.ref (e 9), R.x_NoRoom.m, rfl⟩
theorem Errs.m_NoHouse {e : Nat → Addr} {S : Addr} (R : Errs P K mg e S) : GloE mg "NoHouse" (.ref (e 10)) := ⟨.ref (e 10), R.x_NoHouse.m, rfl⟩
theorem Errs.m_NoSnap {e : Nat → Addr} {S : Addr} (R : Errs P K mg e S) : GloE mg "NoSnap" (.ref (e 11)) := ⟨.ref (e 11), R.x_NoSnap.m, rfl⟩
theorem Errs.m_NoEntry {e : Nat → Addr} {S : Addr} (R : Errs P K mg e S) : GloE mg "NoEntry" (.ref (e 12)) := ⟨.ref (e 12), R.x_NoEntry.m, rfl⟩
theorem Errs.m_Full {e : Nat → Addr} {S : Addr} (R : Errs P K mg e S) : GloE mg "Full" (.ref (e 13)) := ⟨.ref (e 13), R.x_Full.m, rfl⟩
theorem Errs.m_Lost {e : Nat → Addr} {S : Addr} (R : Errs P K mg e S) : GloE mg "Lost" (.ref (e 14)) := ⟨.ref (e 14), R.x_Lost.m, rfl⟩
theorem Errs.m_NoDisk {e : Nat → Addr} {S : Addr} (R : Errs P K mg e S) : GloE mg "NoDisk" (.ref (e 15)) := ⟨.ref (e 15), R.x_NoDisk.m, rfl⟩
theorem Errs.m_NoSent {e : Nat → Addr} {S : Addr} (R : Errs P K mg e S) : GloE mg "NoSent" (.ref (e 16)) := ⟨.ref (e 16), R.x_NoSent.m, rfl⟩
theorem Errs.m_Other {e : Nat → Addr} {S : Addr} (R : Errs P K mg e S) : GloE mg "Other" (.ref (e 17)) := ⟨.ref (e 17), R.x_Other.m, rfl⟩
theorem Errs.m_NotOpen {e : Nat → Addr} {S : Addr} (R : Errs P K mg e S) : GloE mg "NotOpen" (.ref (e 18)) := ⟨.ref (e 18), R.x_NotOpen.m, rfl⟩
theorem Errs.m_NoWord {e : Nat → Addr} {S : Addr} (R : Errs P K mg e S) : GloE mg "NoWord" (.ref (e 19)) := ⟨.ref (e 19), R.x_NoWord.m, rfl⟩
theorem Ext.exo {tb : List Addr} {H H' : Hp} {a : Addr} {c : Value} (h : Ext tb [] H H') (t : Tabs tb H) (e : H a = some (ExO c a)) : H' a = some (ExO c a) := h.keep _ _ (ne_tab t e fun ps z => by unfold ExO at z; cases z) (by simp) e
def kd (k : Nat) : List V := (List.range 20).map fun j => .bl (decide (j = k))
def kdD (k : Nat) : PyData := .list ((List.range 20).map fun j => .bool (decide (j = k)))
theorem dp_bls {H : Hp} : ∀ bs : List Bool, DpAll K H (bs.map V.bl) (bs.map PyData.bool)
  | [] => .nil
  | b :: r => .cons (.bl b) (dp_bls r)
theorem kd_dp {H : Hp} {L : Addr} {k : Nat} (h : H L = some (.lst (kd k))) : Dp K H (.ref L) (kdD k) := by
  have := dp_bls (K := K) (H := H) ((List.range 20).map fun j => decide (j = k))
  rw [List.map_map, List.map_map] at this
  exact .lst (SqL.of h) this
theorem kd_can (k : Nat) : PyData.canLay0 (kdD k) = true := by
  have : ∀ bs : List Bool, PyData.canLayAll0 (bs.map PyData.bool) = true := fun bs => by
    induction bs with
    | nil => rfl
    | cons b r ih =>
      show (PyData.canLay0 (.bool b) && PyData.canLayAll0 (r.map PyData.bool)) = true
      rw [ih] <;> rfl
  have h := this ((List.range 20).map fun j => decide (j = k))
  rw [List.map_map] at h
  exact h
theorem kd_shaped (k : Nat) : SeqAt.shaped (kdD k) = true := by
  have : ∀ bs : List Bool, PyData.depthAll (bs.map PyData.bool) = 0 := fun bs => by
    induction bs with
    | nil => rfl
    | cons b r ih =>
      show max (PyData.depth (.bool b)) (PyData.depthAll (r.map PyData.bool)) = 0
      rw [ih] <;> rfl
  have h := this ((List.range 20).map fun j => decide (j = k))
  rw [List.map_map] at h
  have h2 : PyData.depth (kdD k) ≤ 64 := by
    show PyData.depthAll ((List.range 20).map (PyData.bool ∘ fun j => decide (j = k))) + 1 ≤ 64
    rw [h]
    decide
  unfold SeqAt.shaped
  rw [kd_can, decide_eq_true h2]
  rfl
section
variable {tb : List Addr} {a D : Addr} {σ : L2.St} {H : Hp} {Q : VK}
def Eb (tb : List Addr) (a D : Addr) (ta : TA) (σ : L2.St) (vs : List V) : Prop := ∀ H1, Tabs tb H1 → H1 a = some (ExO (.ref D) a) → ∀ Q : List V → Hp → Prop, Q vs H1 → ta σ H1 Q
theorem eb_nil : Eb tb a D tNil σ [] := fun H1 _ _ Q q => q
theorem eb_cons {C : Addr} {b : Bool} {ta : TA} {vs : List V} (hs : σ[0]? = some (some (.ref a))) (cc : ExcC K D) (k : PySem.W.kitOne K (.ref D) (.ref C) = some b) (t : Eb tb a D ta σ vs) : Eb tb a D (tCons (tCB (XV.rIsV K) (tCons (tVar 0) (tCons (tC (.ref C)) tNil))) ta) σ (.bl b :: vs) := fun H1 hT ha Q q =>
  ⟨_, hs, a, D, .ref C, .ref C, b, rfl, ha, cc, fun u r => r, k, t H1 hT ha _ q⟩
theorem kd_lst {ta : TA} {us : List V} (hT : Tabs tb H) (ha : H a = some (ExO (.ref D) a)) (eb : Eb tb a D ta σ us) (hn : us.length ≤ 100) (q : ∀ L' H', Ext tb [] H H' → H' L' = some (.lst us) → Q (.ref L') H') : tLst ta σ H Q :=
  eb H hT ha _ ⟨line_of (by omega), fun p np => q p _ (Ext.new hT np) upd_same⟩
theorem kd_cat {L : Addr} {vs us : List V} {ta : TA} (hT : Tabs tb H) (ha : H a = some (ExO (.ref D) a)) (hL : H L = some (.lst vs)) (hs : σ[1]? = some (some (.ref L))) (eb : Eb tb a D ta σ us) (hv : vs.length ≤ 100) (hn : us.length ≤ 100)
    (q : ∀ L' H', Ext tb [] H H' → H' L' = some (.lst (vs ++ us)) → Q (.ref L') H') : tOp rCat (tVar 1) (tLst ta) σ H Q := by
  refine ⟨_, hs, ?_⟩
  refine kd_lst hT ha eb hn fun p H1 e1 hp => ?_
  have hT1 := e1.tabs hT
  refine ⟨L, p, vs, us, rfl, rfl, e1.lst hT hL (by simp), hp, line_of (by omega), fun p2 np2 => ?_⟩
  exact q p2 _ (e1.trans (Ext.new hT1 np2)) upd_same
end
def spKinds (tb : List Addr) (e : Nat → Addr) : Sp := fun vs H Q _ => ∃ (a : Addr) (k : Nat), vs = [.ref a] ∧ k < 20 ∧ H a = some (ExO (.ref (e k)) a) ∧ Tabs tb H ∧ ∀ L H', Ext tb [] H H' → H' L = some (.lst (kd k)) → Q (.ref L) H'
theorem ok_l_kinds {tb : List Addr} {e : Nat → Addr} {S : Addr} (T : Txt K mg) (R : Errs P K mg e S) (F : FnAt K mg "_law_kinds" s_l_kinds ["_law_one"] f cd) : CalE P w K mg base CX0 1 "_law_kinds" (spKinds tb e) := by
  refine F.cal sc_l_kinds (fun vs H Q E h => ?_) (fun A outer s H vs Q E hr h => ?_)
  · obtain ⟨a, k, rfl, _⟩ := h
    rfl
  · obtain ⟨a, k, rfl, hk, ha, hT, q⟩ := h
    refine ⟨_, (pss_cons (ps_set (i := 1) sc_l_kinds.nd rfl (.inl rfl) (pe_lst (pa_cons (pe_callB (XV.q_isV (K := K) rfl) (by rfl) T.b_isinstance (by decide +kernel) (pa_cons (pv 0) (pa_cons (pe_glo (by rfl) (R.m_NoName)) pa_nil))) (pa_cons (pe_callB (XV.q_isV (K := K) rfl) (by rfl) T.b_isinstance (by decide +kernel) (pa_cons (pv 0) (pa_cons (pe_glo (by rfl) (R.m_NoView)) pa_nil))) (pa_cons (pe_callB (XV.q_isV (K := K) rfl) (by rfl) T.b_isinstance (by decide +kernel) (pa_cons (pv 0) (pa_cons (pe_glo (by rfl) (R.m_NoDeed)) pa_nil))) (pa_cons (pe_callB (XV.q_isV (K := K) rfl) (by rfl) T.b_isinstance (by decide +kernel) (pa_cons (pv 0) (pa_cons (pe_glo (by rfl) (R.m_NoThing)) pa_nil))) pa_nil))))))
      (pss_cons (ps_set (i := 1) sc_l_kinds.nd rfl (.inl rfl) (pe_op op_cat (pv 1) (pe_lst (pa_cons (pe_callB (XV.q_isV (K := K) rfl) (by rfl) T.b_isinstance (by decide +kernel) (pa_cons (pv 0) (pa_cons (pe_glo (by rfl) (R.m_Taken)) pa_nil))) (pa_cons (pe_callB (XV.q_isV (K := K) rfl) (by rfl) T.b_isinstance (by decide +kernel) (pa_cons (pv 0) (pa_cons (pe_glo (by rfl) (R.m_TooMany)) pa_nil))) (pa_cons (pe_callB (XV.q_isV (K := K) rfl) (by rfl) T.b_isinstance (by decide +kernel) (pa_cons (pv 0) (pa_cons (pe_glo (by rfl) (R.m_TooDeep)) pa_nil))) pa_nil))))))
      (pss_cons (ps_set (i := 1) sc_l_kinds.nd rfl (.inl rfl) (pe_op op_cat (pv 1) (pe_lst (pa_cons (pe_callB (XV.q_isV (K := K) rfl) (by rfl) T.b_isinstance (by decide +kernel) (pa_cons (pv 0) (pa_cons (pe_glo (by rfl) (R.m_Within)) pa_nil))) (pa_cons (pe_callB (XV.q_isV (K := K) rfl) (by rfl) T.b_isinstance (by decide +kernel) (pa_cons (pv 0) (pa_cons (pe_glo (by rfl) (R.m_NoLeaf)) pa_nil))) (pa_cons (pe_callB (XV.q_isV (K := K) rfl) (by rfl) T.b_isinstance (by decide +kernel) (pa_cons (pv 0) (pa_cons (pe_glo (by rfl) (R.m_NoRoom)) pa_nil))) pa_nil))))))
      (pss_cons (ps_set (i := 1) sc_l_kinds.nd rfl (.inl rfl) (pe_op op_cat (pv 1) (pe_lst (pa_cons (pe_callB (XV.q_isV (K := K) rfl) (by rfl) T.b_isinstance (by decide +kernel) (pa_cons (pv 0) (pa_cons (pe_glo (by rfl) (R.m_NoHouse)) pa_nil))) (pa_cons (pe_callB (XV.q_isV (K := K) rfl) (by rfl) T.b_isinstance (by decide +kernel) (pa_cons (pv 0) (pa_cons (pe_glo (by rfl) (R.m_NoSnap)) pa_nil))) (pa_cons (pe_callB (XV.q_isV (K := K) rfl) (by rfl) T.b_isinstance (by decide +kernel) (pa_cons (pv 0) (pa_cons (pe_glo (by rfl) (R.m_NoEntry)) pa_nil))) pa_nil))))))
      (pss_cons (ps_set (i := 1) sc_l_kinds.nd rfl (.inl rfl) (pe_op op_cat (pv 1) (pe_lst (pa_cons (pe_callB (XV.q_isV (K := K) rfl) (by rfl) T.b_isinstance (by decide +kernel) (pa_cons (pv 0) (pa_cons (pe_glo (by rfl) (R.m_Full)) pa_nil))) (pa_cons (pe_callB (XV.q_isV (K := K) rfl) (by rfl) T.b_isinstance (by decide +kernel) (pa_cons (pv 0) (pa_cons (pe_glo (by rfl) (R.m_Lost)) pa_nil))) (pa_cons (pe_callB (XV.q_isV (K := K) rfl) (by rfl) T.b_isinstance (by decide +kernel) (pa_cons (pv 0) (pa_cons (pe_glo (by rfl) (R.m_NoDisk)) pa_nil))) (pa_cons (pe_callB (XV.q_isV (K := K) rfl) (by rfl) T.b_isinstance (by decide +kernel) (pa_cons (pv 0) (pa_cons (pe_glo (by rfl) (R.m_NoSent)) pa_nil))) pa_nil)))))))
      (pss_one (ps_ret (pe_op op_cat (pv 1) (pe_lst (pa_cons (pe_callB (XV.q_isV (K := K) rfl) (by rfl) T.b_isinstance (by decide +kernel) (pa_cons (pv 0) (pa_cons (pe_glo (by rfl) (R.m_Other)) pa_nil))) (pa_cons (pe_callB (XV.q_isV (K := K) rfl) (by rfl) T.b_isinstance (by decide +kernel) (pa_cons (pv 0) (pa_cons (pe_glo (by rfl) (R.m_NotOpen)) pa_nil))) (pa_cons (pe_callB (XV.q_isV (K := K) rfl) (by rfl) T.b_isinstance (by decide +kernel) (pa_cons (pv 0) (pa_cons (pe_glo (by rfl) (R.m_NoWord)) pa_nil))) pa_nil)))))))))))), ?_⟩
    have kj := fun j (hj : j < 20) => R.kk k j hk hj
    have cc := R.cc k hk
    refine asg_use ?_
    refine kd_lst hT ha (eb_cons rfl cc (kj 0 (by decide)) (eb_cons rfl cc (kj 1 (by decide)) (eb_cons rfl cc (kj 2 (by decide)) (eb_cons rfl cc (kj 3 (by decide)) eb_nil)))) (Nat.le_of_ble_eq_true rfl) fun L1 H1 e1 hL1 => ?_
    have hT1 := e1.tabs hT
    have ha1 := Ext.exo e1 hT ha
    refine asg_use ?_
    refine kd_cat hT1 ha1 hL1 rfl (eb_cons rfl cc (kj 4 (by decide)) (eb_cons rfl cc (kj 5 (by decide)) (eb_cons rfl cc (kj 6 (by decide)) eb_nil))) (Nat.le_of_ble_eq_true rfl) (Nat.le_of_ble_eq_true rfl) fun L2 H2 f2 hL2 => ?_
    have e2 := e1.trans f2
    have hT2 := e2.tabs hT
    have ha2 := Ext.exo e2 hT ha
    refine asg_use ?_
    refine kd_cat hT2 ha2 hL2 rfl (eb_cons rfl cc (kj 7 (by decide)) (eb_cons rfl cc (kj 8 (by decide)) (eb_cons rfl cc (kj 9 (by decide)) eb_nil))) (Nat.le_of_ble_eq_true rfl) (Nat.le_of_ble_eq_true rfl) fun L3 H3 f3 hL3 => ?_
    have e3 := e2.trans f3
    have hT3 := e3.tabs hT
    have ha3 := Ext.exo e3 hT ha
    refine asg_use ?_
    refine kd_cat hT3 ha3 hL3 rfl (eb_cons rfl cc (kj 10 (by decide)) (eb_cons rfl cc (kj 11 (by decide)) (eb_cons rfl cc (kj 12 (by decide)) eb_nil))) (Nat.le_of_ble_eq_true rfl) (Nat.le_of_ble_eq_true rfl) fun L4 H4 f4 hL4 => ?_
    have e4 := e3.trans f4
    have hT4 := e4.tabs hT
    have ha4 := Ext.exo e4 hT ha
    refine asg_use ?_
    refine kd_cat hT4 ha4 hL4 rfl (eb_cons rfl cc (kj 13 (by decide)) (eb_cons rfl cc (kj 14 (by decide)) (eb_cons rfl cc (kj 15 (by decide)) (eb_cons rfl cc (kj 16 (by decide)) eb_nil)))) (Nat.le_of_ble_eq_true rfl) (Nat.le_of_ble_eq_true rfl) fun L5 H5 f5 hL5 => ?_
    have e5 := e4.trans f5
    have hT5 := e5.tabs hT
    have ha5 := Ext.exo e5 hT ha
    refine ret_use ?_
    refine kd_cat hT5 ha5 hL5 rfl (eb_cons rfl cc (kj 17 (by decide)) (eb_cons rfl cc (kj 18 (by decide)) (eb_cons rfl cc (kj 19 (by decide)) eb_nil))) (Nat.le_of_ble_eq_true rfl) (Nat.le_of_ble_eq_true rfl) fun L6 H6 f6 hL6 => ?_
    have e6 := e5.trans f6
    have hT6 := e6.tabs hT
    have ha6 := Ext.exo e6 hT ha
    exact q L6 H6 e6 hL6
section
variable {tb : List Addr} {e : Nat → Addr} {σ : L2.St} {H : Hp} {Q : VK}
def Rw (e : Nat → Addr) (off : Nat) (H : Hp) (vs : List V) : Prop := ∀ i v, vs[i]? = some v → ∃ a, v = .ref a ∧ H a = some (ExO (.ref (e (off + i))) a)
theorem Rw.ext {off : Nat} {vs : List V} {H' : Hp} (r : Rw e off H vs) (x : Ext tb [] H H') (t : Tabs tb H) : Rw e off H' vs := fun i v h => by
  obtain ⟨a, h1, h2⟩ := r i v h
  exact ⟨a, h1, Ext.exo x t h2⟩
theorem Rw.app {off : Nat} {vs us : List V} (r : Rw e off H vs) (s : Rw e (off + vs.length) H us) : Rw e off H (vs ++ us) := fun i v h => by
  by_cases hi : i < vs.length
  · rw [List.getElem?_append_left hi] at h
    exact r i v h
  · rw [List.getElem?_append_right (by omega)] at h
    obtain ⟨a, h1, h2⟩ := s _ v h
    rw [show off + vs.length + (i - vs.length) = off + i by omega] at h2
    exact ⟨a, h1, h2⟩
def Ea (tb : List Addr) (e : Nat → Addr) (ta : TA) (σ : L2.St) (off n : Nat) : Prop := ∀ H1, Tabs tb H1 → ∀ Q : List V → Hp → Prop, (∀ vs H2, Ext tb [] H1 H2 → vs.length = n → Rw e off H2 vs → Q vs H2) → ta σ H1 Q
theorem ea_nil {off : Nat} : Ea tb e tNil σ off 0 := fun H1 _ Q q => q [] H1 Ext.refl rfl fun i v h => by simp at h
theorem ea_cons {off n : Nat} {ta : TA} (t : Ea tb e ta σ (off + 1) n) : Ea tb e (tCons (fun _ H Q => ∀ a, H a = none → Q (.ref a) (upd H a (ExO (.ref (e off)) a))) ta) σ off (n + 1) := fun H1 hT Q q a na => by
  have x1 : Ext tb [] H1 (upd H1 a (ExO (.ref (e off)) a)) := Ext.new hT na
  have hT1 := x1.tabs hT
  refine t _ hT1 _ fun vs H2 x2 hl r => q (.ref a :: vs) H2 (x1.trans x2) (by rw [List.length_cons, hl]) fun i v h => ?_
  cases i with
  | zero =>
    cases h
    exact ⟨a, rfl, Ext.exo x2 hT1 upd_same⟩
  | succ i =>
    obtain ⟨b, h1, h2⟩ := r i v h
    rw [show off + 1 + i = off + (i + 1) by omega] at h2
    exact ⟨b, h1, h2⟩
theorem rw_lst {off n : Nat} {ta : TA} (hT : Tabs tb H) (ea : Ea tb e ta σ off n) (hn : n ≤ 100) (q : ∀ L' us H', Ext tb [] H H' → H' L' = some (.lst us) → us.length = n → Rw e off H' us → Q (.ref L') H') : tLst ta σ H Q :=
  ea H hT _ fun us H1 x1 hl r => ⟨line_of (by omega), fun p np => by
    have x2 : Ext tb [] H1 (upd H1 p (.lst us)) := Ext.new (x1.tabs hT) np
    exact q p us _ (x1.trans x2) upd_same hl (r.ext x2 (x1.tabs hT))⟩
theorem rw_cat {i off n : Nat} {L : Addr} {vs : List V} {ta : TA} (hT : Tabs tb H) (hL : H L = some (.lst vs)) (hr : Rw e off H vs) (hs : σ[i]? = some (some (.ref L))) (hv : vs.length ≤ 100) (hn : n ≤ 100) (ea : Ea tb e ta σ (off + vs.length) n)
    (q : ∀ L' us H', Ext tb [] H H' → H' L' = some (.lst us) → us.length = vs.length + n → Rw e off H' us → Q (.ref L') H') : tOp rCat (tVar i) (tLst ta) σ H Q := by
  refine ⟨_, hs, ?_⟩
  refine rw_lst hT ea hn fun p us H1 x1 hp hl r => ?_
  have hT1 := x1.tabs hT
  refine ⟨L, p, vs, us, rfl, rfl, x1.lst hT hL (by simp), hp, line_of (by omega), fun p2 np2 => ?_⟩
  have x2 : Ext tb [] H1 (upd H1 p2 (.lst (vs ++ us))) := Ext.new hT1 np2
  exact q p2 _ _ (x1.trans x2) upd_same (by rw [List.length_append, hl]) (((hr.ext x1 hT).app r).ext x2 hT1)
end
theorem for_enum {te : TE} {g : TG} {bd rest : TS} {D Es : Ends} {σ : L2.St} {H : Hp} (hE : Es = { D with nx := rest D })
    (h : te σ H fun v H1 => ∃ a xs, [v] = [.ref a] ∧ SqL K H1 a xs ∧ ∃ W : Nat → Nat → L2.St → Hp → Prop, (∃ m, W 0 m σ H1) ∧ ∀ i m σ' H', W i m σ' H' → ((Ite K a).stop i H' ∧ Es.nx σ' H') ∨
      ((Ite K a).go i H' ∧ ∃ N : L2.St → Hp → Prop, (∀ σ2 H2, N σ2 H2 → ∃ m', m' < m ∧ W (i + 1) m' σ2 H2) ∧ ∀ x H2, (Ite K a).yld i H' x H2 → g x σ' H2 fun σ3 H3 => bd { Es with nx := N, ct := N, bk := Es.nx } σ3 H3)) : tSeq (tFor (iEnum K (tCons te tNil)) g bd) rest D σ H := by
  subst hE
  exact h
def spRight (tb : List Addr) : Sp := fun vs H Q _ => vs = [] ∧ Tabs tb H ∧ ∀ H', Ext tb [] H H' → Q (.bl true) H'
theorem ok_l_refusals_right {tb : List Addr} {e : Nat → Addr} {S : Addr} (T : Txt K mg) (R : Errs P K mg e S) (F : FnAt K mg "_law_refusals_right" s_l_refusals_right [] f cd) (C_l_kinds : CalE P w K mg base CX0 1 "_law_kinds" (spKinds tb e)) : CalE P w K mg base CX0 2 "_law_refusals_right" (spRight tb) := by
  refine F.cal sc_l_refusals_right (fun vs H Q E h => ?_) (fun A outer s H vs Q E hr h => ?_)
  · obtain ⟨rfl, _⟩ := h
    rfl
  · obtain ⟨rfl, hT, q⟩ := h
    refine ⟨_, (pss_cons (ps_set (i := 0) sc_l_refusals_right.nd rfl (.inl rfl) (pe_lst (pa_cons (XV.pe_bare (R.x_NoName) hr (by rfl)) (pa_cons (XV.pe_bare (R.x_NoView) hr (by rfl)) (pa_cons (XV.pe_bare (R.x_NoDeed) hr (by rfl)) (pa_cons (XV.pe_bare (R.x_NoThing) hr (by rfl)) (pa_cons (XV.pe_bare (R.x_Taken) hr (by rfl)) (pa_cons (XV.pe_bare (R.x_TooMany) hr (by rfl)) (pa_cons (XV.pe_bare (R.x_TooDeep) hr (by rfl)) (pa_cons (XV.pe_bare (R.x_Within) hr (by rfl)) (pa_cons (XV.pe_bare (R.x_NoLeaf) hr (by rfl)) (pa_cons (XV.pe_bare (R.x_NoRoom) hr (by rfl)) pa_nil))))))))))))
      (pss_cons (ps_set (i := 0) sc_l_refusals_right.nd rfl (.inl rfl) (pe_op op_cat (pv 0) (pe_lst (pa_cons (XV.pe_bare (R.x_NoHouse) hr (by rfl)) (pa_cons (XV.pe_bare (R.x_NoSnap) hr (by rfl)) (pa_cons (XV.pe_bare (R.x_NoEntry) hr (by rfl)) (pa_cons (XV.pe_bare (R.x_Full) hr (by rfl)) (pa_cons (XV.pe_bare (R.x_Lost) hr (by rfl)) (pa_cons (XV.pe_bare (R.x_NoDisk) hr (by rfl)) (pa_cons (XV.pe_bare (R.x_NoSent) hr (by rfl)) (pa_cons (XV.pe_bare (R.x_Other) hr (by rfl)) (pa_cons (XV.pe_bare (R.x_NotOpen) hr (by rfl)) pa_nil))))))))))))
      (pss_cons (ps_for PassesOwn.never rfl (pi_enum (by rfl) T.b_enumerate (pa_cons (pe_op op_cat (pv 0) (pe_lst (pa_cons (XV.pe_bare (R.x_NoWord) hr (by rfl)) pa_nil))) pa_nil)) (RJ.q_pgT (K := K) (n := 2) rfl rfl (pgs_cons (pg_name (i := 1) sc_l_refusals_right.nd rfl (.inr rfl)) (pgs_cons (pg_name (i := 2) sc_l_refusals_right.nd rfl (.inl rfl)) pgs_nil))) (pss_cons (ps_if (PW.pt (pw_or (pt_not (pt_val (pe_callB (XV.q_isV (K := K) rfl) (by rfl) T.b_isinstance (by decide +kernel) (pa_cons (pv 2) (pa_cons (pe_glo (by rfl) (R.m_ShelfError)) pa_nil))))) (pw_or1 (pt_not (pt_val (pe_callB (XV.q_isV (K := K) rfl) (by rfl) T.b_isinstance (by decide +kernel) (pa_cons (pv 2) (pa_cons (pe_bltn (v := .ty "ValueError") (by rfl) T.b_ValueError (by decide +kernel) rfl) pa_nil)))))))) (pss_one (ps_ret pe_bl)) pss_nil)
      (pss_one (ps_if (pt_cmpR (q_neD (K := K) rfl hr.units) (pe_cal C_l_kinds (hr.mono (by first | decide | omega)) (by rfl) (pa_cons (pv 2) pa_nil)) (pe_lc (own := [("_law_place", 3)]) (g := gName 3) (tt := tYes) (by rfl) sc_l_refusals_right.nd (pi_range1 (by rfl) T.b_range (pa_cons pe_int pa_nil)) (blkOk_by (own := [("_law_place", 3)]) (N := n_l_refusals_right) (sc := defScope s_l_refusals_right) (by decide +kernel)) (fun _ _ _ _ _ => (pg_name (i := 3) sc_l_refusals_right.nd rfl (.inl rfl))) (fun _ _ _ _ _ => pts_nil) (fun _ _ _ _ _ => (pe_cmpR op_eq (pv 3) (pv 1) (nomark _)))) (nomark _)) (pss_one (ps_ret pe_bl)) pss_nil))))
      (pss_one (ps_ret pe_bl))))), ?_⟩
    refine asg_use ?_
    refine rw_lst (e := e) (off := 0) (n := 10) hT (ea_cons (ea_cons (ea_cons (ea_cons (ea_cons (ea_cons (ea_cons (ea_cons (ea_cons (ea_cons ea_nil)))))))))) (by decide) fun L1 us1 H1 x1 hL1 hl1 r1 => ?_
    have hT1 := x1.tabs hT
    refine asg_use ?_
    refine rw_cat (e := e) (i := 0) (off := 0) (n := 9) hT1 hL1 r1 rfl (by omega) (by decide) (by rw [hl1]; exact ea_cons (ea_cons (ea_cons (ea_cons (ea_cons (ea_cons (ea_cons (ea_cons (ea_cons ea_nil))))))))) fun L2' us2 H2 x2 hL2 hl2 r2 => ?_
    have hT2 := x2.tabs hT1
    refine for_enum (K := K) rfl ?_
    refine rw_cat (e := e) (i := 0) (off := 0) (n := 1) hT2 hL2 r2 rfl (by omega) (by decide) (by rw [hl2, hl1]; exact ea_cons ea_nil) fun L3 us3 H3 x3 hL3 hl3 r3 => ?_
    have hT3 := x3.tabs hT2
    have x03 := (x1.trans x2).trans x3
    refine ⟨L3, us3, rfl, SqL.of hL3, ?_⟩
    refine for_it (walk_enum (K := K)) (fun i σ H' => ∃ (y0 y1 y2 y3 : Option V), σ = [y0, y1, y2, y3] ∧ Ext tb [] H3 H') ⟨_, _, _, _, rfl, Ext.refl⟩ (fun i σ H' _ h => by
      obtain ⟨_, _, _, _, _, x⟩ := h
      exact SqL.of (x.lst hT3 hL3 (by simp))) ?_ ?_
    · rintro i x σ H4 H5 hi ⟨y0, y1, y2, y3, rfl, x4⟩ ⟨Tp, u, v, rfl, nT, rfl, hu, hv⟩
      cases hu
      have hT4 := x4.tabs hT3
      have i20 : i < 20 := by omega
      obtain ⟨a, rfl, ha4⟩ := (r3.ext x4 hT3) i v hv
      rw [Nat.zero_add] at ha4
      have x5 : Ext tb [] H4 (upd H4 Tp (.tup [.int ((i : Nat) : Int), .ref a])) := Ext.new hT4 nT
      have ha5 := Ext.exo x5 hT4 ha4
      have hT5 := x5.tabs hT4
      refine ⟨Tp, _, rfl, SqT.of upd_same, rfl, _, _, rfl, _, _, rfl, rfl, ?_⟩
      generalize upd H4 Tp (.tup [.int ((i : Nat) : Int), .ref a]) = H5 at x5 ha5 hT5 ⊢
      refine ⟨_, rfl, a, e i, .ref S, .ref S, true, rfl, ha5, R.cc i i20, fun u r => r, R.ks i i20, true, rfl, iteF ?_⟩
      refine ⟨_, rfl, a, e i, .ty "ValueError", .type "ValueError", true, rfl, ha5, R.cc i i20, fun u r => r, R.kv i i20, true, rfl, iteF ?_⟩
      refine ⟨_, rfl, a, i, rfl, i20, ha5, hT5, fun L H6 x6 hL => ?_⟩
      have hT6 := x6.tabs hT5
      refine ⟨_, rfl, by decide, by decide, fun D hDn => ?_⟩
      have hDn : H6 D = none := hDn
      have nDL : D ≠ L := fun z => by rw [z, hL] at hDn; cases hDn
      refine lc_range (lo := 0) (n := (20 : Int).toNat) (fun j H7 => H7 D = some (.lst ((List.range j).map fun m => .bl (decide (m = i)))) ∧ Ext tb [] H6 H7) ⟨upd_same, Ext.new hT6 hDn⟩ ?_ ?_
      · rintro j H7 hj ⟨hD7, x7⟩
        have hj : j < 20 := hj
        refine ⟨rfl, _, rfl, _, rfl, rfl, _, hD7, line_lt (by rw [List.length_map, List.length_range]; omega), ?_, Ext.own hT6 x7 hDn⟩
        rw [upd_same, List.range_succ, List.map_append]
        have : decide (V.int (0 + (j : Int)) = V.int ((i : Nat) : Int)) = decide (j = i) := by
          by_cases z : j = i
          · rw [decide_eq_true z, decide_eq_true (by rw [z, Int.zero_add])]
          · rw [decide_eq_false z, decide_eq_false (fun y => z (by have := V.int.inj y; omega))]
        rw [this]
        rfl
      · rintro H7 ⟨hD7, x7⟩
        have hL7 := x7.lst hT6 hL (by simp)
        refine ⟨kdD i, kdD i, kd_dp hL7, kd_dp hD7, kd_shaped i, kd_shaped i, _, rfl, ?_⟩
        rw [SeqAt.eqv_refl (kdD i) (kd_can i)]
        refine iteF ?_
        exact ⟨_, _, _, _, rfl, ((x4.trans x5).trans x6).trans x7⟩
    · rintro σ H4 ⟨y0, y1, y2, y3, rfl, x4⟩
      exact q H4 (x03.trans x4)

end
end K01

set_option Elab.async false
set_option linter.all false
set_option maxRecDepth 100000
set_option maxHeartbeats 1000000
namespace K01
open PySem PySem.Spec PyProof.Rows L2 HK DT
section
variable {P : Program} {w : World} {K : PySem.W.Frag} {mg : Str → Option Value} {base : Heap} {f : Addr} {cd : Value} {tb : List Addr}
theorem for_disp {d : Addr} {σ : L2.St} {H H0 : Hp} {ta : TA} {n j : Nat} {bd rest : TS} {Dn : Ends} {G : PyData → Prop} (l : Lv tb d H) (hn : n ≤ 1000) (e0 : Ext tb [d] H0 H) (gb : Gb K tb d G ta σ H0 n) (Pv : Nat → L2.St → Hp → Prop)
    (h0 : ∀ H1, Ext tb [d] H H1 → Lv tb d H1 → Pv 0 σ H1)
    (hs : ∀ i u D σ' H', i < n → Ext tb [d] H H' → Lv tb d H' → Rp K (er d H') u D → G D → Pv i σ' H' → ∀ D' : Ends, (∀ σ2 H2, Ext tb [d] H' H2 → Lv tb d H2 → Pv (i + 1) σ2 H2 → D'.nx σ2 H2) → bd D' (σ'.set j (some u)) H')
    (hd : ∀ σ' H', Ext tb [d] H H' → Lv tb d H' → Pv n σ' H' → rest Dn σ' H') : tSeq (tFor (iList K (tLst ta)) (gName j) bd) rest Dn σ H := by
  unfold tSeq tFor iList
  refine lst_rd (K := K) (G := G) l hn e0 gb fun L us H1 nL e1 l1 hL hus hl => ?_
  refine ⟨L, rfl, ⟨_, SqL.of hL⟩, for_list (K := K) (a := L) (xs := us) (fun i σ' H' => Ext tb [d] H1 H' ∧ Lv tb d H' ∧ Pv i σ' H') ⟨Ext.refl, l1, h0 H1 e1 l1⟩ (fun i σ' H' _ h => SqL.of (h.1.lst l1.t hL (by simp [nL]))) ?_ ?_⟩
  · rintro i u σ' H' hu ⟨e', l', p'⟩
    obtain ⟨D, hD, hG⟩ := hus u (List.mem_of_getElem? hu)
    have hi : i < n := by
      rw [← hl]
      exact (List.getElem?_eq_some_iff.mp hu).1
    exact hs i u D σ' H' hi (e1.trans e') l' (l1.rp e' hD) hG p' _ fun σ2 H2 e2 l2 p2 => ⟨e'.trans e2, l2, p2⟩
  · rintro σ' H' ⟨e', l', p'⟩
    exact hd σ' H' (e1.trans e') l' (hl ▸ p')

/-! ### the law -/
theorem one_use {r : List V → Hp → VK → Prop} {te : TE} {σ : L2.St} {H : Hp} {Q : VK} (h : te σ H fun x H1 => r [x] H1 Q) : tCB r (tCons te tNil) σ H Q := h
theorem lc_il {tl te : TE} {g : TG} {tt : TT} {vs : List Nat} {σ : L2.St} {H : Hp} {Q : VK} (h : tl σ H fun x H1 => ∃ a, x = .ref a ∧ (∃ xs, SqL K H1 a xs) ∧ ∀ D, H1 D = none → ∃ W : Nat → Nat → Hp → Prop, (∃ m, W 0 m (upd H1 D (.lst []))) ∧ ∀ i m H, W i m H →
      ((Itl K a).stop i H ∧ Q (.ref D) H) ∨ ((Itl K a).go i H ∧ ∃ Nx : Hp → Prop, (∀ H', Nx H' → ∃ m', m' < m ∧ W (i + 1) m' H') ∧ ∀ x H', (Itl K a).yld i H x H' → g x (wipe σ vs) H' fun σ2 H2 => wipe σ2 vs = wipe σ vs ∧ tt σ2 H2 fun b H3 =>
        if b = true then te σ2 H3 fun y H4 => ∃ acc, H4 D = some (.lst acc) ∧ acc.length < sizeLine ∧ Nx (upd H4 D (.lst (acc ++ [y]))) else Nx H3)) : tLc (iList K tl) g tt te vs σ H Q := h
theorem nx_ret {te : TE} {σ : L2.St} {H : Hp} {D : Ends} {rt : VK} {bk ct : L2.St → Hp → Prop} (h : te σ H D.rt) : tNext (Ends.mk (tRet te D) rt bk ct) σ H := h
theorem op_use {r : R2} {ta te : TE} {σ : L2.St} {H : Hp} {Q : VK} (h : ta σ H fun x H1 => te σ H1 fun y H2 => r x y H2 Q) : tOp r ta te σ H Q := h
theorem nm_seq {j : Nat} {v : V} {t : TS} {D : Ends} {σ : L2.St} {H : Hp} {rt : VK} {bk ct : L2.St → Hp → Prop} (h : t D (σ.set j (some v)) H) : gName j v σ H (Ends.mk (t D) rt bk ct).nx := h
def IsI (D : PyData) : Prop := ∃ n : Int, D = .int n
def Gn (te : TE) (σ : L2.St) : Prop := ∀ (H : Hp) (Q : VK), (∀ n : Int, Q (.int n) H) → te σ H Q
section
variable {tb : List Addr} {d : Addr} {σ : L2.St} {H : Hp}
theorem gb_n {te : TE} {ta : TA} {n : Nat} (h : Gn te σ) (t : Gb K tb d IsI ta σ H n) : Gb K tb d IsI (tCons te ta) σ H (n + 1) := fun H1 e l Q q =>
  h H1 _ fun i => t H1 e l _ fun vs H3 e3 l3 hl hs => q (.int i :: vs) H3 e3 l3 (by rw [List.length_cons, hl]) fun u hu => by
    rcases List.mem_cons.mp hu with rfl | hu
    · exact ⟨.int i, .int i, i, rfl⟩
    · exact hs u hu
theorem gx_sv {i : Nat} {s : Str} (h : σ[i]? = some (some (.str s))) : Gx K tb d (tVar i) σ H (.str s) := fun H1 _ l Q q => ⟨_, h, q _ H1 Ext.refl l (.str s)⟩
theorem gx_iv {i : Nat} {n : Int} (h : σ[i]? = some (some (.int n))) : Gx K tb d (tVar i) σ H (.int n) := fun H1 _ l Q q => ⟨_, h, q _ H1 Ext.refl l (.int n)⟩
def NN (D : PyData) : Prop := nameD D = false ∧ shortD D
def NC (D : PyData) : Prop := (codeS D).isNone = true
theorem gx_adds {te : TE} {s t : Str} (h : Gx K tb d te σ H (.str s)) (hl : s.length + t.length ≤ 10000) : Gx K tb d (tOp (fun x y H Q => ∃ i j, x = V.str i ∧ y = V.str j ∧ i.length + j.length ≤ sizeLine ∧ Q (V.str (i ++ j)) H) te (tC (.str t))) σ H (.str (s ++ t)) := fun H1 e l Q q =>
  h H1 e l _ fun v H2 e2 l2 g => by
    cases g
    exact ⟨s, t, rfl, rfl, line_of (by omega), q _ H2 e2 l2 (.str _)⟩
theorem gx_cuts {i : Nat} {s : Str} {k : Int} (h : σ[i]? = some (some (.str s))) (hl : s.length ≤ 1000) : Gx K tb d (tSl rSlS (tVar i) tNoPart (tPart (tC (.int k)))) σ H (.str (cutS s none (some k))) := fun H1 e l Q q =>
  ⟨_, h, _, rfl, s, rfl, line_of (by omega), q _ H1 Ext.refl l (.str _)⟩
end
theorem app_cps (s t : Str) : (s ++ t).cps.toList = s.cps.toList ++ t.cps.toList := TL.tl_append s t
theorem app_len (s t : Str) : (s ++ t).length = s.length + t.length := by
  show (s ++ t).cps.size = s.cps.size + t.cps.size
  rw [← Array.length_toList, app_cps, List.length_append, Array.length_toList, Array.length_toList]
theorem nn_long {s t : Str} (h1 : 1 ≤ s.length) (h8 : s.length ≤ 8) (ht : t.length = 8) : NN (.str (s ++ t)) := by
  refine ⟨?_, ?_⟩
  · show (decide ((1:Int) ≤ ((s ++ t).length : Int)) && decide (((s ++ t).length : Int) ≤ 8) && _) = false
    rw [app_len, decide_eq_false (show ¬ ((s.length + t.length : Nat) : Int) ≤ 8 by omega), Bool.and_false, Bool.false_and]
  · show (s ++ t).length ≤ 1000
    rw [app_len]
    omega
theorem nn_sign {s t : Str} (hs : s.length ≤ 100) (ht : t.length ≤ 100) (h : t.cps.toList.all isLet = false) : NN (.str (s ++ t)) := by
  refine ⟨?_, ?_⟩
  · show (_ && _ && (s ++ t).cps.toList.all isLet) = false
    rw [app_cps, List.all_append, h, Bool.and_false, Bool.and_false]
  · show (s ++ t).length ≤ 1000
    rw [app_len]
    omega
def spLaw (K : PySem.W.Frag) (tb : List Addr) : Sp := fun vs H Q _ => ∃ (a : Addr) (ns : List Int), vs = [.ref a] ∧ SqL K H a (ns.map V.int) ∧ ns.length ≤ 63 ∧ Tabs tb H ∧ ∀ H', Q (.bl true) H'
def menu : List Str := ["a", "z", "zzzzzzzz", "aaaaaaaa", "az", "ba"]
theorem ok_law {tb : List Addr} (T : Txt K mg) (C_l_draws : CalE P w K mg base CX0 2 "_law_draws" (spDraws K tb)) (C_l_next : CalE P w K mg base CX0 1 "_law_next" (spNext tb)) (C_l_word : CalE P w K mg base CX0 1 "_law_word" spWord) (C_l_fits_name : CalE P w K mg base CX0 3 "_law_fits_name" (spFitsN tb)) (C_l_refusals_right : CalE P w K mg base CX0 2 "_law_refusals_right" (spRight tb))
    (C_l_fits_code : CalE P w K mg base CX0 4 "_law_fits_code" (spFitsC tb)) (C_l_refuses_name : CalE P w K mg base CX0 3 "_law_refuses_name" (spRefN K tb)) (C_l_refuses_code : CalE P w K mg base CX0 3 "_law_refuses_code" (spRefC K tb)) : FnG P w K mg base CX0 5 "law" s_law ["_law_script"] f cd (spLaw K tb) := by
  refine law_of sc_law (fun vs H Q E h => ?_) (fun A outer s H vs Q E hr h => ?_)
  · obtain ⟨a, ns, rfl, _⟩ := h
    rfl
  · obtain ⟨a, ns0, rfl, hS, hl, hT, q⟩ := h
    refine ⟨_, (pss_cons (ps_set (i := 1) sc_law.nd rfl (.inl rfl) (pe_cal C_l_draws (hr.mono (by first | decide | omega)) (by rfl) (pa_cons (pv 0) pa_nil)))
      (pss_cons (ps_set (i := 2) sc_law.nd rfl (.inl rfl) (pe_cal C_l_word (hr.mono (by first | decide | omega)) (by rfl) (pa_cons (pe_op op_add (pe_op op_mul (pe_cal C_l_next (hr.mono (by first | decide | omega)) (by rfl) (pa_cons (pv 1) pa_nil)) pe_int) (pe_cal C_l_next (hr.mono (by first | decide | omega)) (by rfl) (pa_cons (pv 1) pa_nil))) pa_nil)))
      (pss_cons (ps_set (i := 3) sc_law.nd rfl (.inl rfl) (pe_ix (q_ixL (K := K) rfl) (pe_lst (pa_cons pe_str (pa_cons pe_str (pa_cons pe_str (pa_cons pe_str (pa_cons pe_str (pa_cons pe_str pa_nil))))))) (pe_op op_mod (pe_cal C_l_next (hr.mono (by first | decide | omega)) (by rfl) (pa_cons (pv 1) pa_nil)) pe_int) (fun _ _ => rfl)))
      (pss_cons (ps_if (PW.pt (pw_or (pt_not (pt_val (pe_cal C_l_fits_name (hr.mono (by first | decide | omega)) (by rfl) (pa_cons (pv 2) pa_nil)))) (pw_or (pt_not (pt_val (pe_cal C_l_fits_name (hr.mono (by first | decide | omega)) (by rfl) (pa_cons (pv 3) pa_nil)))) (pw_or1 (pt_not (pt_val (pe_cal0 C_l_refusals_right (hr.mono (by first | decide | omega)) (by rfl)))))))) (pss_one (ps_ret pe_bl)) pss_nil)
      (pss_cons (ps_set (i := 4) sc_law.nd rfl (.inl rfl) (pe_cal C_l_next (hr.mono (by first | decide | omega)) (by rfl) (pa_cons (pv 1) pa_nil)))
      (pss_cons (ps_set (i := 5) sc_law.nd rfl (.inl rfl) (pe_op op_add (pe_op op_mul (pv 4) pe_int) (pe_cal C_l_next (hr.mono (by first | decide | omega)) (by rfl) (pa_cons (pv 1) pa_nil))))
      (pss_cons (ps_for PassesOwn.never rfl (q_piL (K := K) rfl (pe_lst (pa_cons (pv 4) (pa_cons (pe_op op_mod (pv 4) pe_int) (pa_cons (pv 5) (pa_cons (pe_op op_mod (pv 5) (pe_op op_pow pe_int pe_int)) (pa_cons pe_int (pa_cons (pe_op op_sub (pe_op op_pow pe_int pe_int) pe_int) (pa_cons (pe_op op_pow pe_int pe_int) (pa_cons pe_int (pa_cons pe_int (pa_cons pe_int (pa_cons (pe_op op_sub (pe_un un_neg pe_int) (pv 4)) pa_nil))))))))))))) (pg_name (i := 6) sc_law.nd rfl (.inl rfl)) (pss_one (ps_if (pt_not (pt_val (pe_cal C_l_fits_code (hr.mono (by first | decide | omega)) (by rfl) (pa_cons (pv 6) pa_nil)))) (pss_one (ps_ret pe_bl)) pss_nil)))
      (pss_cons (ps_set (i := 7) sc_law.nd rfl (.inl rfl) (pe_lst (pa_cons pe_non (pa_cons pe_bl (pa_cons pe_bl (pa_cons (pv 4) (pa_cons pe_str (pa_cons pe_str (pa_cons pe_str (pa_cons (pe_op op_add_str (pv 2) pe_str) (pa_cons (pe_op op_add_str (pe_slice sl_str (pv 2) po_none (po_some pe_int)) pe_str) (pa_cons (pe_op op_add_str (pe_slice sl_str (pv 2) po_none (po_some pe_int)) pe_str) (pa_cons (pe_tup (pa_cons (pv 2) pa_nil)) (pa_cons (pe_lst (pa_cons (pv 2) pa_nil)) (pa_cons pe_str (pa_cons pe_dnewK pa_nil))))))))))))))))
      (pss_cons (ps_set (i := 6) sc_law.nd rfl (.inl rfl) (pe_ix (q_ixL (K := K) rfl) (pv 7) (pe_op op_mod (pe_cal C_l_next (hr.mono (by first | decide | omega)) (by rfl) (pa_cons (pv 1) pa_nil)) pe_int) (fun _ _ => rfl)))
      (pss_cons (ps_if (PW.pt (pw_or (pt_not (pt_val (pe_cal C_l_refuses_name (hr.mono (by first | decide | omega)) (by rfl) (pa_cons (pv 6) pa_nil)))) (pw_or1 (pt_not (pt_val (pe_callB (q_all (K := K) rfl rfl) (by rfl) T.b_all (by decide +kernel) (pa_cons (pe_lc (own := [("_law_each", 8)]) (g := gName 8) (tt := tYes) (by rfl) sc_law.nd (q_piL (K := K) rfl (pv 7)) (blkOk_by (own := [("_law_each", 8)]) (N := n_law) (sc := defScope s_law) (by decide +kernel)) (fun _ _ _ _ _ => (pg_name (i := 8) sc_law.nd rfl (.inl rfl))) (fun _ _ _ _ _ => pts_nil) (fun _ _ _ _ _ => (pe_cal C_l_refuses_name (hr.mono (by first | decide | omega)) (by rfl) (pa_cons (pv 8) pa_nil)))) pa_nil))))))) (pss_one (ps_ret pe_bl)) pss_nil)
      (pss_one (ps_ret (pe_callB (q_all (K := K) rfl rfl) (by rfl) T.b_all (by decide +kernel) (pa_cons (pe_lc (own := [("_law_each", 8)]) (g := gName 8) (tt := tYes) (by rfl) sc_law.nd (q_piL (K := K) rfl (pe_lst (pa_cons pe_non (pa_cons pe_bl (pa_cons pe_bl (pa_cons (pv 2) (pa_cons pe_str (pa_cons (pe_tup (pa_cons pe_int pa_nil)) (pa_cons (pe_lst (pa_cons (pv 4) pa_nil)) (pa_cons pe_dnewK pa_nil)))))))))) (blkOk_by (own := [("_law_each", 8)]) (N := n_law) (sc := defScope s_law) (by decide +kernel)) (fun _ _ _ _ _ => (pg_name (i := 8) sc_law.nd rfl (.inl rfl))) (fun _ _ _ _ _ => pts_nil) (fun _ _ _ _ _ => (pe_cal C_l_refuses_code (hr.mono (by first | decide | omega)) (by rfl) (pa_cons (pv 8) pa_nil)))) pa_nil)))))))))))))), ?_⟩
    refine ⟨_, rfl, a, ns0, rfl, hS, hl, hT, fun H1 d ds ex1 nd hD hd1 => ?_⟩
    have l1 : Lv tb d H1 := ⟨ex1.tabs hT, ds, hD, hd1⟩
    -- word
    refine ⟨_, rfl, d, ds, rfl, hd1, hD, l1.t, fun x1 r1 H2 hx1 hD2 ex2 hd2 => ?_⟩
    have l2 : Lv tb d H2 := ⟨ex2.tabs l1.t, r1, hD2, hd2⟩
    refine ⟨_, _, rfl, rfl, .inr ⟨by decide, by decide⟩, _, rfl, d, r1, rfl, hd2, hD2, l2.t, fun x2 r2 H3 hx2 hD3 ex3 hd3 => ?_⟩
    have l3 : Lv tb d H3 := ⟨ex3.tabs l2.t, r2, hD3, hd3⟩
    have b1 := hx1.1
    have b2 := hx2.1
    refine ⟨_, _, rfl, rfl, _, rfl, by omega, fun z hz => ?_⟩
    have hp := nm_parts hz
    -- other
    refine ⟨by show 6 ≤ sizeLine; decide, fun t nt => ?_⟩
    have l4 : Lv tb d (upd H3 t (.lst (menu.map V.str))) := l3.new nt
    have ntd := l3.ne nt
    refine ⟨_, rfl, d, r2, rfl, by rw [upd_ne (Ne.symm ntd)]; exact hd3, hD3, l4.t, fun x3 r3 H5 hx3 hD5 ex5 hd5 => ?_⟩
    have l5 : Lv tb d H5 := ⟨ex5.tabs l4.t, r3, hD5, hd5⟩
    have b6 := mod_rg x3 6 (by decide)
    have ht5 := ex5.lst l4.t (a := t) upd_same (by simp [ntd])
    obtain ⟨o, ho, hoa⟩ : ∃ o, o ∈ menu ∧ atI (menu.map V.str) (x3 % 6) = some (.str o) := by
      have hk : (x3 % 6).toNat < menu.length := by show (x3 % 6).toNat < 6; omega
      exact ⟨menu[(x3 % 6).toNat], List.getElem_mem hk, at_of (j := (x3 % 6).toNat) (by omega) (by rw [List.getElem?_map, List.getElem?_eq_getElem hk] <;> rfl)⟩
    have hom : isNm o = true := by
      have : menu.all isNm = true := by decide +kernel
      exact List.all_eq_true.mp this o ho
    refine ⟨_, _, rfl, rfl, (by show (0:Int) < 6; decide), t, menu.map V.str, _, .str o, rfl, rfl, SqL.of ht5, hoa, ?_⟩
    refine ⟨_, rfl, z, rfl, hz, l5.t, fun H6 e6 => ⟨true, rfl, iteF ?_⟩⟩
    have l6 := l5.ext0 e6
    refine ⟨_, rfl, o, rfl, hom, l6.t, fun H7 e7 => ⟨true, rfl, iteF ?_⟩⟩
    have l7 := l6.ext0 e7
    refine ⟨rfl, l7.t, fun H8 e8 => ⟨true, rfl, iteF ?_⟩⟩
    have l8 := l7.ext0 e8
    obtain ⟨r8, hD8, hd8⟩ := l8.r
    -- number, great
    refine ⟨_, rfl, d, r8, rfl, hd8, hD8, l8.t, fun x4 r4 H9 hx4 hD9 ex9 hd9 => ?_⟩
    have l9 : Lv tb d H9 := ⟨ex9.tabs l8.t, r4, hD9, hd9⟩
    refine ⟨_, rfl, _, _, rfl, rfl, .inr ⟨by decide, by decide⟩, _, rfl, d, r4, rfl, hd9, hD9, l9.t, fun x5 r5 H10 hx5 hD10 ex10 hd10 => ⟨_, _, rfl, rfl, ?_⟩⟩
    have l10 : Lv tb d H10 := ⟨ex10.tabs l9.t, r5, hD10, hd10⟩
    refine nm_seq ?_
    refine for_disp (K := K) (G := IsI) (n := 11) l10 (by decide) Ext.refl ?ga (fun i σ' H' => ∃ y6 y7 y8 : Option V, σ' = [some (.ref a), some (.ref d), some (.str z), some (.str o), some (.int x4), some (.int (x4 * 2147483629 + x5)), y6, y7, y8]) (fun H' _ _ => ⟨_, _, _, rfl⟩) ?_ ?_
    case ga =>
      refine gb_n (fun H Q q => ⟨_, rfl, q _⟩) (gb_n (fun H Q q => ⟨_, rfl, _, _, rfl, rfl, (by show (0:Int) < 1000; decide), q _⟩) (gb_n (fun H Q q => ⟨_, rfl, q _⟩) (gb_n (fun H Q q => ⟨_, rfl, _, _, rfl, rfl, ⟨by decide, by decide, by decide⟩, _, _, rfl, rfl, (by show (0:Int) < 27 ^ (8:Int).toNat; decide), q _⟩) (gb_n (fun H Q q => q _) (gb_n (fun H Q q => ⟨_, _, rfl, rfl, ⟨by decide, by decide, by decide⟩, _, _, rfl, rfl, q _⟩) (gb_n (fun H Q q => ⟨_, _, rfl, rfl, ⟨by decide, by decide, by decide⟩, q _⟩) (gb_n (fun H Q q => q _) (gb_n (fun H Q q => q _) (gb_n (fun H Q q => q _) (gb_n (fun H Q q => ⟨_, rfl, _, rfl, _, _, rfl, rfl, q _⟩) gb_nil))))))))))
    · rintro i u D σ' H' hi e' l' hu ⟨n, rfl⟩ ⟨y6, y7, y8, rfl⟩ D' hk
      cases hu
      refine ⟨_, rfl, n, rfl, l'.t, fun H2 e2 => ⟨true, rfl, iteF ?_⟩⟩
      exact hk _ H2 e2.of0 (l'.ext0 e2) ⟨_, _, _, rfl⟩
    rintro σ' H11 e11 l11 ⟨y6, y7, y8, rfl⟩
    -- bad
    refine asg_use ?_
    refine lst_rd (K := K) (G := NN) (n := 14) l11 (by decide) Ext.refl ?gb fun L us H12 nL e12 l12 hL hus hul => ?_
    case gb =>
      have c7 : (cutS z none (some 7)).length ≤ 100 := Nat.le_trans (cutS_length z _ _) (by omega)
      refine gb_cons gx_n ⟨rfl, trivial⟩ (gb_cons gx_b ⟨rfl, trivial⟩ (gb_cons gx_b ⟨rfl, trivial⟩ (gb_cons (gx_iv rfl) ⟨rfl, trivial⟩ (gb_cons gx_s ⟨by decide +kernel, by show Str.length _ ≤ 1000; decide +kernel⟩ (gb_cons gx_s ⟨by decide +kernel, by show Str.length _ ≤ 1000; decide +kernel⟩ (gb_cons gx_s ⟨by decide +kernel, by show Str.length _ ≤ 1000; decide +kernel⟩ ?_))))))
      refine gb_cons (gx_adds (gx_sv rfl) (by rw [show Str.length "abcdefgh" = 8 by decide +kernel]; omega)) (nn_long hp.1 hp.2.1 (by decide +kernel)) ?_
      refine gb_cons (gx_adds (gx_cuts rfl (by omega)) (by rw [show Str.length " " = 1 by decide +kernel]; omega)) (nn_sign c7 (by decide +kernel) (by decide +kernel)) ?_
      refine gb_cons (gx_adds (gx_cuts rfl (by omega)) (by rw [show Str.length "\n" = 1 by decide +kernel]; omega)) (nn_sign c7 (by decide +kernel) (by decide +kernel)) ?_
      exact gb_cons (gx_tup (gx_cons (gx_sv rfl) gx_nil)) ⟨rfl, trivial⟩ (gb_cons (gx_lst (gx_cons (gx_sv rfl) gx_nil)) ⟨rfl, trivial⟩ (gb_cons gx_s ⟨by decide +kernel, by show Str.length _ ≤ 1000; decide +kernel⟩ (gb_cons gx_dict ⟨rfl, trivial⟩ gb_nil)))
    obtain ⟨r12, hD12, hd12⟩ := l12.r
    refine ⟨_, rfl, _, rfl, d, r12, rfl, hd12, hD12, l12.t, fun x6 r6 H13 hx6 hD13 ex13 hd13 => ?_⟩
    have l13 : Lv tb d H13 := ⟨ex13.tabs l12.t, r6, hD13, hd13⟩
    have b14 := mod_rg x6 14 (by decide)
    have hL13 := ex13.lst l12.t hL (by simp [nL])
    have hus13 := hus.ext l12 ex13
    obtain ⟨u, hu, hua⟩ : ∃ u, u ∈ us ∧ atI us (x6 % 14) = some u := by
      have hk : (x6 % 14).toNat < us.length := by omega
      exact ⟨us[(x6 % 14).toNat], List.getElem_mem hk, at_of (j := (x6 % 14).toNat) (by omega) (List.getElem?_eq_getElem hk)⟩
    refine ⟨_, _, rfl, rfl, (by show (0:Int) < 14; decide), L, us, _, u, rfl, rfl, SqL.of hL13, hua, ?_⟩
    obtain ⟨D0, hD0, hN0⟩ := hus13 u hu
    refine ⟨_, rfl, u, D0, rfl, Rp_ext er_un l13.te _ hD0, hN0.2, l13.t, fun H14 e14 => ?_⟩
    have l14 := l13.ext0 e14
    rw [hN0.1]
    refine ⟨true, rfl, iteF ?_⟩
    have hL14 := e14.lst l13.t hL13 (by simp)
    have hus14 := hus13.ext l13 (Ext.of0 (ch' := [d]) e14)
    refine ⟨_, rfl, L, rfl, ⟨_, SqL.of hL14⟩, fun D hDn => ?_⟩
    have hDn : H14 D = none := hDn
    have nDd := l14.ne hDn
    refine lc_list (K := K) (a := L) (xs := us) (fun i H' => ∃ bs : List Bool, bs.length = i ∧ bs.all id = true ∧ H' D = some (.lst (bs.map V.bl)) ∧ Ext tb [d] H14 H' ∧ Lv tb d H') ⟨[], rfl, rfl, upd_same, Ext.new l14.t hDn, l14.new hDn⟩ (fun i H' _ h => by
      obtain ⟨_, _, _, _, e, _⟩ := h
      exact SqL.of (e.lst l14.t hL14 (by simp [nL]))) ?_ ?_
    · rintro i x H' hx ⟨bs, hb1, hb2, hb3, e', l'⟩
      obtain ⟨D1, hD1, hN1⟩ := hus14 x (List.mem_of_getElem? hx)
      have hi : i < us.length := (List.getElem?_eq_some_iff.mp hx).1
      refine ⟨rfl, _, rfl, x, D1, rfl, Rp_ext er_un l'.te _ (l14.rp e' hD1), hN1.2, l'.t, fun H2 e2 => ?_⟩
      rw [hN1.1]
      have l2 := l'.ext0 e2
      have hb3' := e2.lst l'.t hb3 (by simp)
      have nt2 : D ∉ tb := ne_tab l2.t hb3' fun ps z => by cases z
      have e2d : Ext tb [d] H14 H2 := e'.trans e2.of0
      refine ⟨_, hb3', line_lt (by rw [List.length_map]; omega), bs ++ [true], by rw [List.length_append, hb1] <;> rfl, by rw [List.all_append, hb2] <;> rfl, by rw [upd_same, List.map_append] <;> rfl, Ext.own l14.t e2d hDn, ?_⟩
      refine ⟨l2.t.upd nt2, ?_⟩
      obtain ⟨r, g1, g2⟩ := l2.r
      exact ⟨r, g1, by rw [upd_ne (Ne.symm nDd)]; exact g2⟩
    rintro H15 ⟨bs, hb1, hb2, hb3, e15, l15⟩
    refine ⟨D, bs, rfl, SqL.of hb3, ?_⟩
    rw [hb2]
    refine ⟨true, rfl, iteF ?_⟩
    refine nx_ret ?_
    refine one_use ?_
    refine lc_il ?_
    refine lst_rd (K := K) (G := NC) (n := 8) l15 (by decide) Ext.refl ?gc fun L2' vs H16 nL2 e16 l16 hL2 hvs hvl => ?_
    case gc =>
      exact gb_cons gx_n rfl (gb_cons gx_b rfl (gb_cons gx_b rfl (gb_cons (gx_sv rfl) rfl (gb_cons gx_s rfl (gb_cons (gx_tup (gx_cons gx_i gx_nil)) rfl (gb_cons (gx_lst (gx_cons (gx_iv rfl) gx_nil)) rfl (gb_cons gx_dict rfl gb_nil)))))))
    refine ⟨L2', rfl, ⟨_, SqL.of hL2⟩, fun D2 hDn2 => ?_⟩
    have hDn2 : H16 D2 = none := hDn2
    have nDd2 := l16.ne hDn2
    refine lc_list (K := K) (a := L2') (xs := vs) (fun i H' => ∃ bs : List Bool, bs.length = i ∧ bs.all id = true ∧ H' D2 = some (.lst (bs.map V.bl)) ∧ Ext tb [d] H16 H' ∧ Lv tb d H') ⟨[], rfl, rfl, upd_same, Ext.new l16.t hDn2, l16.new hDn2⟩ (fun i H' _ h => by
      obtain ⟨_, _, _, _, e, _⟩ := h
      exact SqL.of (e.lst l16.t hL2 (by simp [nL2]))) ?_ ?_
    · rintro i x H' hx ⟨bs, hb1, hb2, hb3, e', l'⟩
      obtain ⟨D1, hD1, hN1⟩ := hvs x (List.mem_of_getElem? hx)
      have hi : i < vs.length := (List.getElem?_eq_some_iff.mp hx).1
      refine ⟨rfl, _, rfl, x, D1, rfl, Rp_ext er_un l'.te _ (l16.rp e' hD1), l'.t, fun H2 e2 => ?_⟩
      rw [show (codeS D1).isNone = true from hN1]
      have l2 := l'.ext0 e2
      have hb3' := e2.lst l'.t hb3 (by simp)
      have nt2 : D2 ∉ tb := ne_tab l2.t hb3' fun ps z => by cases z
      have e2d : Ext tb [d] H16 H2 := e'.trans e2.of0
      refine ⟨_, hb3', line_lt (by rw [List.length_map]; omega), bs ++ [true], by rw [List.length_append, hb1] <;> rfl, by rw [List.all_append, hb2] <;> rfl, by rw [upd_same, List.map_append] <;> rfl, Ext.own l16.t e2d hDn2, ?_⟩
      refine ⟨l2.t.upd nt2, ?_⟩
      obtain ⟨r, g1, g2⟩ := l2.r
      exact ⟨r, g1, by rw [upd_ne (Ne.symm nDd2)]; exact g2⟩
    · rintro H17 ⟨bs, hb1, hb2, hb3, e17, l17⟩
      refine ⟨D2, bs, rfl, SqL.of hb3, ?_⟩
      rw [hb2]
      exact q H17

end
end K01

set_option Elab.async false
set_option linter.all false
set_option maxRecDepth 100000
set_option maxHeartbeats 4000000
namespace K01
open PySem PySem.Spec PyProof.Rows L2 HK DT
/-! ### the end -/
def excB (K : PySem.W.Frag) (D : Addr) : Bool :=
  (PySem.W.findIn K (.ref D) "__getattribute__" == some (some (.builtin "BaseException.__getattribute__"))) && ((PySem.W.findIn K (.ref D) "__getattr__" == some none) && ((PySem.W.subIn K (.ref D) (.type "BaseException") == some true) && (PySem.W.hasDictIn K D &&
  ((PySem.W.findIn K (.ref D) "__class__" == some (some (.builtin "object.__class__"))) && ((PySem.W.specialIn K (.builtin "object.__class__") "__get__" == some (some (.builtin "getset_descriptor.__get__"))) && ((PySem.W.takesIn K (.builtin "object.__class__") == some true) && (PySem.W.mroIn K D (.type "object") == some true)))))))
theorem excB_ok {K : PySem.W.Frag} {D : Addr} (h : excB K D = true) : ExcC K D := by
  unfold excB at h
  simp only [Bool.and_eq_true, beq_iff_eq] at h
  obtain ⟨h1, h2, h3, h4, h5, h6, h7, h8⟩ := h
  exact ⟨h1, h2, h3, h4, h5, h6, h7, h8⟩
def esOf (cs : List Addr) (k : Nat) : Addr := cs.getD k 0
theorem all20 {p : Nat → Bool} (h : (List.range 20).all p = true) : ∀ k, k < 20 → p k = true := fun k hk => List.all_eq_true.mp h k (List.mem_range.mpr hk)
theorem all_mk {l : PySem.W.OpenLaw} {w : World} {K : PySem.W.Frag} {h : Heap} {mg : Str → Option Value} {fa : Addr} {q : Program} (X : K.In h) (G : h.Ns mainGlobals mg) (hfa : mg "law" = some (.ref fa)) (tabs : TabAt K mg h q)
    {f_is_number : Addr} {oc_is_number : Value} {od_is_number an_is_number : Option Addr} {kV_is_number dc_is_number pm_is_number ct_is_number : Value} {sl_is_number : Array (Option Value)}
    {cd_is_number : Value}
    {f_is_name : Addr} {oc_is_name : Value} {od_is_name an_is_name : Option Addr} {kV_is_name dc_is_name pm_is_name ct_is_name : Value} {sl_is_name : Array (Option Value)}
    {cc_is_name pt_is_name : Addr} {ec_is_name : Value} {ed_is_name : Option Addr} {ev_is_name : Array Value} {es_is_name : Array (Option Value)}
    {f_code_of : Addr} {oc_code_of : Value} {od_code_of an_code_of : Option Addr} {kV_code_of dc_code_of pm_code_of ct_code_of : Value} {sl_code_of : Array (Option Value)}
    {cd_code_of : Value}
    {f_name_of : Addr} {oc_name_of : Value} {od_name_of an_name_of : Option Addr} {kV_name_of dc_name_of pm_name_of ct_name_of : Value} {sl_name_of : Array (Option Value)}
    {cd_name_of : Value}
    {f_l_mixed : Addr} {oc_l_mixed : Value} {od_l_mixed an_l_mixed : Option Addr} {kV_l_mixed dc_l_mixed pm_l_mixed ct_l_mixed : Value} {sl_l_mixed : Array (Option Value)}
    {cd_l_mixed : Value}
    {f_l_draws : Addr} {oc_l_draws : Value} {od_l_draws an_l_draws : Option Addr} {kV_l_draws dc_l_draws pm_l_draws ct_l_draws : Value} {sl_l_draws : Array (Option Value)}
    {cd_l_draws : Value}
    {f_l_next : Addr} {oc_l_next : Value} {od_l_next an_l_next : Option Addr} {kV_l_next dc_l_next pm_l_next ct_l_next : Value} {sl_l_next : Array (Option Value)}
    {cd_l_next : Value}
    {f_l_code : Addr} {oc_l_code : Value} {od_l_code an_l_code : Option Addr} {kV_l_code dc_l_code pm_l_code ct_l_code : Value} {sl_l_code : Array (Option Value)}
    {cd_l_code : Value}
    {f_l_word : Addr} {oc_l_word : Value} {od_l_word an_l_word : Option Addr} {kV_l_word dc_l_word pm_l_word ct_l_word : Value} {sl_l_word : Array (Option Value)}
    {cd_l_word : Value}
    {f_l_is_code : Addr} {oc_l_is_code : Value} {od_l_is_code an_l_is_code : Option Addr} {kV_l_is_code dc_l_is_code pm_l_is_code ct_l_is_code : Value} {sl_l_is_code : Array (Option Value)}
    {cd_l_is_code : Value}
    {f_l_refuses_name : Addr} {oc_l_refuses_name : Value} {od_l_refuses_name an_l_refuses_name : Option Addr} {kV_l_refuses_name dc_l_refuses_name pm_l_refuses_name ct_l_refuses_name : Value} {sl_l_refuses_name : Array (Option Value)}
    {cd_l_refuses_name : Value}
    {f_l_refuses_code : Addr} {oc_l_refuses_code : Value} {od_l_refuses_code an_l_refuses_code : Option Addr} {kV_l_refuses_code dc_l_refuses_code pm_l_refuses_code ct_l_refuses_code : Value} {sl_l_refuses_code : Array (Option Value)}
    {cd_l_refuses_code : Value}
    {f_l_number : Addr} {oc_l_number : Value} {od_l_number an_l_number : Option Addr} {kV_l_number dc_l_number pm_l_number ct_l_number : Value} {sl_l_number : Array (Option Value)}
    {cd_l_number : Value}
    {f_l_fits_name : Addr} {oc_l_fits_name : Value} {od_l_fits_name an_l_fits_name : Option Addr} {kV_l_fits_name dc_l_fits_name pm_l_fits_name ct_l_fits_name : Value} {sl_l_fits_name : Array (Option Value)}
    {cd_l_fits_name : Value}
    {f_l_fits_code : Addr} {oc_l_fits_code : Value} {od_l_fits_code an_l_fits_code : Option Addr} {kV_l_fits_code dc_l_fits_code pm_l_fits_code ct_l_fits_code : Value} {sl_l_fits_code : Array (Option Value)}
    {cd_l_fits_code : Value}
    {f_l_kinds : Addr} {oc_l_kinds : Value} {od_l_kinds an_l_kinds : Option Addr} {kV_l_kinds dc_l_kinds pm_l_kinds ct_l_kinds : Value} {sl_l_kinds : Array (Option Value)}
    {cd_l_kinds : Value}
    {f_l_refusals_right : Addr} {oc_l_refusals_right : Value} {od_l_refusals_right an_l_refusals_right : Option Addr} {kV_l_refusals_right dc_l_refusals_right pm_l_refusals_right ct_l_refusals_right : Value} {sl_l_refusals_right : Array (Option Value)}
    {cd_l_refusals_right : Value}
    {f_law : Addr} {oc_law : Value} {od_law an_law : Option Addr} {kV_law dc_law pm_law ct_law : Value} {sl_law : Array (Option Value)}
    {cd_law : Value}
    {C_NoName fI_NoName cc_NoName cda_NoName : Addr} {xoc_NoName xkV_NoName xdc_NoName xpm_NoName xct_NoName xcl_NoName xel_NoName : Value} {xod_NoName xan_NoName xcd_NoName xed_NoName : Option Addr} {xsl_NoName xcs_NoName xes_NoName : Array (Option Value)} {xvs_NoName : Array Value} {xfi_NoName : Str} {xtk_NoName : Tok}
    {C_NoView fI_NoView cc_NoView cda_NoView : Addr} {xoc_NoView xkV_NoView xdc_NoView xpm_NoView xct_NoView xcl_NoView xel_NoView : Value} {xod_NoView xan_NoView xcd_NoView xed_NoView : Option Addr} {xsl_NoView xcs_NoView xes_NoView : Array (Option Value)} {xvs_NoView : Array Value} {xfi_NoView : Str} {xtk_NoView : Tok}
    {C_NoDeed fI_NoDeed cc_NoDeed cda_NoDeed : Addr} {xoc_NoDeed xkV_NoDeed xdc_NoDeed xpm_NoDeed xct_NoDeed xcl_NoDeed xel_NoDeed : Value} {xod_NoDeed xan_NoDeed xcd_NoDeed xed_NoDeed : Option Addr} {xsl_NoDeed xcs_NoDeed xes_NoDeed : Array (Option Value)} {xvs_NoDeed : Array Value} {xfi_NoDeed : Str} {xtk_NoDeed : Tok}
    {C_NoThing fI_NoThing cc_NoThing cda_NoThing : Addr} {xoc_NoThing xkV_NoThing xdc_NoThing xpm_NoThing xct_NoThing xcl_NoThing xel_NoThing : Value} {xod_NoThing xan_NoThing xcd_NoThing xed_NoThing : Option Addr} {xsl_NoThing xcs_NoThing xes_NoThing : Array (Option Value)} {xvs_NoThing : Array Value} {xfi_NoThing : Str} {xtk_NoThing : Tok}
    {C_Taken fI_Taken cc_Taken cda_Taken : Addr} {xoc_Taken xkV_Taken xdc_Taken xpm_Taken xct_Taken xcl_Taken xel_Taken : Value} {xod_Taken xan_Taken xcd_Taken xed_Taken : Option Addr} {xsl_Taken xcs_Taken xes_Taken : Array (Option Value)} {xvs_Taken : Array Value} {xfi_Taken : Str} {xtk_Taken : Tok}
    {C_TooMany fI_TooMany cc_TooMany cda_TooMany : Addr} {xoc_TooMany xkV_TooMany xdc_TooMany xpm_TooMany xct_TooMany xcl_TooMany xel_TooMany : Value} {xod_TooMany xan_TooMany xcd_TooMany xed_TooMany : Option Addr} {xsl_TooMany xcs_TooMany xes_TooMany : Array (Option Value)} {xvs_TooMany : Array Value} {xfi_TooMany : Str} {xtk_TooMany : Tok}
    {C_TooDeep fI_TooDeep cc_TooDeep cda_TooDeep : Addr} {xoc_TooDeep xkV_TooDeep xdc_TooDeep xpm_TooDeep xct_TooDeep xcl_TooDeep xel_TooDeep : Value} {xod_TooDeep xan_TooDeep xcd_TooDeep xed_TooDeep : Option Addr} {xsl_TooDeep xcs_TooDeep xes_TooDeep : Array (Option Value)} {xvs_TooDeep : Array Value} {xfi_TooDeep : Str} {xtk_TooDeep : Tok}
    {C_Within fI_Within cc_Within cda_Within : Addr} {xoc_Within xkV_Within xdc_Within xpm_Within xct_Within xcl_Within xel_Within : Value} {xod_Within xan_Within xcd_Within xed_Within : Option Addr} {xsl_Within xcs_Within xes_Within : Array (Option Value)} {xvs_Within : Array Value} {xfi_Within : Str} {xtk_Within : Tok}
    {C_NoLeaf fI_NoLeaf cc_NoLeaf cda_NoLeaf : Addr} {xoc_NoLeaf xkV_NoLeaf xdc_NoLeaf xpm_NoLeaf xct_NoLeaf xcl_NoLeaf xel_NoLeaf : Value} {xod_NoLeaf xan_NoLeaf xcd_NoLeaf xed_NoLeaf : Option Addr} {xsl_NoLeaf xcs_NoLeaf xes_NoLeaf : Array (Option Value)} {xvs_NoLeaf : Array Value} {xfi_NoLeaf : Str} {xtk_NoLeaf : Tok}
    {C_NoRoom fI_NoRoom cc_NoRoom cda_NoRoom : Addr} {xoc_NoRoom xkV_NoRoom xdc_NoRoom xpm_NoRoom xct_NoRoom xcl_NoRoom xel_NoRoom : Value} {xod_NoRoom xan_NoRoom xcd_NoRoom xed_NoRoom : Option Addr} {xsl_NoRoom xcs_NoRoom xes_NoRoom : Array (Option Value)} {xvs_NoRoom : Array Value} {xfi_NoRoom : Str} {xtk_NoRoom : Tok}
    {C_NoHouse fI_NoHouse cc_NoHouse cda_NoHouse : Addr} {xoc_NoHouse xkV_NoHouse xdc_NoHouse xpm_NoHouse xct_NoHouse xcl_NoHouse xel_NoHouse : Value} {xod_NoHouse xan_NoHouse xcd_NoHouse xed_NoHouse : Option Addr} {xsl_NoHouse xcs_NoHouse xes_NoHouse : Array (Option Value)} {xvs_NoHouse : Array Value} {xfi_NoHouse : Str} {xtk_NoHouse : Tok}
    {C_NoSnap fI_NoSnap cc_NoSnap cda_NoSnap : Addr} {xoc_NoSnap xkV_NoSnap xdc_NoSnap xpm_NoSnap xct_NoSnap xcl_NoSnap xel_NoSnap : Value} {xod_NoSnap xan_NoSnap xcd_NoSnap xed_NoSnap : Option Addr} {xsl_NoSnap xcs_NoSnap xes_NoSnap : Array (Option Value)} {xvs_NoSnap : Array Value} {xfi_NoSnap : Str} {xtk_NoSnap : Tok}
    {C_NoEntry fI_NoEntry cc_NoEntry cda_NoEntry : Addr} {xoc_NoEntry xkV_NoEntry xdc_NoEntry xpm_NoEntry xct_NoEntry xcl_NoEntry xel_NoEntry : Value} {xod_NoEntry xan_NoEntry xcd_NoEntry xed_NoEntry : Option Addr} {xsl_NoEntry xcs_NoEntry xes_NoEntry : Array (Option Value)} {xvs_NoEntry : Array Value} {xfi_NoEntry : Str} {xtk_NoEntry : Tok}
    {C_Full fI_Full cc_Full cda_Full : Addr} {xoc_Full xkV_Full xdc_Full xpm_Full xct_Full xcl_Full xel_Full : Value} {xod_Full xan_Full xcd_Full xed_Full : Option Addr} {xsl_Full xcs_Full xes_Full : Array (Option Value)} {xvs_Full : Array Value} {xfi_Full : Str} {xtk_Full : Tok}
    {C_Lost fI_Lost cc_Lost cda_Lost : Addr} {xoc_Lost xkV_Lost xdc_Lost xpm_Lost xct_Lost xcl_Lost xel_Lost : Value} {xod_Lost xan_Lost xcd_Lost xed_Lost : Option Addr} {xsl_Lost xcs_Lost xes_Lost : Array (Option Value)} {xvs_Lost : Array Value} {xfi_Lost : Str} {xtk_Lost : Tok}
    {C_NoDisk fI_NoDisk cc_NoDisk cda_NoDisk : Addr} {xoc_NoDisk xkV_NoDisk xdc_NoDisk xpm_NoDisk xct_NoDisk xcl_NoDisk xel_NoDisk : Value} {xod_NoDisk xan_NoDisk xcd_NoDisk xed_NoDisk : Option Addr} {xsl_NoDisk xcs_NoDisk xes_NoDisk : Array (Option Value)} {xvs_NoDisk : Array Value} {xfi_NoDisk : Str} {xtk_NoDisk : Tok}
    {C_NoSent fI_NoSent cc_NoSent cda_NoSent : Addr} {xoc_NoSent xkV_NoSent xdc_NoSent xpm_NoSent xct_NoSent xcl_NoSent xel_NoSent : Value} {xod_NoSent xan_NoSent xcd_NoSent xed_NoSent : Option Addr} {xsl_NoSent xcs_NoSent xes_NoSent : Array (Option Value)} {xvs_NoSent : Array Value} {xfi_NoSent : Str} {xtk_NoSent : Tok}
    {C_Other fI_Other cc_Other cda_Other : Addr} {xoc_Other xkV_Other xdc_Other xpm_Other xct_Other xcl_Other xel_Other : Value} {xod_Other xan_Other xcd_Other xed_Other : Option Addr} {xsl_Other xcs_Other xes_Other : Array (Option Value)} {xvs_Other : Array Value} {xfi_Other : Str} {xtk_Other : Tok}
    {C_NotOpen fI_NotOpen cc_NotOpen cda_NotOpen : Addr} {xoc_NotOpen xkV_NotOpen xdc_NotOpen xpm_NotOpen xct_NotOpen xcl_NotOpen xel_NotOpen : Value} {xod_NotOpen xan_NotOpen xcd_NotOpen xed_NotOpen : Option Addr} {xsl_NotOpen xcs_NotOpen xes_NotOpen : Array (Option Value)} {xvs_NotOpen : Array Value} {xfi_NotOpen : Str} {xtk_NotOpen : Tok}
    {C_NoWord fI_NoWord cc_NoWord cda_NoWord : Addr} {xoc_NoWord xkV_NoWord xdc_NoWord xpm_NoWord xct_NoWord xcl_NoWord xel_NoWord : Value} {xod_NoWord xan_NoWord xcd_NoWord xed_NoWord : Option Addr} {xsl_NoWord xcs_NoWord xes_NoWord : Array (Option Value)} {xvs_NoWord : Array Value} {xfi_NoWord : Str} {xtk_NoWord : Tok}
    {t_LETTERS : Tok}
    {t_LONGEST_NAME : Tok}
    (a_is_number : PySem.W.nsIn K mainGlobals "is_number" = some (some (.ref f_is_number))) (l_is_number : K.lookup f_is_number = some ⟨oc_is_number, od_is_number, .func (PySem.W.fnOf "is_number" "is_number" (defArgs s_is_number) (defBody s_is_number) (defScope s_is_number) .none kV_is_number dc_is_number pm_is_number an_is_number cd_is_number ct_is_number), sl_is_number⟩) (c_is_number : PySem.W.codeIn K cd_is_number "is_number" = true) (k_is_number : PySem.W.keepIn K (.ref f_is_number) = true)
    (a_is_name : PySem.W.nsIn K mainGlobals "is_name" = some (some (.ref f_is_name))) (l_is_name : K.lookup f_is_name = some ⟨oc_is_name, od_is_name, .func (PySem.W.fnOf "is_name" "is_name" (defArgs s_is_name) (defBody s_is_name) (defScope s_is_name) .none kV_is_name dc_is_name pm_is_name an_is_name (.ref cc_is_name) ct_is_name), sl_is_name⟩) (c_is_name : PySem.W.codeIn K (.ref cc_is_name) "is_name" = true) (k_is_name : PySem.W.keepIn K (.ref f_is_name) = true)
    (e_is_name : K.lookup cc_is_name = some ⟨ec_is_name, ed_is_name, .fields ev_is_name, es_is_name⟩) (p_is_name : ev_is_name[11]? = some (.ref pt_is_name)) (o_is_name : K.lookup pt_is_name = none) (r_is_name : ((recsOf q).any fun e => e.name == ("is_name" : Str)) = true)
    (a_code_of : PySem.W.nsIn K mainGlobals "code_of" = some (some (.ref f_code_of))) (l_code_of : K.lookup f_code_of = some ⟨oc_code_of, od_code_of, .func (PySem.W.fnOf "code_of" "code_of" (defArgs s_code_of) (defBody s_code_of) (defScope s_code_of) .none kV_code_of dc_code_of pm_code_of an_code_of cd_code_of ct_code_of), sl_code_of⟩) (c_code_of : PySem.W.codeIn K cd_code_of "code_of" = true) (k_code_of : PySem.W.keepIn K (.ref f_code_of) = true)
    (a_name_of : PySem.W.nsIn K mainGlobals "name_of" = some (some (.ref f_name_of))) (l_name_of : K.lookup f_name_of = some ⟨oc_name_of, od_name_of, .func (PySem.W.fnOf "name_of" "name_of" (defArgs s_name_of) (defBody s_name_of) (defScope s_name_of) .none kV_name_of dc_name_of pm_name_of an_name_of cd_name_of ct_name_of), sl_name_of⟩) (c_name_of : PySem.W.codeIn K cd_name_of "name_of" = true) (k_name_of : PySem.W.keepIn K (.ref f_name_of) = true)
    (a_l_mixed : PySem.W.nsIn K mainGlobals "_law_mixed" = some (some (.ref f_l_mixed))) (l_l_mixed : K.lookup f_l_mixed = some ⟨oc_l_mixed, od_l_mixed, .func (PySem.W.fnOf "_law_mixed" "_law_mixed" (defArgs s_l_mixed) (defBody s_l_mixed) (defScope s_l_mixed) .none kV_l_mixed dc_l_mixed pm_l_mixed an_l_mixed cd_l_mixed ct_l_mixed), sl_l_mixed⟩) (c_l_mixed : PySem.W.codeIn K cd_l_mixed "_law_mixed" = true) (k_l_mixed : PySem.W.keepIn K (.ref f_l_mixed) = true)
    (a_l_draws : PySem.W.nsIn K mainGlobals "_law_draws" = some (some (.ref f_l_draws))) (l_l_draws : K.lookup f_l_draws = some ⟨oc_l_draws, od_l_draws, .func (PySem.W.fnOf "_law_draws" "_law_draws" (defArgs s_l_draws) (defBody s_l_draws) (defScope s_l_draws) .none kV_l_draws dc_l_draws pm_l_draws an_l_draws cd_l_draws ct_l_draws), sl_l_draws⟩) (c_l_draws : PySem.W.codeIn K cd_l_draws "_law_draws" = true) (k_l_draws : PySem.W.keepIn K (.ref f_l_draws) = true)
    (a_l_next : PySem.W.nsIn K mainGlobals "_law_next" = some (some (.ref f_l_next))) (l_l_next : K.lookup f_l_next = some ⟨oc_l_next, od_l_next, .func (PySem.W.fnOf "_law_next" "_law_next" (defArgs s_l_next) (defBody s_l_next) (defScope s_l_next) .none kV_l_next dc_l_next pm_l_next an_l_next cd_l_next ct_l_next), sl_l_next⟩) (c_l_next : PySem.W.codeIn K cd_l_next "_law_next" = true) (k_l_next : PySem.W.keepIn K (.ref f_l_next) = true)
    (a_l_code : PySem.W.nsIn K mainGlobals "_law_code" = some (some (.ref f_l_code))) (l_l_code : K.lookup f_l_code = some ⟨oc_l_code, od_l_code, .func (PySem.W.fnOf "_law_code" "_law_code" (defArgs s_l_code) (defBody s_l_code) (defScope s_l_code) .none kV_l_code dc_l_code pm_l_code an_l_code cd_l_code ct_l_code), sl_l_code⟩) (c_l_code : PySem.W.codeIn K cd_l_code "_law_code" = true) (k_l_code : PySem.W.keepIn K (.ref f_l_code) = true)
    (a_l_word : PySem.W.nsIn K mainGlobals "_law_word" = some (some (.ref f_l_word))) (l_l_word : K.lookup f_l_word = some ⟨oc_l_word, od_l_word, .func (PySem.W.fnOf "_law_word" "_law_word" (defArgs s_l_word) (defBody s_l_word) (defScope s_l_word) .none kV_l_word dc_l_word pm_l_word an_l_word cd_l_word ct_l_word), sl_l_word⟩) (c_l_word : PySem.W.codeIn K cd_l_word "_law_word" = true) (k_l_word : PySem.W.keepIn K (.ref f_l_word) = true)
    (a_l_is_code : PySem.W.nsIn K mainGlobals "_law_is_code" = some (some (.ref f_l_is_code))) (l_l_is_code : K.lookup f_l_is_code = some ⟨oc_l_is_code, od_l_is_code, .func (PySem.W.fnOf "_law_is_code" "_law_is_code" (defArgs s_l_is_code) (defBody s_l_is_code) (defScope s_l_is_code) .none kV_l_is_code dc_l_is_code pm_l_is_code an_l_is_code cd_l_is_code ct_l_is_code), sl_l_is_code⟩) (c_l_is_code : PySem.W.codeIn K cd_l_is_code "_law_is_code" = true) (k_l_is_code : PySem.W.keepIn K (.ref f_l_is_code) = true)
    (a_l_refuses_name : PySem.W.nsIn K mainGlobals "_law_refuses_name" = some (some (.ref f_l_refuses_name))) (l_l_refuses_name : K.lookup f_l_refuses_name = some ⟨oc_l_refuses_name, od_l_refuses_name, .func (PySem.W.fnOf "_law_refuses_name" "_law_refuses_name" (defArgs s_l_refuses_name) (defBody s_l_refuses_name) (defScope s_l_refuses_name) .none kV_l_refuses_name dc_l_refuses_name pm_l_refuses_name an_l_refuses_name cd_l_refuses_name ct_l_refuses_name), sl_l_refuses_name⟩) (c_l_refuses_name : PySem.W.codeIn K cd_l_refuses_name "_law_refuses_name" = true) (k_l_refuses_name : PySem.W.keepIn K (.ref f_l_refuses_name) = true)
    (a_l_refuses_code : PySem.W.nsIn K mainGlobals "_law_refuses_code" = some (some (.ref f_l_refuses_code))) (l_l_refuses_code : K.lookup f_l_refuses_code = some ⟨oc_l_refuses_code, od_l_refuses_code, .func (PySem.W.fnOf "_law_refuses_code" "_law_refuses_code" (defArgs s_l_refuses_code) (defBody s_l_refuses_code) (defScope s_l_refuses_code) .none kV_l_refuses_code dc_l_refuses_code pm_l_refuses_code an_l_refuses_code cd_l_refuses_code ct_l_refuses_code), sl_l_refuses_code⟩) (c_l_refuses_code : PySem.W.codeIn K cd_l_refuses_code "_law_refuses_code" = true) (k_l_refuses_code : PySem.W.keepIn K (.ref f_l_refuses_code) = true)
    (a_l_number : PySem.W.nsIn K mainGlobals "_law_number" = some (some (.ref f_l_number))) (l_l_number : K.lookup f_l_number = some ⟨oc_l_number, od_l_number, .func (PySem.W.fnOf "_law_number" "_law_number" (defArgs s_l_number) (defBody s_l_number) (defScope s_l_number) .none kV_l_number dc_l_number pm_l_number an_l_number cd_l_number ct_l_number), sl_l_number⟩) (c_l_number : PySem.W.codeIn K cd_l_number "_law_number" = true) (k_l_number : PySem.W.keepIn K (.ref f_l_number) = true)
    (a_l_fits_name : PySem.W.nsIn K mainGlobals "_law_fits_name" = some (some (.ref f_l_fits_name))) (l_l_fits_name : K.lookup f_l_fits_name = some ⟨oc_l_fits_name, od_l_fits_name, .func (PySem.W.fnOf "_law_fits_name" "_law_fits_name" (defArgs s_l_fits_name) (defBody s_l_fits_name) (defScope s_l_fits_name) .none kV_l_fits_name dc_l_fits_name pm_l_fits_name an_l_fits_name cd_l_fits_name ct_l_fits_name), sl_l_fits_name⟩) (c_l_fits_name : PySem.W.codeIn K cd_l_fits_name "_law_fits_name" = true) (k_l_fits_name : PySem.W.keepIn K (.ref f_l_fits_name) = true)
    (a_l_fits_code : PySem.W.nsIn K mainGlobals "_law_fits_code" = some (some (.ref f_l_fits_code))) (l_l_fits_code : K.lookup f_l_fits_code = some ⟨oc_l_fits_code, od_l_fits_code, .func (PySem.W.fnOf "_law_fits_code" "_law_fits_code" (defArgs s_l_fits_code) (defBody s_l_fits_code) (defScope s_l_fits_code) .none kV_l_fits_code dc_l_fits_code pm_l_fits_code an_l_fits_code cd_l_fits_code ct_l_fits_code), sl_l_fits_code⟩) (c_l_fits_code : PySem.W.codeIn K cd_l_fits_code "_law_fits_code" = true) (k_l_fits_code : PySem.W.keepIn K (.ref f_l_fits_code) = true)
    (a_l_kinds : PySem.W.nsIn K mainGlobals "_law_kinds" = some (some (.ref f_l_kinds))) (l_l_kinds : K.lookup f_l_kinds = some ⟨oc_l_kinds, od_l_kinds, .func (PySem.W.fnOf "_law_kinds" "_law_kinds" (defArgs s_l_kinds) (defBody s_l_kinds) (defScope s_l_kinds) .none kV_l_kinds dc_l_kinds pm_l_kinds an_l_kinds cd_l_kinds ct_l_kinds), sl_l_kinds⟩) (c_l_kinds : PySem.W.codeIn K cd_l_kinds "_law_kinds" = true) (k_l_kinds : PySem.W.keepIn K (.ref f_l_kinds) = true)
    (a_l_refusals_right : PySem.W.nsIn K mainGlobals "_law_refusals_right" = some (some (.ref f_l_refusals_right))) (l_l_refusals_right : K.lookup f_l_refusals_right = some ⟨oc_l_refusals_right, od_l_refusals_right, .func (PySem.W.fnOf "_law_refusals_right" "_law_refusals_right" (defArgs s_l_refusals_right) (defBody s_l_refusals_right) (defScope s_l_refusals_right) .none kV_l_refusals_right dc_l_refusals_right pm_l_refusals_right an_l_refusals_right cd_l_refusals_right ct_l_refusals_right), sl_l_refusals_right⟩) (c_l_refusals_right : PySem.W.codeIn K cd_l_refusals_right "_law_refusals_right" = true) (k_l_refusals_right : PySem.W.keepIn K (.ref f_l_refusals_right) = true)
    (a_law : PySem.W.nsIn K mainGlobals "law" = some (some (.ref f_law))) (l_law : K.lookup f_law = some ⟨oc_law, od_law, .func (PySem.W.fnOf "law" "law" (defArgs s_law) (defBody s_law) (defScope s_law) .none kV_law dc_law pm_law an_law cd_law ct_law), sl_law⟩) (c_law : PySem.W.codeIn K cd_law "law" = true) (k_law : PySem.W.keepIn K (.ref f_law) = true)
    (xm_NoName : PySem.W.nsIn K mainGlobals "NoName" = some (some (.ref C_NoName))) (xq_NoName : PySem.W.excInitIn K C_NoName exBases "ValueError.__new__" = true) (xk_NoName : PySem.W.keepIn K (.ref C_NoName) = true) (xs_NoName : PySem.W.subIn K (.ref C_NoName) (.type "BaseException") = some true) (xt_NoName : PySem.W.typeIn K (.ref C_NoName) = some (.type "type")) (xi_NoName : PySem.W.isClsIn K C_NoName = true) (xf_NoName : PySem.W.subIn K (.ref C_NoName) (.ref C_NoName) = some true) (xv_NoName : PySem.W.subIn K (.ref C_NoName) (.type "ValueError") = some true) (xu_NoName : PySem.W.ks_superIn K C_NoName C_NoName "__init__" = some (some (.builtin "ValueError.__init__"))) (xr_NoName : PySem.W.mroIn K C_NoName (.ref C_NoName) = some true) (xg_NoName : PySem.W.findIn K (.ref C_NoName) "__init__" = some (some (.ref fI_NoName))) (xh_NoName : PySem.W.typeIn K (.ref fI_NoName) = some (.type "function")) (xl_NoName : K.lookup fI_NoName = some ⟨xoc_NoName, xod_NoName, .func (PySem.W.ksFn "__init__" "NoName.__init__" (defArgs s_NoName_init) (defBody s_NoName_init) (defScope s_NoName_init) .none xkV_NoName xdc_NoName xpm_NoName xan_NoName (.ref cda_NoName) xct_NoName cc_NoName), xsl_NoName⟩) (xc_NoName : PySem.W.codeIn K (.ref cda_NoName) "NoName.__init__" = true) (xd_NoName : K.lookup cda_NoName = some ⟨xcl_NoName, xcd_NoName, .fields xvs_NoName, xcs_NoName⟩) (xw_NoName : xvs_NoName[2]? = some (.str xfi_NoName xtk_NoName)) (xy_NoName : ((l.prog.main.file : Str) == xfi_NoName) = true) (xe_NoName : K.lookup cc_NoName = some ⟨xel_NoName, xed_NoName, .cell (some (.ref C_NoName)), xes_NoName⟩)
    (xm_NoView : PySem.W.nsIn K mainGlobals "NoView" = some (some (.ref C_NoView))) (xq_NoView : PySem.W.excInitIn K C_NoView exBases "ValueError.__new__" = true) (xk_NoView : PySem.W.keepIn K (.ref C_NoView) = true) (xs_NoView : PySem.W.subIn K (.ref C_NoView) (.type "BaseException") = some true) (xt_NoView : PySem.W.typeIn K (.ref C_NoView) = some (.type "type")) (xi_NoView : PySem.W.isClsIn K C_NoView = true) (xf_NoView : PySem.W.subIn K (.ref C_NoView) (.ref C_NoView) = some true) (xv_NoView : PySem.W.subIn K (.ref C_NoView) (.type "ValueError") = some true) (xu_NoView : PySem.W.ks_superIn K C_NoView C_NoView "__init__" = some (some (.builtin "ValueError.__init__"))) (xr_NoView : PySem.W.mroIn K C_NoView (.ref C_NoView) = some true) (xg_NoView : PySem.W.findIn K (.ref C_NoView) "__init__" = some (some (.ref fI_NoView))) (xh_NoView : PySem.W.typeIn K (.ref fI_NoView) = some (.type "function")) (xl_NoView : K.lookup fI_NoView = some ⟨xoc_NoView, xod_NoView, .func (PySem.W.ksFn "__init__" "NoView.__init__" (defArgs s_NoView_init) (defBody s_NoView_init) (defScope s_NoView_init) .none xkV_NoView xdc_NoView xpm_NoView xan_NoView (.ref cda_NoView) xct_NoView cc_NoView), xsl_NoView⟩) (xc_NoView : PySem.W.codeIn K (.ref cda_NoView) "NoView.__init__" = true) (xd_NoView : K.lookup cda_NoView = some ⟨xcl_NoView, xcd_NoView, .fields xvs_NoView, xcs_NoView⟩) (xw_NoView : xvs_NoView[2]? = some (.str xfi_NoView xtk_NoView)) (xy_NoView : ((l.prog.main.file : Str) == xfi_NoView) = true) (xe_NoView : K.lookup cc_NoView = some ⟨xel_NoView, xed_NoView, .cell (some (.ref C_NoView)), xes_NoView⟩)
    (xm_NoDeed : PySem.W.nsIn K mainGlobals "NoDeed" = some (some (.ref C_NoDeed))) (xq_NoDeed : PySem.W.excInitIn K C_NoDeed exBases "ValueError.__new__" = true) (xk_NoDeed : PySem.W.keepIn K (.ref C_NoDeed) = true) (xs_NoDeed : PySem.W.subIn K (.ref C_NoDeed) (.type "BaseException") = some true) (xt_NoDeed : PySem.W.typeIn K (.ref C_NoDeed) = some (.type "type")) (xi_NoDeed : PySem.W.isClsIn K C_NoDeed = true) (xf_NoDeed : PySem.W.subIn K (.ref C_NoDeed) (.ref C_NoDeed) = some true) (xv_NoDeed : PySem.W.subIn K (.ref C_NoDeed) (.type "ValueError") = some true) (xu_NoDeed : PySem.W.ks_superIn K C_NoDeed C_NoDeed "__init__" = some (some (.builtin "ValueError.__init__"))) (xr_NoDeed : PySem.W.mroIn K C_NoDeed (.ref C_NoDeed) = some true) (xg_NoDeed : PySem.W.findIn K (.ref C_NoDeed) "__init__" = some (some (.ref fI_NoDeed))) (xh_NoDeed : PySem.W.typeIn K (.ref fI_NoDeed) = some (.type "function")) (xl_NoDeed : K.lookup fI_NoDeed = some ⟨xoc_NoDeed, xod_NoDeed, .func (PySem.W.ksFn "__init__" "NoDeed.__init__" (defArgs s_NoDeed_init) (defBody s_NoDeed_init) (defScope s_NoDeed_init) .none xkV_NoDeed xdc_NoDeed xpm_NoDeed xan_NoDeed (.ref cda_NoDeed) xct_NoDeed cc_NoDeed), xsl_NoDeed⟩) (xc_NoDeed : PySem.W.codeIn K (.ref cda_NoDeed) "NoDeed.__init__" = true) (xd_NoDeed : K.lookup cda_NoDeed = some ⟨xcl_NoDeed, xcd_NoDeed, .fields xvs_NoDeed, xcs_NoDeed⟩) (xw_NoDeed : xvs_NoDeed[2]? = some (.str xfi_NoDeed xtk_NoDeed)) (xy_NoDeed : ((l.prog.main.file : Str) == xfi_NoDeed) = true) (xe_NoDeed : K.lookup cc_NoDeed = some ⟨xel_NoDeed, xed_NoDeed, .cell (some (.ref C_NoDeed)), xes_NoDeed⟩)
    (xm_NoThing : PySem.W.nsIn K mainGlobals "NoThing" = some (some (.ref C_NoThing))) (xq_NoThing : PySem.W.excInitIn K C_NoThing exBases "ValueError.__new__" = true) (xk_NoThing : PySem.W.keepIn K (.ref C_NoThing) = true) (xs_NoThing : PySem.W.subIn K (.ref C_NoThing) (.type "BaseException") = some true) (xt_NoThing : PySem.W.typeIn K (.ref C_NoThing) = some (.type "type")) (xi_NoThing : PySem.W.isClsIn K C_NoThing = true) (xf_NoThing : PySem.W.subIn K (.ref C_NoThing) (.ref C_NoThing) = some true) (xv_NoThing : PySem.W.subIn K (.ref C_NoThing) (.type "ValueError") = some true) (xu_NoThing : PySem.W.ks_superIn K C_NoThing C_NoThing "__init__" = some (some (.builtin "ValueError.__init__"))) (xr_NoThing : PySem.W.mroIn K C_NoThing (.ref C_NoThing) = some true) (xg_NoThing : PySem.W.findIn K (.ref C_NoThing) "__init__" = some (some (.ref fI_NoThing))) (xh_NoThing : PySem.W.typeIn K (.ref fI_NoThing) = some (.type "function")) (xl_NoThing : K.lookup fI_NoThing = some ⟨xoc_NoThing, xod_NoThing, .func (PySem.W.ksFn "__init__" "NoThing.__init__" (defArgs s_NoThing_init) (defBody s_NoThing_init) (defScope s_NoThing_init) .none xkV_NoThing xdc_NoThing xpm_NoThing xan_NoThing (.ref cda_NoThing) xct_NoThing cc_NoThing), xsl_NoThing⟩) (xc_NoThing : PySem.W.codeIn K (.ref cda_NoThing) "NoThing.__init__" = true) (xd_NoThing : K.lookup cda_NoThing = some ⟨xcl_NoThing, xcd_NoThing, .fields xvs_NoThing, xcs_NoThing⟩) (xw_NoThing : xvs_NoThing[2]? = some (.str xfi_NoThing xtk_NoThing)) (xy_NoThing : ((l.prog.main.file : Str) == xfi_NoThing) = true) (xe_NoThing : K.lookup cc_NoThing = some ⟨xel_NoThing, xed_NoThing, .cell (some (.ref C_NoThing)), xes_NoThing⟩)
    (xm_Taken : PySem.W.nsIn K mainGlobals "Taken" = some (some (.ref C_Taken))) (xq_Taken : PySem.W.excInitIn K C_Taken exBases "ValueError.__new__" = true) (xk_Taken : PySem.W.keepIn K (.ref C_Taken) = true) (xs_Taken : PySem.W.subIn K (.ref C_Taken) (.type "BaseException") = some true) (xt_Taken : PySem.W.typeIn K (.ref C_Taken) = some (.type "type")) (xi_Taken : PySem.W.isClsIn K C_Taken = true) (xf_Taken : PySem.W.subIn K (.ref C_Taken) (.ref C_Taken) = some true) (xv_Taken : PySem.W.subIn K (.ref C_Taken) (.type "ValueError") = some true) (xu_Taken : PySem.W.ks_superIn K C_Taken C_Taken "__init__" = some (some (.builtin "ValueError.__init__"))) (xr_Taken : PySem.W.mroIn K C_Taken (.ref C_Taken) = some true) (xg_Taken : PySem.W.findIn K (.ref C_Taken) "__init__" = some (some (.ref fI_Taken))) (xh_Taken : PySem.W.typeIn K (.ref fI_Taken) = some (.type "function")) (xl_Taken : K.lookup fI_Taken = some ⟨xoc_Taken, xod_Taken, .func (PySem.W.ksFn "__init__" "Taken.__init__" (defArgs s_Taken_init) (defBody s_Taken_init) (defScope s_Taken_init) .none xkV_Taken xdc_Taken xpm_Taken xan_Taken (.ref cda_Taken) xct_Taken cc_Taken), xsl_Taken⟩) (xc_Taken : PySem.W.codeIn K (.ref cda_Taken) "Taken.__init__" = true) (xd_Taken : K.lookup cda_Taken = some ⟨xcl_Taken, xcd_Taken, .fields xvs_Taken, xcs_Taken⟩) (xw_Taken : xvs_Taken[2]? = some (.str xfi_Taken xtk_Taken)) (xy_Taken : ((l.prog.main.file : Str) == xfi_Taken) = true) (xe_Taken : K.lookup cc_Taken = some ⟨xel_Taken, xed_Taken, .cell (some (.ref C_Taken)), xes_Taken⟩)
    (xm_TooMany : PySem.W.nsIn K mainGlobals "TooMany" = some (some (.ref C_TooMany))) (xq_TooMany : PySem.W.excInitIn K C_TooMany exBases "ValueError.__new__" = true) (xk_TooMany : PySem.W.keepIn K (.ref C_TooMany) = true) (xs_TooMany : PySem.W.subIn K (.ref C_TooMany) (.type "BaseException") = some true) (xt_TooMany : PySem.W.typeIn K (.ref C_TooMany) = some (.type "type")) (xi_TooMany : PySem.W.isClsIn K C_TooMany = true) (xf_TooMany : PySem.W.subIn K (.ref C_TooMany) (.ref C_TooMany) = some true) (xv_TooMany : PySem.W.subIn K (.ref C_TooMany) (.type "ValueError") = some true) (xu_TooMany : PySem.W.ks_superIn K C_TooMany C_TooMany "__init__" = some (some (.builtin "ValueError.__init__"))) (xr_TooMany : PySem.W.mroIn K C_TooMany (.ref C_TooMany) = some true) (xg_TooMany : PySem.W.findIn K (.ref C_TooMany) "__init__" = some (some (.ref fI_TooMany))) (xh_TooMany : PySem.W.typeIn K (.ref fI_TooMany) = some (.type "function")) (xl_TooMany : K.lookup fI_TooMany = some ⟨xoc_TooMany, xod_TooMany, .func (PySem.W.ksFn "__init__" "TooMany.__init__" (defArgs s_TooMany_init) (defBody s_TooMany_init) (defScope s_TooMany_init) .none xkV_TooMany xdc_TooMany xpm_TooMany xan_TooMany (.ref cda_TooMany) xct_TooMany cc_TooMany), xsl_TooMany⟩) (xc_TooMany : PySem.W.codeIn K (.ref cda_TooMany) "TooMany.__init__" = true) (xd_TooMany : K.lookup cda_TooMany = some ⟨xcl_TooMany, xcd_TooMany, .fields xvs_TooMany, xcs_TooMany⟩) (xw_TooMany : xvs_TooMany[2]? = some (.str xfi_TooMany xtk_TooMany)) (xy_TooMany : ((l.prog.main.file : Str) == xfi_TooMany) = true) (xe_TooMany : K.lookup cc_TooMany = some ⟨xel_TooMany, xed_TooMany, .cell (some (.ref C_TooMany)), xes_TooMany⟩)
    (xm_TooDeep : PySem.W.nsIn K mainGlobals "TooDeep" = some (some (.ref C_TooDeep))) (xq_TooDeep : PySem.W.excInitIn K C_TooDeep exBases "ValueError.__new__" = true) (xk_TooDeep : PySem.W.keepIn K (.ref C_TooDeep) = true) (xs_TooDeep : PySem.W.subIn K (.ref C_TooDeep) (.type "BaseException") = some true) (xt_TooDeep : PySem.W.typeIn K (.ref C_TooDeep) = some (.type "type")) (xi_TooDeep : PySem.W.isClsIn K C_TooDeep = true) (xf_TooDeep : PySem.W.subIn K (.ref C_TooDeep) (.ref C_TooDeep) = some true) (xv_TooDeep : PySem.W.subIn K (.ref C_TooDeep) (.type "ValueError") = some true) (xu_TooDeep : PySem.W.ks_superIn K C_TooDeep C_TooDeep "__init__" = some (some (.builtin "ValueError.__init__"))) (xr_TooDeep : PySem.W.mroIn K C_TooDeep (.ref C_TooDeep) = some true) (xg_TooDeep : PySem.W.findIn K (.ref C_TooDeep) "__init__" = some (some (.ref fI_TooDeep))) (xh_TooDeep : PySem.W.typeIn K (.ref fI_TooDeep) = some (.type "function")) (xl_TooDeep : K.lookup fI_TooDeep = some ⟨xoc_TooDeep, xod_TooDeep, .func (PySem.W.ksFn "__init__" "TooDeep.__init__" (defArgs s_TooDeep_init) (defBody s_TooDeep_init) (defScope s_TooDeep_init) .none xkV_TooDeep xdc_TooDeep xpm_TooDeep xan_TooDeep (.ref cda_TooDeep) xct_TooDeep cc_TooDeep), xsl_TooDeep⟩) (xc_TooDeep : PySem.W.codeIn K (.ref cda_TooDeep) "TooDeep.__init__" = true) (xd_TooDeep : K.lookup cda_TooDeep = some ⟨xcl_TooDeep, xcd_TooDeep, .fields xvs_TooDeep, xcs_TooDeep⟩) (xw_TooDeep : xvs_TooDeep[2]? = some (.str xfi_TooDeep xtk_TooDeep)) (xy_TooDeep : ((l.prog.main.file : Str) == xfi_TooDeep) = true) (xe_TooDeep : K.lookup cc_TooDeep = some ⟨xel_TooDeep, xed_TooDeep, .cell (some (.ref C_TooDeep)), xes_TooDeep⟩)
    (xm_Within : PySem.W.nsIn K mainGlobals "Within" = some (some (.ref C_Within))) (xq_Within : PySem.W.excInitIn K C_Within exBases "ValueError.__new__" = true) (xk_Within : PySem.W.keepIn K (.ref C_Within) = true) (xs_Within : PySem.W.subIn K (.ref C_Within) (.type "BaseException") = some true) (xt_Within : PySem.W.typeIn K (.ref C_Within) = some (.type "type")) (xi_Within : PySem.W.isClsIn K C_Within = true) (xf_Within : PySem.W.subIn K (.ref C_Within) (.ref C_Within) = some true) (xv_Within : PySem.W.subIn K (.ref C_Within) (.type "ValueError") = some true) (xu_Within : PySem.W.ks_superIn K C_Within C_Within "__init__" = some (some (.builtin "ValueError.__init__"))) (xr_Within : PySem.W.mroIn K C_Within (.ref C_Within) = some true) (xg_Within : PySem.W.findIn K (.ref C_Within) "__init__" = some (some (.ref fI_Within))) (xh_Within : PySem.W.typeIn K (.ref fI_Within) = some (.type "function")) (xl_Within : K.lookup fI_Within = some ⟨xoc_Within, xod_Within, .func (PySem.W.ksFn "__init__" "Within.__init__" (defArgs s_Within_init) (defBody s_Within_init) (defScope s_Within_init) .none xkV_Within xdc_Within xpm_Within xan_Within (.ref cda_Within) xct_Within cc_Within), xsl_Within⟩) (xc_Within : PySem.W.codeIn K (.ref cda_Within) "Within.__init__" = true) (xd_Within : K.lookup cda_Within = some ⟨xcl_Within, xcd_Within, .fields xvs_Within, xcs_Within⟩) (xw_Within : xvs_Within[2]? = some (.str xfi_Within xtk_Within)) (xy_Within : ((l.prog.main.file : Str) == xfi_Within) = true) (xe_Within : K.lookup cc_Within = some ⟨xel_Within, xed_Within, .cell (some (.ref C_Within)), xes_Within⟩)
    (xm_NoLeaf : PySem.W.nsIn K mainGlobals "NoLeaf" = some (some (.ref C_NoLeaf))) (xq_NoLeaf : PySem.W.excInitIn K C_NoLeaf exBases "ValueError.__new__" = true) (xk_NoLeaf : PySem.W.keepIn K (.ref C_NoLeaf) = true) (xs_NoLeaf : PySem.W.subIn K (.ref C_NoLeaf) (.type "BaseException") = some true) (xt_NoLeaf : PySem.W.typeIn K (.ref C_NoLeaf) = some (.type "type")) (xi_NoLeaf : PySem.W.isClsIn K C_NoLeaf = true) (xf_NoLeaf : PySem.W.subIn K (.ref C_NoLeaf) (.ref C_NoLeaf) = some true) (xv_NoLeaf : PySem.W.subIn K (.ref C_NoLeaf) (.type "ValueError") = some true) (xu_NoLeaf : PySem.W.ks_superIn K C_NoLeaf C_NoLeaf "__init__" = some (some (.builtin "ValueError.__init__"))) (xr_NoLeaf : PySem.W.mroIn K C_NoLeaf (.ref C_NoLeaf) = some true) (xg_NoLeaf : PySem.W.findIn K (.ref C_NoLeaf) "__init__" = some (some (.ref fI_NoLeaf))) (xh_NoLeaf : PySem.W.typeIn K (.ref fI_NoLeaf) = some (.type "function")) (xl_NoLeaf : K.lookup fI_NoLeaf = some ⟨xoc_NoLeaf, xod_NoLeaf, .func (PySem.W.ksFn "__init__" "NoLeaf.__init__" (defArgs s_NoLeaf_init) (defBody s_NoLeaf_init) (defScope s_NoLeaf_init) .none xkV_NoLeaf xdc_NoLeaf xpm_NoLeaf xan_NoLeaf (.ref cda_NoLeaf) xct_NoLeaf cc_NoLeaf), xsl_NoLeaf⟩) (xc_NoLeaf : PySem.W.codeIn K (.ref cda_NoLeaf) "NoLeaf.__init__" = true) (xd_NoLeaf : K.lookup cda_NoLeaf = some ⟨xcl_NoLeaf, xcd_NoLeaf, .fields xvs_NoLeaf, xcs_NoLeaf⟩) (xw_NoLeaf : xvs_NoLeaf[2]? = some (.str xfi_NoLeaf xtk_NoLeaf)) (xy_NoLeaf : ((l.prog.main.file : Str) == xfi_NoLeaf) = true) (xe_NoLeaf : K.lookup cc_NoLeaf = some ⟨xel_NoLeaf, xed_NoLeaf, .cell (some (.ref C_NoLeaf)), xes_NoLeaf⟩)
    (xm_NoRoom : PySem.W.nsIn K mainGlobals "NoRoom" = some (some (.ref C_NoRoom))) (xq_NoRoom : PySem.W.excInitIn K C_NoRoom exBases "ValueError.__new__" = true) (xk_NoRoom : PySem.W.keepIn K (.ref C_NoRoom) = true) (xs_NoRoom : PySem.W.subIn K (.ref C_NoRoom) (.type "BaseException") = some true) (xt_NoRoom : PySem.W.typeIn K (.ref C_NoRoom) = some (.type "type")) (xi_NoRoom : PySem.W.isClsIn K C_NoRoom = true) (xf_NoRoom : PySem.W.subIn K (.ref C_NoRoom) (.ref C_NoRoom) = some true) (xv_NoRoom : PySem.W.subIn K (.ref C_NoRoom) (.type "ValueError") = some true) (xu_NoRoom : PySem.W.ks_superIn K C_NoRoom C_NoRoom "__init__" = some (some (.builtin "ValueError.__init__"))) (xr_NoRoom : PySem.W.mroIn K C_NoRoom (.ref C_NoRoom) = some true) (xg_NoRoom : PySem.W.findIn K (.ref C_NoRoom) "__init__" = some (some (.ref fI_NoRoom))) (xh_NoRoom : PySem.W.typeIn K (.ref fI_NoRoom) = some (.type "function")) (xl_NoRoom : K.lookup fI_NoRoom = some ⟨xoc_NoRoom, xod_NoRoom, .func (PySem.W.ksFn "__init__" "NoRoom.__init__" (defArgs s_NoRoom_init) (defBody s_NoRoom_init) (defScope s_NoRoom_init) .none xkV_NoRoom xdc_NoRoom xpm_NoRoom xan_NoRoom (.ref cda_NoRoom) xct_NoRoom cc_NoRoom), xsl_NoRoom⟩) (xc_NoRoom : PySem.W.codeIn K (.ref cda_NoRoom) "NoRoom.__init__" = true) (xd_NoRoom : K.lookup cda_NoRoom = some ⟨xcl_NoRoom, xcd_NoRoom, .fields xvs_NoRoom, xcs_NoRoom⟩) (xw_NoRoom : xvs_NoRoom[2]? = some (.str xfi_NoRoom xtk_NoRoom)) (xy_NoRoom : ((l.prog.main.file : Str) == xfi_NoRoom) = true) (xe_NoRoom : K.lookup cc_NoRoom = some ⟨xel_NoRoom, xed_NoRoom, .cell (some (.ref C_NoRoom)), xes_NoRoom⟩)
    (xm_NoHouse : PySem.W.nsIn K mainGlobals "NoHouse" = some (some (.ref C_NoHouse))) (xq_NoHouse : PySem.W.excInitIn K C_NoHouse exBases "ValueError.__new__" = true) (xk_NoHouse : PySem.W.keepIn K (.ref C_NoHouse) = true) (xs_NoHouse : PySem.W.subIn K (.ref C_NoHouse) (.type "BaseException") = some true) (xt_NoHouse : PySem.W.typeIn K (.ref C_NoHouse) = some (.type "type")) (xi_NoHouse : PySem.W.isClsIn K C_NoHouse = true) (xf_NoHouse : PySem.W.subIn K (.ref C_NoHouse) (.ref C_NoHouse) = some true) (xv_NoHouse : PySem.W.subIn K (.ref C_NoHouse) (.type "ValueError") = some true) (xu_NoHouse : PySem.W.ks_superIn K C_NoHouse C_NoHouse "__init__" = some (some (.builtin "ValueError.__init__"))) (xr_NoHouse : PySem.W.mroIn K C_NoHouse (.ref C_NoHouse) = some true) (xg_NoHouse : PySem.W.findIn K (.ref C_NoHouse) "__init__" = some (some (.ref fI_NoHouse))) (xh_NoHouse : PySem.W.typeIn K (.ref fI_NoHouse) = some (.type "function")) (xl_NoHouse : K.lookup fI_NoHouse = some ⟨xoc_NoHouse, xod_NoHouse, .func (PySem.W.ksFn "__init__" "NoHouse.__init__" (defArgs s_NoHouse_init) (defBody s_NoHouse_init) (defScope s_NoHouse_init) .none xkV_NoHouse xdc_NoHouse xpm_NoHouse xan_NoHouse (.ref cda_NoHouse) xct_NoHouse cc_NoHouse), xsl_NoHouse⟩) (xc_NoHouse : PySem.W.codeIn K (.ref cda_NoHouse) "NoHouse.__init__" = true) (xd_NoHouse : K.lookup cda_NoHouse = some ⟨xcl_NoHouse, xcd_NoHouse, .fields xvs_NoHouse, xcs_NoHouse⟩) (xw_NoHouse : xvs_NoHouse[2]? = some (.str xfi_NoHouse xtk_NoHouse)) (xy_NoHouse : ((l.prog.main.file : Str) == xfi_NoHouse) = true) (xe_NoHouse : K.lookup cc_NoHouse = some ⟨xel_NoHouse, xed_NoHouse, .cell (some (.ref C_NoHouse)), xes_NoHouse⟩)
    (xm_NoSnap : PySem.W.nsIn K mainGlobals "NoSnap" = some (some (.ref C_NoSnap))) (xq_NoSnap : PySem.W.excInitIn K C_NoSnap exBases "ValueError.__new__" = true) (xk_NoSnap : PySem.W.keepIn K (.ref C_NoSnap) = true) (xs_NoSnap : PySem.W.subIn K (.ref C_NoSnap) (.type "BaseException") = some true) (xt_NoSnap : PySem.W.typeIn K (.ref C_NoSnap) = some (.type "type")) (xi_NoSnap : PySem.W.isClsIn K C_NoSnap = true) (xf_NoSnap : PySem.W.subIn K (.ref C_NoSnap) (.ref C_NoSnap) = some true) (xv_NoSnap : PySem.W.subIn K (.ref C_NoSnap) (.type "ValueError") = some true) (xu_NoSnap : PySem.W.ks_superIn K C_NoSnap C_NoSnap "__init__" = some (some (.builtin "ValueError.__init__"))) (xr_NoSnap : PySem.W.mroIn K C_NoSnap (.ref C_NoSnap) = some true) (xg_NoSnap : PySem.W.findIn K (.ref C_NoSnap) "__init__" = some (some (.ref fI_NoSnap))) (xh_NoSnap : PySem.W.typeIn K (.ref fI_NoSnap) = some (.type "function")) (xl_NoSnap : K.lookup fI_NoSnap = some ⟨xoc_NoSnap, xod_NoSnap, .func (PySem.W.ksFn "__init__" "NoSnap.__init__" (defArgs s_NoSnap_init) (defBody s_NoSnap_init) (defScope s_NoSnap_init) .none xkV_NoSnap xdc_NoSnap xpm_NoSnap xan_NoSnap (.ref cda_NoSnap) xct_NoSnap cc_NoSnap), xsl_NoSnap⟩) (xc_NoSnap : PySem.W.codeIn K (.ref cda_NoSnap) "NoSnap.__init__" = true) (xd_NoSnap : K.lookup cda_NoSnap = some ⟨xcl_NoSnap, xcd_NoSnap, .fields xvs_NoSnap, xcs_NoSnap⟩) (xw_NoSnap : xvs_NoSnap[2]? = some (.str xfi_NoSnap xtk_NoSnap)) (xy_NoSnap : ((l.prog.main.file : Str) == xfi_NoSnap) = true) (xe_NoSnap : K.lookup cc_NoSnap = some ⟨xel_NoSnap, xed_NoSnap, .cell (some (.ref C_NoSnap)), xes_NoSnap⟩)
    (xm_NoEntry : PySem.W.nsIn K mainGlobals "NoEntry" = some (some (.ref C_NoEntry))) (xq_NoEntry : PySem.W.excInitIn K C_NoEntry exBases "ValueError.__new__" = true) (xk_NoEntry : PySem.W.keepIn K (.ref C_NoEntry) = true) (xs_NoEntry : PySem.W.subIn K (.ref C_NoEntry) (.type "BaseException") = some true) (xt_NoEntry : PySem.W.typeIn K (.ref C_NoEntry) = some (.type "type")) (xi_NoEntry : PySem.W.isClsIn K C_NoEntry = true) (xf_NoEntry : PySem.W.subIn K (.ref C_NoEntry) (.ref C_NoEntry) = some true) (xv_NoEntry : PySem.W.subIn K (.ref C_NoEntry) (.type "ValueError") = some true) (xu_NoEntry : PySem.W.ks_superIn K C_NoEntry C_NoEntry "__init__" = some (some (.builtin "ValueError.__init__"))) (xr_NoEntry : PySem.W.mroIn K C_NoEntry (.ref C_NoEntry) = some true) (xg_NoEntry : PySem.W.findIn K (.ref C_NoEntry) "__init__" = some (some (.ref fI_NoEntry))) (xh_NoEntry : PySem.W.typeIn K (.ref fI_NoEntry) = some (.type "function")) (xl_NoEntry : K.lookup fI_NoEntry = some ⟨xoc_NoEntry, xod_NoEntry, .func (PySem.W.ksFn "__init__" "NoEntry.__init__" (defArgs s_NoEntry_init) (defBody s_NoEntry_init) (defScope s_NoEntry_init) .none xkV_NoEntry xdc_NoEntry xpm_NoEntry xan_NoEntry (.ref cda_NoEntry) xct_NoEntry cc_NoEntry), xsl_NoEntry⟩) (xc_NoEntry : PySem.W.codeIn K (.ref cda_NoEntry) "NoEntry.__init__" = true) (xd_NoEntry : K.lookup cda_NoEntry = some ⟨xcl_NoEntry, xcd_NoEntry, .fields xvs_NoEntry, xcs_NoEntry⟩) (xw_NoEntry : xvs_NoEntry[2]? = some (.str xfi_NoEntry xtk_NoEntry)) (xy_NoEntry : ((l.prog.main.file : Str) == xfi_NoEntry) = true) (xe_NoEntry : K.lookup cc_NoEntry = some ⟨xel_NoEntry, xed_NoEntry, .cell (some (.ref C_NoEntry)), xes_NoEntry⟩)
    (xm_Full : PySem.W.nsIn K mainGlobals "Full" = some (some (.ref C_Full))) (xq_Full : PySem.W.excInitIn K C_Full exBases "ValueError.__new__" = true) (xk_Full : PySem.W.keepIn K (.ref C_Full) = true) (xs_Full : PySem.W.subIn K (.ref C_Full) (.type "BaseException") = some true) (xt_Full : PySem.W.typeIn K (.ref C_Full) = some (.type "type")) (xi_Full : PySem.W.isClsIn K C_Full = true) (xf_Full : PySem.W.subIn K (.ref C_Full) (.ref C_Full) = some true) (xv_Full : PySem.W.subIn K (.ref C_Full) (.type "ValueError") = some true) (xu_Full : PySem.W.ks_superIn K C_Full C_Full "__init__" = some (some (.builtin "ValueError.__init__"))) (xr_Full : PySem.W.mroIn K C_Full (.ref C_Full) = some true) (xg_Full : PySem.W.findIn K (.ref C_Full) "__init__" = some (some (.ref fI_Full))) (xh_Full : PySem.W.typeIn K (.ref fI_Full) = some (.type "function")) (xl_Full : K.lookup fI_Full = some ⟨xoc_Full, xod_Full, .func (PySem.W.ksFn "__init__" "Full.__init__" (defArgs s_Full_init) (defBody s_Full_init) (defScope s_Full_init) .none xkV_Full xdc_Full xpm_Full xan_Full (.ref cda_Full) xct_Full cc_Full), xsl_Full⟩) (xc_Full : PySem.W.codeIn K (.ref cda_Full) "Full.__init__" = true) (xd_Full : K.lookup cda_Full = some ⟨xcl_Full, xcd_Full, .fields xvs_Full, xcs_Full⟩) (xw_Full : xvs_Full[2]? = some (.str xfi_Full xtk_Full)) (xy_Full : ((l.prog.main.file : Str) == xfi_Full) = true) (xe_Full : K.lookup cc_Full = some ⟨xel_Full, xed_Full, .cell (some (.ref C_Full)), xes_Full⟩)
    (xm_Lost : PySem.W.nsIn K mainGlobals "Lost" = some (some (.ref C_Lost))) (xq_Lost : PySem.W.excInitIn K C_Lost exBases "ValueError.__new__" = true) (xk_Lost : PySem.W.keepIn K (.ref C_Lost) = true) (xs_Lost : PySem.W.subIn K (.ref C_Lost) (.type "BaseException") = some true) (xt_Lost : PySem.W.typeIn K (.ref C_Lost) = some (.type "type")) (xi_Lost : PySem.W.isClsIn K C_Lost = true) (xf_Lost : PySem.W.subIn K (.ref C_Lost) (.ref C_Lost) = some true) (xv_Lost : PySem.W.subIn K (.ref C_Lost) (.type "ValueError") = some true) (xu_Lost : PySem.W.ks_superIn K C_Lost C_Lost "__init__" = some (some (.builtin "ValueError.__init__"))) (xr_Lost : PySem.W.mroIn K C_Lost (.ref C_Lost) = some true) (xg_Lost : PySem.W.findIn K (.ref C_Lost) "__init__" = some (some (.ref fI_Lost))) (xh_Lost : PySem.W.typeIn K (.ref fI_Lost) = some (.type "function")) (xl_Lost : K.lookup fI_Lost = some ⟨xoc_Lost, xod_Lost, .func (PySem.W.ksFn "__init__" "Lost.__init__" (defArgs s_Lost_init) (defBody s_Lost_init) (defScope s_Lost_init) .none xkV_Lost xdc_Lost xpm_Lost xan_Lost (.ref cda_Lost) xct_Lost cc_Lost), xsl_Lost⟩) (xc_Lost : PySem.W.codeIn K (.ref cda_Lost) "Lost.__init__" = true) (xd_Lost : K.lookup cda_Lost = some ⟨xcl_Lost, xcd_Lost, .fields xvs_Lost, xcs_Lost⟩) (xw_Lost : xvs_Lost[2]? = some (.str xfi_Lost xtk_Lost)) (xy_Lost : ((l.prog.main.file : Str) == xfi_Lost) = true) (xe_Lost : K.lookup cc_Lost = some ⟨xel_Lost, xed_Lost, .cell (some (.ref C_Lost)), xes_Lost⟩)
    (xm_NoDisk : PySem.W.nsIn K mainGlobals "NoDisk" = some (some (.ref C_NoDisk))) (xq_NoDisk : PySem.W.excInitIn K C_NoDisk exBases "ValueError.__new__" = true) (xk_NoDisk : PySem.W.keepIn K (.ref C_NoDisk) = true) (xs_NoDisk : PySem.W.subIn K (.ref C_NoDisk) (.type "BaseException") = some true) (xt_NoDisk : PySem.W.typeIn K (.ref C_NoDisk) = some (.type "type")) (xi_NoDisk : PySem.W.isClsIn K C_NoDisk = true) (xf_NoDisk : PySem.W.subIn K (.ref C_NoDisk) (.ref C_NoDisk) = some true) (xv_NoDisk : PySem.W.subIn K (.ref C_NoDisk) (.type "ValueError") = some true) (xu_NoDisk : PySem.W.ks_superIn K C_NoDisk C_NoDisk "__init__" = some (some (.builtin "ValueError.__init__"))) (xr_NoDisk : PySem.W.mroIn K C_NoDisk (.ref C_NoDisk) = some true) (xg_NoDisk : PySem.W.findIn K (.ref C_NoDisk) "__init__" = some (some (.ref fI_NoDisk))) (xh_NoDisk : PySem.W.typeIn K (.ref fI_NoDisk) = some (.type "function")) (xl_NoDisk : K.lookup fI_NoDisk = some ⟨xoc_NoDisk, xod_NoDisk, .func (PySem.W.ksFn "__init__" "NoDisk.__init__" (defArgs s_NoDisk_init) (defBody s_NoDisk_init) (defScope s_NoDisk_init) .none xkV_NoDisk xdc_NoDisk xpm_NoDisk xan_NoDisk (.ref cda_NoDisk) xct_NoDisk cc_NoDisk), xsl_NoDisk⟩) (xc_NoDisk : PySem.W.codeIn K (.ref cda_NoDisk) "NoDisk.__init__" = true) (xd_NoDisk : K.lookup cda_NoDisk = some ⟨xcl_NoDisk, xcd_NoDisk, .fields xvs_NoDisk, xcs_NoDisk⟩) (xw_NoDisk : xvs_NoDisk[2]? = some (.str xfi_NoDisk xtk_NoDisk)) (xy_NoDisk : ((l.prog.main.file : Str) == xfi_NoDisk) = true) (xe_NoDisk : K.lookup cc_NoDisk = some ⟨xel_NoDisk, xed_NoDisk, .cell (some (.ref C_NoDisk)), xes_NoDisk⟩)
    (xm_NoSent : PySem.W.nsIn K mainGlobals "NoSent" = some (some (.ref C_NoSent))) (xq_NoSent : PySem.W.excInitIn K C_NoSent exBases "ValueError.__new__" = true) (xk_NoSent : PySem.W.keepIn K (.ref C_NoSent) = true) (xs_NoSent : PySem.W.subIn K (.ref C_NoSent) (.type "BaseException") = some true) (xt_NoSent : PySem.W.typeIn K (.ref C_NoSent) = some (.type "type")) (xi_NoSent : PySem.W.isClsIn K C_NoSent = true) (xf_NoSent : PySem.W.subIn K (.ref C_NoSent) (.ref C_NoSent) = some true) (xv_NoSent : PySem.W.subIn K (.ref C_NoSent) (.type "ValueError") = some true) (xu_NoSent : PySem.W.ks_superIn K C_NoSent C_NoSent "__init__" = some (some (.builtin "ValueError.__init__"))) (xr_NoSent : PySem.W.mroIn K C_NoSent (.ref C_NoSent) = some true) (xg_NoSent : PySem.W.findIn K (.ref C_NoSent) "__init__" = some (some (.ref fI_NoSent))) (xh_NoSent : PySem.W.typeIn K (.ref fI_NoSent) = some (.type "function")) (xl_NoSent : K.lookup fI_NoSent = some ⟨xoc_NoSent, xod_NoSent, .func (PySem.W.ksFn "__init__" "NoSent.__init__" (defArgs s_NoSent_init) (defBody s_NoSent_init) (defScope s_NoSent_init) .none xkV_NoSent xdc_NoSent xpm_NoSent xan_NoSent (.ref cda_NoSent) xct_NoSent cc_NoSent), xsl_NoSent⟩) (xc_NoSent : PySem.W.codeIn K (.ref cda_NoSent) "NoSent.__init__" = true) (xd_NoSent : K.lookup cda_NoSent = some ⟨xcl_NoSent, xcd_NoSent, .fields xvs_NoSent, xcs_NoSent⟩) (xw_NoSent : xvs_NoSent[2]? = some (.str xfi_NoSent xtk_NoSent)) (xy_NoSent : ((l.prog.main.file : Str) == xfi_NoSent) = true) (xe_NoSent : K.lookup cc_NoSent = some ⟨xel_NoSent, xed_NoSent, .cell (some (.ref C_NoSent)), xes_NoSent⟩)
    (xm_Other : PySem.W.nsIn K mainGlobals "Other" = some (some (.ref C_Other))) (xq_Other : PySem.W.excInitIn K C_Other exBases "ValueError.__new__" = true) (xk_Other : PySem.W.keepIn K (.ref C_Other) = true) (xs_Other : PySem.W.subIn K (.ref C_Other) (.type "BaseException") = some true) (xt_Other : PySem.W.typeIn K (.ref C_Other) = some (.type "type")) (xi_Other : PySem.W.isClsIn K C_Other = true) (xf_Other : PySem.W.subIn K (.ref C_Other) (.ref C_Other) = some true) (xv_Other : PySem.W.subIn K (.ref C_Other) (.type "ValueError") = some true) (xu_Other : PySem.W.ks_superIn K C_Other C_Other "__init__" = some (some (.builtin "ValueError.__init__"))) (xr_Other : PySem.W.mroIn K C_Other (.ref C_Other) = some true) (xg_Other : PySem.W.findIn K (.ref C_Other) "__init__" = some (some (.ref fI_Other))) (xh_Other : PySem.W.typeIn K (.ref fI_Other) = some (.type "function")) (xl_Other : K.lookup fI_Other = some ⟨xoc_Other, xod_Other, .func (PySem.W.ksFn "__init__" "Other.__init__" (defArgs s_Other_init) (defBody s_Other_init) (defScope s_Other_init) .none xkV_Other xdc_Other xpm_Other xan_Other (.ref cda_Other) xct_Other cc_Other), xsl_Other⟩) (xc_Other : PySem.W.codeIn K (.ref cda_Other) "Other.__init__" = true) (xd_Other : K.lookup cda_Other = some ⟨xcl_Other, xcd_Other, .fields xvs_Other, xcs_Other⟩) (xw_Other : xvs_Other[2]? = some (.str xfi_Other xtk_Other)) (xy_Other : ((l.prog.main.file : Str) == xfi_Other) = true) (xe_Other : K.lookup cc_Other = some ⟨xel_Other, xed_Other, .cell (some (.ref C_Other)), xes_Other⟩)
    (xm_NotOpen : PySem.W.nsIn K mainGlobals "NotOpen" = some (some (.ref C_NotOpen))) (xq_NotOpen : PySem.W.excInitIn K C_NotOpen exBases "ValueError.__new__" = true) (xk_NotOpen : PySem.W.keepIn K (.ref C_NotOpen) = true) (xs_NotOpen : PySem.W.subIn K (.ref C_NotOpen) (.type "BaseException") = some true) (xt_NotOpen : PySem.W.typeIn K (.ref C_NotOpen) = some (.type "type")) (xi_NotOpen : PySem.W.isClsIn K C_NotOpen = true) (xf_NotOpen : PySem.W.subIn K (.ref C_NotOpen) (.ref C_NotOpen) = some true) (xv_NotOpen : PySem.W.subIn K (.ref C_NotOpen) (.type "ValueError") = some true) (xu_NotOpen : PySem.W.ks_superIn K C_NotOpen C_NotOpen "__init__" = some (some (.builtin "ValueError.__init__"))) (xr_NotOpen : PySem.W.mroIn K C_NotOpen (.ref C_NotOpen) = some true) (xg_NotOpen : PySem.W.findIn K (.ref C_NotOpen) "__init__" = some (some (.ref fI_NotOpen))) (xh_NotOpen : PySem.W.typeIn K (.ref fI_NotOpen) = some (.type "function")) (xl_NotOpen : K.lookup fI_NotOpen = some ⟨xoc_NotOpen, xod_NotOpen, .func (PySem.W.ksFn "__init__" "NotOpen.__init__" (defArgs s_NotOpen_init) (defBody s_NotOpen_init) (defScope s_NotOpen_init) .none xkV_NotOpen xdc_NotOpen xpm_NotOpen xan_NotOpen (.ref cda_NotOpen) xct_NotOpen cc_NotOpen), xsl_NotOpen⟩) (xc_NotOpen : PySem.W.codeIn K (.ref cda_NotOpen) "NotOpen.__init__" = true) (xd_NotOpen : K.lookup cda_NotOpen = some ⟨xcl_NotOpen, xcd_NotOpen, .fields xvs_NotOpen, xcs_NotOpen⟩) (xw_NotOpen : xvs_NotOpen[2]? = some (.str xfi_NotOpen xtk_NotOpen)) (xy_NotOpen : ((l.prog.main.file : Str) == xfi_NotOpen) = true) (xe_NotOpen : K.lookup cc_NotOpen = some ⟨xel_NotOpen, xed_NotOpen, .cell (some (.ref C_NotOpen)), xes_NotOpen⟩)
    (xm_NoWord : PySem.W.nsIn K mainGlobals "NoWord" = some (some (.ref C_NoWord))) (xq_NoWord : PySem.W.excInitIn K C_NoWord exBases "ValueError.__new__" = true) (xk_NoWord : PySem.W.keepIn K (.ref C_NoWord) = true) (xs_NoWord : PySem.W.subIn K (.ref C_NoWord) (.type "BaseException") = some true) (xt_NoWord : PySem.W.typeIn K (.ref C_NoWord) = some (.type "type")) (xi_NoWord : PySem.W.isClsIn K C_NoWord = true) (xf_NoWord : PySem.W.subIn K (.ref C_NoWord) (.ref C_NoWord) = some true) (xv_NoWord : PySem.W.subIn K (.ref C_NoWord) (.type "ValueError") = some true) (xu_NoWord : PySem.W.ks_superIn K C_NoWord C_NoWord "__init__" = some (some (.builtin "ValueError.__init__"))) (xr_NoWord : PySem.W.mroIn K C_NoWord (.ref C_NoWord) = some true) (xg_NoWord : PySem.W.findIn K (.ref C_NoWord) "__init__" = some (some (.ref fI_NoWord))) (xh_NoWord : PySem.W.typeIn K (.ref fI_NoWord) = some (.type "function")) (xl_NoWord : K.lookup fI_NoWord = some ⟨xoc_NoWord, xod_NoWord, .func (PySem.W.ksFn "__init__" "NoWord.__init__" (defArgs s_NoWord_init) (defBody s_NoWord_init) (defScope s_NoWord_init) .none xkV_NoWord xdc_NoWord xpm_NoWord xan_NoWord (.ref cda_NoWord) xct_NoWord cc_NoWord), xsl_NoWord⟩) (xc_NoWord : PySem.W.codeIn K (.ref cda_NoWord) "NoWord.__init__" = true) (xd_NoWord : K.lookup cda_NoWord = some ⟨xcl_NoWord, xcd_NoWord, .fields xvs_NoWord, xcs_NoWord⟩) (xw_NoWord : xvs_NoWord[2]? = some (.str xfi_NoWord xtk_NoWord)) (xy_NoWord : ((l.prog.main.file : Str) == xfi_NoWord) = true) (xe_NoWord : K.lookup cc_NoWord = some ⟨xel_NoWord, xed_NoWord, .cell (some (.ref C_NoWord)), xes_NoWord⟩)
    (y_op : PySem.W.nsIn K cStatics "thirdparty.any" = some none) (y_super : PySem.W.nsIn K mainGlobals "super" = some none) (y_ps : (l.prog.main.scope.names.lookup ("super" : Str)).isSome = false)
    (z_ValueError : PySem.W.nsIn K mainGlobals "ValueError" = some none)
    (z_abs : PySem.W.nsIn K mainGlobals "abs" = some none)
    (z_all : PySem.W.nsIn K mainGlobals "all" = some none)
    (z_bool : PySem.W.nsIn K mainGlobals "bool" = some none)
    (z_divmod : PySem.W.nsIn K mainGlobals "divmod" = some none)
    (z_enumerate : PySem.W.nsIn K mainGlobals "enumerate" = some none)
    (z_int : PySem.W.nsIn K mainGlobals "int" = some none)
    (z_isinstance : PySem.W.nsIn K mainGlobals "isinstance" = some none)
    (z_len : PySem.W.nsIn K mainGlobals "len" = some none)
    (z_min : PySem.W.nsIn K mainGlobals "min" = some none)
    (z_ord : PySem.W.nsIn K mainGlobals "ord" = some none)
    (z_range : PySem.W.nsIn K mainGlobals "range" = some none)
    (z_reversed : PySem.W.nsIn K mainGlobals "reversed" = some none)
    (z_str : PySem.W.nsIn K mainGlobals "str" = some none)
    (z_LETTERS : PySem.W.nsIn K mainGlobals "LETTERS" = some (some (.str letters t_LETTERS)))
    (z_LONGEST_NAME : PySem.W.nsIn K mainGlobals "LONGEST_NAME" = some (some (.int 8 t_LONGEST_NAME)))
    {aS : Addr} (zS : PySem.W.nsIn K mainGlobals "ShelfError" = some (some (.ref aS)))
    (hkk : ((List.range 20).all fun k => (List.range 20).all fun j => PySem.W.kitOne K (.ref (esOf [C_NoName, C_NoView, C_NoDeed, C_NoThing, C_Taken, C_TooMany, C_TooDeep, C_Within, C_NoLeaf, C_NoRoom, C_NoHouse, C_NoSnap, C_NoEntry, C_Full, C_Lost, C_NoDisk, C_NoSent, C_Other, C_NotOpen, C_NoWord] k)) (.ref (esOf [C_NoName, C_NoView, C_NoDeed, C_NoThing, C_Taken, C_TooMany, C_TooDeep, C_Within, C_NoLeaf, C_NoRoom, C_NoHouse, C_NoSnap, C_NoEntry, C_Full, C_Lost, C_NoDisk, C_NoSent, C_Other, C_NotOpen, C_NoWord] j)) == some (decide (j = k))) = true)
    (hks : ((List.range 20).all fun k => PySem.W.kitOne K (.ref (esOf [C_NoName, C_NoView, C_NoDeed, C_NoThing, C_Taken, C_TooMany, C_TooDeep, C_Within, C_NoLeaf, C_NoRoom, C_NoHouse, C_NoSnap, C_NoEntry, C_Full, C_Lost, C_NoDisk, C_NoSent, C_Other, C_NotOpen, C_NoWord] k)) (.ref aS) == some true) = true)
    (hkv : ((List.range 20).all fun k => PySem.W.kitOne K (.ref (esOf [C_NoName, C_NoView, C_NoDeed, C_NoThing, C_Taken, C_TooMany, C_TooDeep, C_Within, C_NoLeaf, C_NoRoom, C_NoHouse, C_NoSnap, C_NoEntry, C_Full, C_Lost, C_NoDisk, C_NoSent, C_Other, C_NotOpen, C_NoWord] k)) (.type "ValueError") == some true) = true)
    (hcc : ((List.range 20).all fun k => excB K (esOf [C_NoName, C_NoView, C_NoDeed, C_NoThing, C_Taken, C_TooMany, C_TooDeep, C_Within, C_NoLeaf, C_NoRoom, C_NoHouse, C_NoSnap, C_NoEntry, C_Full, C_Lost, C_NoDisk, C_NoSent, C_Other, C_NotOpen, C_NoWord] k)) = true) :
    LamX.LawAtS l w K CX0 5 63 "_law_script" mg fa h := by
  have F_is_number := fnAt_mk (st := s_is_number) (ps := ["one"]) (PySem.W.mg_of X G a_is_number) l_is_number c_is_number k_is_number (fun us hl => match us, hl with | [_], _ => rfl)
  have F_is_name := fnAt_mk (st := s_is_name) (ps := ["one"]) (PySem.W.mg_of X G a_is_name) l_is_name c_is_name k_is_name (fun us hl => match us, hl with | [_], _ => rfl)
  have B_is_name := tabs "is_name" f_is_name cc_is_name pt_is_name _ _ _ _ _ _ r_is_name (PySem.W.mg_of X G a_is_name) l_is_name rfl rfl e_is_name p_is_name
  have F_code_of := fnAt_mk (st := s_code_of) (ps := ["name"]) (PySem.W.mg_of X G a_code_of) l_code_of c_code_of k_code_of (fun us hl => match us, hl with | [_], _ => rfl)
  have F_name_of := fnAt_mk (st := s_name_of) (ps := ["code"]) (PySem.W.mg_of X G a_name_of) l_name_of c_name_of k_name_of (fun us hl => match us, hl with | [_], _ => rfl)
  have F_l_mixed := fnAt_mk (st := s_l_mixed) (ps := ["_law_cell", "_law_k"]) (PySem.W.mg_of X G a_l_mixed) l_l_mixed c_l_mixed k_l_mixed (fun us hl => match us, hl with | [_, _], _ => rfl)
  have F_l_draws := fnAt_mk (st := s_l_draws) (ps := ["_law_script"]) (PySem.W.mg_of X G a_l_draws) l_l_draws c_l_draws k_l_draws (fun us hl => match us, hl with | [_], _ => rfl)
  have F_l_next := fnAt_mk (st := s_l_next) (ps := ["_law_drawn"]) (PySem.W.mg_of X G a_l_next) l_l_next c_l_next k_l_next (fun us hl => match us, hl with | [_], _ => rfl)
  have F_l_code := fnAt_mk (st := s_l_code) (ps := ["_law_name"]) (PySem.W.mg_of X G a_l_code) l_l_code c_l_code k_l_code (fun us hl => match us, hl with | [_], _ => rfl)
  have F_l_word := fnAt_mk (st := s_l_word) (ps := ["_law_number_here"]) (PySem.W.mg_of X G a_l_word) l_l_word c_l_word k_l_word (fun us hl => match us, hl with | [_], _ => rfl)
  have F_l_is_code := fnAt_mk (st := s_l_is_code) (ps := ["_law_number_here"]) (PySem.W.mg_of X G a_l_is_code) l_l_is_code c_l_is_code k_l_is_code (fun us hl => match us, hl with | [_], _ => rfl)
  have F_l_refuses_name := fnAt_mk (st := s_l_refuses_name) (ps := ["_law_one"]) (PySem.W.mg_of X G a_l_refuses_name) l_l_refuses_name c_l_refuses_name k_l_refuses_name (fun us hl => match us, hl with | [_], _ => rfl)
  have F_l_refuses_code := fnAt_mk (st := s_l_refuses_code) (ps := ["_law_one"]) (PySem.W.mg_of X G a_l_refuses_code) l_l_refuses_code c_l_refuses_code k_l_refuses_code (fun us hl => match us, hl with | [_], _ => rfl)
  have F_l_number := fnAt_mk (st := s_l_number) (ps := ["_law_found"]) (PySem.W.mg_of X G a_l_number) l_l_number c_l_number k_l_number (fun us hl => match us, hl with | [_], _ => rfl)
  have F_l_fits_name := fnAt_mk (st := s_l_fits_name) (ps := ["_law_word_here"]) (PySem.W.mg_of X G a_l_fits_name) l_l_fits_name c_l_fits_name k_l_fits_name (fun us hl => match us, hl with | [_], _ => rfl)
  have F_l_fits_code := fnAt_mk (st := s_l_fits_code) (ps := ["_law_number_here"]) (PySem.W.mg_of X G a_l_fits_code) l_l_fits_code c_l_fits_code k_l_fits_code (fun us hl => match us, hl with | [_], _ => rfl)
  have F_l_kinds := fnAt_mk (st := s_l_kinds) (ps := ["_law_one"]) (PySem.W.mg_of X G a_l_kinds) l_l_kinds c_l_kinds k_l_kinds (fun us hl => match us, hl with | [_], _ => rfl)
  have F_l_refusals_right := fnAt_mk (st := s_l_refusals_right) (ps := []) (PySem.W.mg_of X G a_l_refusals_right) l_l_refusals_right c_l_refusals_right k_l_refusals_right (fun us hl => match us, hl with | [], _ => rfl)
  have F_law := fnAt_mk (st := s_law) (ps := ["_law_script"]) (PySem.W.mg_of X G a_law) l_law c_law k_law (fun us hl => match us, hl with | [_], _ => rfl)
  have x_NoName : ExcI l.prog K mg "NoName" C_NoName := by
    obtain ⟨p2, p3, sh⟩ := sh_NoName
    exact ⟨PySem.W.mg_of X G xm_NoName, xq_NoName, xk_NoName, xs_NoName, xt_NoName, xi_NoName, xf_NoName, xv_NoName, xu_NoName, xr_NoName, y_op, PySem.W.mg_none_of X G y_super, y_ps, fI_NoName, xg_NoName, xh_NoName, _, _, s_NoName_init, p2, p3, _, _, _, _, _, _, _, _, _, _, _, _, _, _, _, _, _, _, sh, xl_NoName, xc_NoName, xd_NoName, xw_NoName, xy_NoName, xe_NoName⟩
  have x_NoView : ExcI l.prog K mg "NoView" C_NoView := by
    obtain ⟨p2, p3, sh⟩ := sh_NoView
    exact ⟨PySem.W.mg_of X G xm_NoView, xq_NoView, xk_NoView, xs_NoView, xt_NoView, xi_NoView, xf_NoView, xv_NoView, xu_NoView, xr_NoView, y_op, PySem.W.mg_none_of X G y_super, y_ps, fI_NoView, xg_NoView, xh_NoView, _, _, s_NoView_init, p2, p3, _, _, _, _, _, _, _, _, _, _, _, _, _, _, _, _, _, _, sh, xl_NoView, xc_NoView, xd_NoView, xw_NoView, xy_NoView, xe_NoView⟩
  have x_NoDeed : ExcI l.prog K mg "NoDeed" C_NoDeed := by
    obtain ⟨p2, p3, sh⟩ := sh_NoDeed
    exact ⟨PySem.W.mg_of X G xm_NoDeed, xq_NoDeed, xk_NoDeed, xs_NoDeed, xt_NoDeed, xi_NoDeed, xf_NoDeed, xv_NoDeed, xu_NoDeed, xr_NoDeed, y_op, PySem.W.mg_none_of X G y_super, y_ps, fI_NoDeed, xg_NoDeed, xh_NoDeed, _, _, s_NoDeed_init, p2, p3, _, _, _, _, _, _, _, _, _, _, _, _, _, _, _, _, _, _, sh, xl_NoDeed, xc_NoDeed, xd_NoDeed, xw_NoDeed, xy_NoDeed, xe_NoDeed⟩
  have x_NoThing : ExcI l.prog K mg "NoThing" C_NoThing := by
    obtain ⟨p2, p3, sh⟩ := sh_NoThing
    exact ⟨PySem.W.mg_of X G xm_NoThing, xq_NoThing, xk_NoThing, xs_NoThing, xt_NoThing, xi_NoThing, xf_NoThing, xv_NoThing, xu_NoThing, xr_NoThing, y_op, PySem.W.mg_none_of X G y_super, y_ps, fI_NoThing, xg_NoThing, xh_NoThing, _, _, s_NoThing_init, p2, p3, _, _, _, _, _, _, _, _, _, _, _, _, _, _, _, _, _, _, sh, xl_NoThing, xc_NoThing, xd_NoThing, xw_NoThing, xy_NoThing, xe_NoThing⟩
  have x_Taken : ExcI l.prog K mg "Taken" C_Taken := by
    obtain ⟨p2, p3, sh⟩ := sh_Taken
    exact ⟨PySem.W.mg_of X G xm_Taken, xq_Taken, xk_Taken, xs_Taken, xt_Taken, xi_Taken, xf_Taken, xv_Taken, xu_Taken, xr_Taken, y_op, PySem.W.mg_none_of X G y_super, y_ps, fI_Taken, xg_Taken, xh_Taken, _, _, s_Taken_init, p2, p3, _, _, _, _, _, _, _, _, _, _, _, _, _, _, _, _, _, _, sh, xl_Taken, xc_Taken, xd_Taken, xw_Taken, xy_Taken, xe_Taken⟩
  have x_TooMany : ExcI l.prog K mg "TooMany" C_TooMany := by
    obtain ⟨p2, p3, sh⟩ := sh_TooMany
    exact ⟨PySem.W.mg_of X G xm_TooMany, xq_TooMany, xk_TooMany, xs_TooMany, xt_TooMany, xi_TooMany, xf_TooMany, xv_TooMany, xu_TooMany, xr_TooMany, y_op, PySem.W.mg_none_of X G y_super, y_ps, fI_TooMany, xg_TooMany, xh_TooMany, _, _, s_TooMany_init, p2, p3, _, _, _, _, _, _, _, _, _, _, _, _, _, _, _, _, _, _, sh, xl_TooMany, xc_TooMany, xd_TooMany, xw_TooMany, xy_TooMany, xe_TooMany⟩
  have x_TooDeep : ExcI l.prog K mg "TooDeep" C_TooDeep := by
    obtain ⟨p2, p3, sh⟩ := sh_TooDeep
    exact ⟨PySem.W.mg_of X G xm_TooDeep, xq_TooDeep, xk_TooDeep, xs_TooDeep, xt_TooDeep, xi_TooDeep, xf_TooDeep, xv_TooDeep, xu_TooDeep, xr_TooDeep, y_op, PySem.W.mg_none_of X G y_super, y_ps, fI_TooDeep, xg_TooDeep, xh_TooDeep, _, _, s_TooDeep_init, p2, p3, _, _, _, _, _, _, _, _, _, _, _, _, _, _, _, _, _, _, sh, xl_TooDeep, xc_TooDeep, xd_TooDeep, xw_TooDeep, xy_TooDeep, xe_TooDeep⟩
  have x_Within : ExcI l.prog K mg "Within" C_Within := by
    obtain ⟨p2, p3, sh⟩ := sh_Within
    exact ⟨PySem.W.mg_of X G xm_Within, xq_Within, xk_Within, xs_Within, xt_Within, xi_Within, xf_Within, xv_Within, xu_Within, xr_Within, y_op, PySem.W.mg_none_of X G y_super, y_ps, fI_Within, xg_Within, xh_Within, _, _, s_Within_init, p2, p3, _, _, _, _, _, _, _, _, _, _, _, _, _, _, _, _, _, _, sh, xl_Within, xc_Within, xd_Within, xw_Within, xy_Within, xe_Within⟩
  have x_NoLeaf : ExcI l.prog K mg "NoLeaf" C_NoLeaf := by
    obtain ⟨p2, p3, sh⟩ := sh_NoLeaf
    exact ⟨PySem.W.mg_of X G xm_NoLeaf, xq_NoLeaf, xk_NoLeaf, xs_NoLeaf, xt_NoLeaf, xi_NoLeaf, xf_NoLeaf, xv_NoLeaf, xu_NoLeaf, xr_NoLeaf, y_op, PySem.W.mg_none_of X G y_super, y_ps, fI_NoLeaf, xg_NoLeaf, xh_NoLeaf, _, _, s_NoLeaf_init, p2, p3, _, _, _, _, _, _, _, _, _, _, _, _, _, _, _, _, _, _, sh, xl_NoLeaf, xc_NoLeaf, xd_NoLeaf, xw_NoLeaf, xy_NoLeaf, xe_NoLeaf⟩
  have x_NoRoom : ExcI l.prog K mg "NoRoom" C_NoRoom := by
    obtain ⟨p2, p3, sh⟩ := sh_NoRoom
    exact ⟨PySem.W.mg_of X G xm_NoRoom, xq_NoRoom, xk_NoRoom, xs_NoRoom, xt_NoRoom, xi_NoRoom, xf_NoRoom, xv_NoRoom, xu_NoRoom, xr_NoRoom, y_op, PySem.W.mg_none_of X G y_super, y_ps, fI_NoRoom, xg_NoRoom, xh_NoRoom, _, _, s_NoRoom_init, p2, p3, _, _, _, _, _, _, _, _, _, _, _, _, _, _, _, _, _, _, sh, xl_NoRoom, xc_NoRoom, xd_NoRoom, xw_NoRoom, xy_NoRoom, xe_NoRoom⟩
  have x_NoHouse : ExcI l.prog K mg "NoHouse" C_NoHouse := by
    obtain ⟨p2, p3, sh⟩ := sh_NoHouse
    exact ⟨PySem.W.mg_of X G xm_NoHouse, xq_NoHouse, xk_NoHouse, xs_NoHouse, xt_NoHouse, xi_NoHouse, xf_NoHouse, xv_NoHouse, xu_NoHouse, xr_NoHouse, y_op, PySem.W.mg_none_of X G y_super, y_ps, fI_NoHouse, xg_NoHouse, xh_NoHouse, _, _, s_NoHouse_init, p2, p3, _, _, _, _, _, _, _, _, _, _, _, _, _, _, _, _, _, _, sh, xl_NoHouse, xc_NoHouse, xd_NoHouse, xw_NoHouse, xy_NoHouse, xe_NoHouse⟩
  have x_NoSnap : ExcI l.prog K mg "NoSnap" C_NoSnap := by
    obtain ⟨p2, p3, sh⟩ := sh_NoSnap
    exact ⟨PySem.W.mg_of X G xm_NoSnap, xq_NoSnap, xk_NoSnap, xs_NoSnap, xt_NoSnap, xi_NoSnap, xf_NoSnap, xv_NoSnap, xu_NoSnap, xr_NoSnap, y_op, PySem.W.mg_none_of X G y_super, y_ps, fI_NoSnap, xg_NoSnap, xh_NoSnap, _, _, s_NoSnap_init, p2, p3, _, _, _, _, _, _, _, _, _, _, _, _, _, _, _, _, _, _, sh, xl_NoSnap, xc_NoSnap, xd_NoSnap, xw_NoSnap, xy_NoSnap, xe_NoSnap⟩
  have x_NoEntry : ExcI l.prog K mg "NoEntry" C_NoEntry := by
    obtain ⟨p2, p3, sh⟩ := sh_NoEntry
    exact ⟨PySem.W.mg_of X G xm_NoEntry, xq_NoEntry, xk_NoEntry, xs_NoEntry, xt_NoEntry, xi_NoEntry, xf_NoEntry, xv_NoEntry, xu_NoEntry, xr_NoEntry, y_op, PySem.W.mg_none_of X G y_super, y_ps, fI_NoEntry, xg_NoEntry, xh_NoEntry, _, _, s_NoEntry_init, p2, p3, _, _, _, _, _, _, _, _, _, _, _, _, _, _, _, _, _, _, sh, xl_NoEntry, xc_NoEntry, xd_NoEntry, xw_NoEntry, xy_NoEntry, xe_NoEntry⟩
  have x_Full : ExcI l.prog K mg "Full" C_Full := by
    obtain ⟨p2, p3, sh⟩ := sh_Full
    exact ⟨PySem.W.mg_of X G xm_Full, xq_Full, xk_Full, xs_Full, xt_Full, xi_Full, xf_Full, xv_Full, xu_Full, xr_Full, y_op, PySem.W.mg_none_of X G y_super, y_ps, fI_Full, xg_Full, xh_Full, _, _, s_Full_init, p2, p3, _, _, _, _, _, _, _, _, _, _, _, _, _, _, _, _, _, _, sh, xl_Full, xc_Full, xd_Full, xw_Full, xy_Full, xe_Full⟩
  have x_Lost : ExcI l.prog K mg "Lost" C_Lost := by
    obtain ⟨p2, p3, sh⟩ := sh_Lost
    exact ⟨PySem.W.mg_of X G xm_Lost, xq_Lost, xk_Lost, xs_Lost, xt_Lost, xi_Lost, xf_Lost, xv_Lost, xu_Lost, xr_Lost, y_op, PySem.W.mg_none_of X G y_super, y_ps, fI_Lost, xg_Lost, xh_Lost, _, _, s_Lost_init, p2, p3, _, _, _, _, _, _, _, _, _, _, _, _, _, _, _, _, _, _, sh, xl_Lost, xc_Lost, xd_Lost, xw_Lost, xy_Lost, xe_Lost⟩
  have x_NoDisk : ExcI l.prog K mg "NoDisk" C_NoDisk := by
    obtain ⟨p2, p3, sh⟩ := sh_NoDisk
    exact ⟨PySem.W.mg_of X G xm_NoDisk, xq_NoDisk, xk_NoDisk, xs_NoDisk, xt_NoDisk, xi_NoDisk, xf_NoDisk, xv_NoDisk, xu_NoDisk, xr_NoDisk, y_op, PySem.W.mg_none_of X G y_super, y_ps, fI_NoDisk, xg_NoDisk, xh_NoDisk, _, _, s_NoDisk_init, p2, p3, _, _, _, _, _, _, _, _, _, _, _, _, _, _, _, _, _, _, sh, xl_NoDisk, xc_NoDisk, xd_NoDisk, xw_NoDisk, xy_NoDisk, xe_NoDisk⟩
  have x_NoSent : ExcI l.prog K mg "NoSent" C_NoSent := by
    obtain ⟨p2, p3, sh⟩ := sh_NoSent
    exact ⟨PySem.W.mg_of X G xm_NoSent, xq_NoSent, xk_NoSent, xs_NoSent, xt_NoSent, xi_NoSent, xf_NoSent, xv_NoSent, xu_NoSent, xr_NoSent, y_op, PySem.W.mg_none_of X G y_super, y_ps, fI_NoSent, xg_NoSent, xh_NoSent, _, _, s_NoSent_init, p2, p3, _, _, _, _, _, _, _, _, _, _, _, _, _, _, _, _, _, _, sh, xl_NoSent, xc_NoSent, xd_NoSent, xw_NoSent, xy_NoSent, xe_NoSent⟩
  have x_Other : ExcI l.prog K mg "Other" C_Other := by
    obtain ⟨p2, p3, sh⟩ := sh_Other
    exact ⟨PySem.W.mg_of X G xm_Other, xq_Other, xk_Other, xs_Other, xt_Other, xi_Other, xf_Other, xv_Other, xu_Other, xr_Other, y_op, PySem.W.mg_none_of X G y_super, y_ps, fI_Other, xg_Other, xh_Other, _, _, s_Other_init, p2, p3, _, _, _, _, _, _, _, _, _, _, _, _, _, _, _, _, _, _, sh, xl_Other, xc_Other, xd_Other, xw_Other, xy_Other, xe_Other⟩
  have x_NotOpen : ExcI l.prog K mg "NotOpen" C_NotOpen := by
    obtain ⟨p2, p3, sh⟩ := sh_NotOpen
    exact ⟨PySem.W.mg_of X G xm_NotOpen, xq_NotOpen, xk_NotOpen, xs_NotOpen, xt_NotOpen, xi_NotOpen, xf_NotOpen, xv_NotOpen, xu_NotOpen, xr_NotOpen, y_op, PySem.W.mg_none_of X G y_super, y_ps, fI_NotOpen, xg_NotOpen, xh_NotOpen, _, _, s_NotOpen_init, p2, p3, _, _, _, _, _, _, _, _, _, _, _, _, _, _, _, _, _, _, sh, xl_NotOpen, xc_NotOpen, xd_NotOpen, xw_NotOpen, xy_NotOpen, xe_NotOpen⟩
  have x_NoWord : ExcI l.prog K mg "NoWord" C_NoWord := by
    obtain ⟨p2, p3, sh⟩ := sh_NoWord
    exact ⟨PySem.W.mg_of X G xm_NoWord, xq_NoWord, xk_NoWord, xs_NoWord, xt_NoWord, xi_NoWord, xf_NoWord, xv_NoWord, xu_NoWord, xr_NoWord, y_op, PySem.W.mg_none_of X G y_super, y_ps, fI_NoWord, xg_NoWord, xh_NoWord, _, _, s_NoWord_init, p2, p3, _, _, _, _, _, _, _, _, _, _, _, _, _, _, _, _, _, _, sh, xl_NoWord, xc_NoWord, xd_NoWord, xw_NoWord, xy_NoWord, xe_NoWord⟩
  have T : Txt K mg := ⟨PySem.W.mg_none_of X G z_ValueError, PySem.W.mg_none_of X G z_abs, PySem.W.mg_none_of X G z_all, PySem.W.mg_none_of X G z_bool, PySem.W.mg_none_of X G z_divmod, PySem.W.mg_none_of X G z_enumerate, PySem.W.mg_none_of X G z_int, PySem.W.mg_none_of X G z_isinstance, PySem.W.mg_none_of X G z_len, PySem.W.mg_none_of X G z_min, PySem.W.mg_none_of X G z_ord, PySem.W.mg_none_of X G z_range, PySem.W.mg_none_of X G z_reversed, PySem.W.mg_none_of X G z_str, ⟨_, PySem.W.mg_of X G z_LETTERS, ⟨_, rfl⟩⟩, ⟨_, PySem.W.mg_of X G z_LONGEST_NAME, ⟨_, rfl⟩⟩⟩
  have R : Errs l.prog K mg (esOf [C_NoName, C_NoView, C_NoDeed, C_NoThing, C_Taken, C_TooMany, C_TooDeep, C_Within, C_NoLeaf, C_NoRoom, C_NoHouse, C_NoSnap, C_NoEntry, C_Full, C_Lost, C_NoDisk, C_NoSent, C_Other, C_NotOpen, C_NoWord]) aS := ⟨x_NoName, x_NoView, x_NoDeed, x_NoThing, x_Taken, x_TooMany, x_TooDeep, x_Within, x_NoLeaf, x_NoRoom, x_NoHouse, x_NoSnap, x_NoEntry, x_Full, x_Lost, x_NoDisk, x_NoSent, x_Other, x_NotOpen, x_NoWord, ⟨_, PySem.W.mg_of X G zS, rfl⟩, fun k hk => excB_ok (all20 hcc k hk), fun k j hk hj => eq_of_beq (all20 (all20 hkk k hk) j hj), fun k hk => eq_of_beq (all20 hks k hk), fun k hk => eq_of_beq (all20 hkv k hk)⟩
  refine law_at (cs := [(cc_is_name, pt_is_name)]) (sp := spLaw K [pt_is_name]) (q := q) hfa F_law ?_ (fun kV doc pm an ct s u => .of_eq rfl) (fun H a ns h1 _ h3 h4 => ⟨a, ns, rfl, h4, h1, h3, fun _ => rfl⟩) (fun base _ _ TB => ?_)
  · intro p hp
    simp only [List.mem_cons, List.not_mem_nil, or_false] at hp
    rcases hp with rfl
    exact ⟨B_is_name.1, B_is_name.2, o_is_name⟩
  · generalize htb : [pt_is_name] = tb
    have m1 : pt_is_name ∈ tb := by rw [← htb]; simp
    have c1 := ok_is_number (P := l.prog) (w := w) (base := base) T F_is_number
    have c2 := ok_is_name (P := l.prog) (w := w) (tb := tb) T (TB (cc_is_name, pt_is_name) (by simp)) m1 F_is_name
    have c3 := ok_name_of (P := l.prog) (w := w) (tb := tb) T x_NoName F_name_of c1
    have c4 := ok_code_of (P := l.prog) (w := w) (tb := tb) T x_NoName F_code_of c2
    have d1 := ok_l_mixed (P := l.prog) (w := w) (base := base) F_l_mixed
    have d2 := ok_l_draws (tb := tb) T F_l_draws d1
    have d3 := ok_l_next (P := l.prog) (w := w) (base := base) (tb := tb) F_l_next
    have d4 := ok_l_code (P := l.prog) (w := w) (base := base) T F_l_code
    have d5 := ok_l_word (P := l.prog) (w := w) (base := base) T F_l_word
    have d6 := ok_l_is_code (P := l.prog) (w := w) (base := base) T F_l_is_code
    have d7 := ok_l_refuses_name x_NoName F_l_refuses_name c4
    have d8 := ok_l_refuses_code x_NoName F_l_refuses_code c3
    have d9 := ok_l_number (P := l.prog) (w := w) (base := base) T F_l_number
    have d10 := ok_l_fits_name T F_l_fits_name c4 c3 d9 d4
    have d11 := ok_l_fits_code T F_l_fits_code d6 d8 c3 d4
    have d12 := ok_l_kinds (P := l.prog) (w := w) (base := base) (tb := tb) T R F_l_kinds
    have d13 := ok_l_refusals_right T R F_l_refusals_right d12
    exact ok_law T d2 d3 d5 d10 d13 d11 d7 d8
end K01
open PySem PySem.W PyProof.Rows
set_option maxRecDepth 100000 in
set_option maxHeartbeats 0 in
theorem PySem.Challenge.cw_snapshelf_k01_codes_holds : PySem.Challenge.rw_snapshelf_k01_codes.Holds := by
  w_on; o_law; k_head; (case hw => w_witness2)
  k_fill
  refine HK.walk_tabs (l := PySem.Challenge.rw_snapshelf_k01_codes) (n := 63) (k := 5) (x := "_law_script") (CX := fun _ => L2.CX0) rfl (by decide) rfl ⟨rfl, by decide, by decide⟩ (fun w h Y => PySem.W.kIn_of Y) ?F (fun _ _ _ _ _ h => h)
  case F =>
    intro w mg fa h Y KX G hmg tabs
    refine' K01.all_mk KX G hmg tabs ?a_is_number ?l_is_number ?c_is_number ?k_is_number ?a_is_name ?l_is_name ?c_is_name ?k_is_name ?e_is_name ?p_is_name ?o_is_name ?r_is_name ?a_code_of ?l_code_of ?c_code_of ?k_code_of ?a_name_of ?l_name_of ?c_name_of ?k_name_of ?a_l_mixed ?l_l_mixed ?c_l_mixed ?k_l_mixed ?a_l_draws ?l_l_draws ?c_l_draws ?k_l_draws ?a_l_next ?l_l_next ?c_l_next ?k_l_next ?a_l_code ?l_l_code ?c_l_code ?k_l_code ?a_l_word ?l_l_word ?c_l_word ?k_l_word ?a_l_is_code ?l_l_is_code ?c_l_is_code ?k_l_is_code ?a_l_refuses_name ?l_l_refuses_name ?c_l_refuses_name ?k_l_refuses_name ?a_l_refuses_code ?l_l_refuses_code ?c_l_refuses_code ?k_l_refuses_code ?a_l_number ?l_l_number ?c_l_number ?k_l_number ?a_l_fits_name ?l_l_fits_name ?c_l_fits_name ?k_l_fits_name ?a_l_fits_code ?l_l_fits_code ?c_l_fits_code ?k_l_fits_code ?a_l_kinds ?l_l_kinds ?c_l_kinds ?k_l_kinds ?a_l_refusals_right ?l_l_refusals_right ?c_l_refusals_right ?k_l_refusals_right ?a_law ?l_law ?c_law ?k_law ?xm_NoName ?xq_NoName ?xk_NoName ?xs_NoName ?xt_NoName ?xi_NoName ?xf_NoName ?xv_NoName ?xu_NoName ?xr_NoName ?xg_NoName ?xh_NoName ?xl_NoName ?xc_NoName ?xd_NoName ?xw_NoName ?xy_NoName ?xe_NoName ?xm_NoView ?xq_NoView ?xk_NoView ?xs_NoView ?xt_NoView ?xi_NoView ?xf_NoView ?xv_NoView ?xu_NoView ?xr_NoView ?xg_NoView ?xh_NoView ?xl_NoView ?xc_NoView ?xd_NoView ?xw_NoView ?xy_NoView ?xe_NoView ?xm_NoDeed ?xq_NoDeed ?xk_NoDeed ?xs_NoDeed ?xt_NoDeed ?xi_NoDeed ?xf_NoDeed ?xv_NoDeed ?xu_NoDeed ?xr_NoDeed ?xg_NoDeed ?xh_NoDeed ?xl_NoDeed ?xc_NoDeed ?xd_NoDeed ?xw_NoDeed ?xy_NoDeed ?xe_NoDeed ?xm_NoThing ?xq_NoThing ?xk_NoThing ?xs_NoThing ?xt_NoThing ?xi_NoThing ?xf_NoThing ?xv_NoThing ?xu_NoThing ?xr_NoThing ?xg_NoThing ?xh_NoThing ?xl_NoThing ?xc_NoThing ?xd_NoThing ?xw_NoThing ?xy_NoThing ?xe_NoThing ?xm_Taken ?xq_Taken ?xk_Taken ?xs_Taken ?xt_Taken ?xi_Taken ?xf_Taken ?xv_Taken ?xu_Taken ?xr_Taken ?xg_Taken ?xh_Taken ?xl_Taken ?xc_Taken ?xd_Taken ?xw_Taken ?xy_Taken ?xe_Taken ?xm_TooMany ?xq_TooMany ?xk_TooMany ?xs_TooMany ?xt_TooMany ?xi_TooMany ?xf_TooMany ?xv_TooMany ?xu_TooMany ?xr_TooMany ?xg_TooMany ?xh_TooMany ?xl_TooMany ?xc_TooMany ?xd_TooMany ?xw_TooMany ?xy_TooMany ?xe_TooMany ?xm_TooDeep ?xq_TooDeep ?xk_TooDeep ?xs_TooDeep ?xt_TooDeep ?xi_TooDeep ?xf_TooDeep ?xv_TooDeep ?xu_TooDeep ?xr_TooDeep ?xg_TooDeep ?xh_TooDeep ?xl_TooDeep ?xc_TooDeep ?xd_TooDeep ?xw_TooDeep ?xy_TooDeep ?xe_TooDeep ?xm_Within ?xq_Within ?xk_Within ?xs_Within ?xt_Within ?xi_Within ?xf_Within ?xv_Within ?xu_Within ?xr_Within ?xg_Within ?xh_Within ?xl_Within ?xc_Within ?xd_Within ?xw_Within ?xy_Within ?xe_Within ?xm_NoLeaf ?xq_NoLeaf ?xk_NoLeaf ?xs_NoLeaf ?xt_NoLeaf ?xi_NoLeaf ?xf_NoLeaf ?xv_NoLeaf ?xu_NoLeaf ?xr_NoLeaf ?xg_NoLeaf ?xh_NoLeaf ?xl_NoLeaf ?xc_NoLeaf ?xd_NoLeaf ?xw_NoLeaf ?xy_NoLeaf ?xe_NoLeaf ?xm_NoRoom ?xq_NoRoom ?xk_NoRoom ?xs_NoRoom ?xt_NoRoom ?xi_NoRoom ?xf_NoRoom ?xv_NoRoom ?xu_NoRoom ?xr_NoRoom ?xg_NoRoom ?xh_NoRoom ?xl_NoRoom ?xc_NoRoom ?xd_NoRoom ?xw_NoRoom ?xy_NoRoom ?xe_NoRoom ?xm_NoHouse ?xq_NoHouse ?xk_NoHouse ?xs_NoHouse ?xt_NoHouse ?xi_NoHouse ?xf_NoHouse ?xv_NoHouse ?xu_NoHouse ?xr_NoHouse ?xg_NoHouse ?xh_NoHouse ?xl_NoHouse ?xc_NoHouse ?xd_NoHouse ?xw_NoHouse ?xy_NoHouse ?xe_NoHouse ?xm_NoSnap ?xq_NoSnap ?xk_NoSnap ?xs_NoSnap ?xt_NoSnap ?xi_NoSnap ?xf_NoSnap ?xv_NoSnap ?xu_NoSnap ?xr_NoSnap ?xg_NoSnap ?xh_NoSnap ?xl_NoSnap ?xc_NoSnap ?xd_NoSnap ?xw_NoSnap ?xy_NoSnap ?xe_NoSnap ?xm_NoEntry ?xq_NoEntry ?xk_NoEntry ?xs_NoEntry ?xt_NoEntry ?xi_NoEntry ?xf_NoEntry ?xv_NoEntry ?xu_NoEntry ?xr_NoEntry ?xg_NoEntry ?xh_NoEntry ?xl_NoEntry ?xc_NoEntry ?xd_NoEntry ?xw_NoEntry ?xy_NoEntry ?xe_NoEntry ?xm_Full ?xq_Full ?xk_Full ?xs_Full ?xt_Full ?xi_Full ?xf_Full ?xv_Full ?xu_Full ?xr_Full ?xg_Full ?xh_Full ?xl_Full ?xc_Full ?xd_Full ?xw_Full ?xy_Full ?xe_Full ?xm_Lost ?xq_Lost ?xk_Lost ?xs_Lost ?xt_Lost ?xi_Lost ?xf_Lost ?xv_Lost ?xu_Lost ?xr_Lost ?xg_Lost ?xh_Lost ?xl_Lost ?xc_Lost ?xd_Lost ?xw_Lost ?xy_Lost ?xe_Lost ?xm_NoDisk ?xq_NoDisk ?xk_NoDisk ?xs_NoDisk ?xt_NoDisk ?xi_NoDisk ?xf_NoDisk ?xv_NoDisk ?xu_NoDisk ?xr_NoDisk ?xg_NoDisk ?xh_NoDisk ?xl_NoDisk ?xc_NoDisk ?xd_NoDisk ?xw_NoDisk ?xy_NoDisk ?xe_NoDisk ?xm_NoSent ?xq_NoSent ?xk_NoSent ?xs_NoSent ?xt_NoSent ?xi_NoSent ?xf_NoSent ?xv_NoSent ?xu_NoSent ?xr_NoSent ?xg_NoSent ?xh_NoSent ?xl_NoSent ?xc_NoSent ?xd_NoSent ?xw_NoSent ?xy_NoSent ?xe_NoSent ?xm_Other ?xq_Other ?xk_Other ?xs_Other ?xt_Other ?xi_Other ?xf_Other ?xv_Other ?xu_Other ?xr_Other ?xg_Other ?xh_Other ?xl_Other ?xc_Other ?xd_Other ?xw_Other ?xy_Other ?xe_Other ?xm_NotOpen ?xq_NotOpen ?xk_NotOpen ?xs_NotOpen ?xt_NotOpen ?xi_NotOpen ?xf_NotOpen ?xv_NotOpen ?xu_NotOpen ?xr_NotOpen ?xg_NotOpen ?xh_NotOpen ?xl_NotOpen ?xc_NotOpen ?xd_NotOpen ?xw_NotOpen ?xy_NotOpen ?xe_NotOpen ?xm_NoWord ?xq_NoWord ?xk_NoWord ?xs_NoWord ?xt_NoWord ?xi_NoWord ?xf_NoWord ?xv_NoWord ?xu_NoWord ?xr_NoWord ?xg_NoWord ?xh_NoWord ?xl_NoWord ?xc_NoWord ?xd_NoWord ?xw_NoWord ?xy_NoWord ?xe_NoWord ?y_op ?y_super ?y_ps ?z_ValueError ?z_abs ?z_all ?z_bool ?z_divmod ?z_enumerate ?z_int ?z_isinstance ?z_len ?z_min ?z_ord ?z_range ?z_reversed ?z_str ?z_LETTERS ?z_LONGEST_NAME ?zS ?hkk ?hks ?hkv ?hcc
    (case a_is_number => k_is)
    (case l_is_number => k_is)
    (case c_is_number => k_is)
    (case k_is_number => k_is)
    (case a_is_name => k_is)
    (case l_is_name => k_is)
    (case c_is_name => k_is)
    (case k_is_name => k_is)
    (case e_is_name => k_is)
    (case p_is_name => rfl)
    (case o_is_name => first | k_is | rfl | decide +kernel)
    (case r_is_name => decide +kernel)
    (case a_code_of => k_is)
    (case l_code_of => k_is)
    (case c_code_of => k_is)
    (case k_code_of => k_is)
    (case a_name_of => k_is)
    (case l_name_of => k_is)
    (case c_name_of => k_is)
    (case k_name_of => k_is)
    (case a_l_mixed => k_is)
    (case l_l_mixed => k_is)
    (case c_l_mixed => k_is)
    (case k_l_mixed => k_is)
    (case a_l_draws => k_is)
    (case l_l_draws => k_is)
    (case c_l_draws => k_is)
    (case k_l_draws => k_is)
    (case a_l_next => k_is)
    (case l_l_next => k_is)
    (case c_l_next => k_is)
    (case k_l_next => k_is)
    (case a_l_code => k_is)
    (case l_l_code => k_is)
    (case c_l_code => k_is)
    (case k_l_code => k_is)
    (case a_l_word => k_is)
    (case l_l_word => k_is)
    (case c_l_word => k_is)
    (case k_l_word => k_is)
    (case a_l_is_code => k_is)
    (case l_l_is_code => k_is)
    (case c_l_is_code => k_is)
    (case k_l_is_code => k_is)
    (case a_l_refuses_name => k_is)
    (case l_l_refuses_name => k_is)
    (case c_l_refuses_name => k_is)
    (case k_l_refuses_name => k_is)
    (case a_l_refuses_code => k_is)
    (case l_l_refuses_code => k_is)
    (case c_l_refuses_code => k_is)
    (case k_l_refuses_code => k_is)
    (case a_l_number => k_is)
    (case l_l_number => k_is)
    (case c_l_number => k_is)
    (case k_l_number => k_is)
    (case a_l_fits_name => k_is)
    (case l_l_fits_name => k_is)
    (case c_l_fits_name => k_is)
    (case k_l_fits_name => k_is)
    (case a_l_fits_code => k_is)
    (case l_l_fits_code => k_is)
    (case c_l_fits_code => k_is)
    (case k_l_fits_code => k_is)
    (case a_l_kinds => k_is)
    (case l_l_kinds => k_is)
    (case c_l_kinds => k_is)
    (case k_l_kinds => k_is)
    (case a_l_refusals_right => k_is)
    (case l_l_refusals_right => k_is)
    (case c_l_refusals_right => k_is)
    (case k_l_refusals_right => k_is)
    (case a_law => k_is)
    (case l_law => k_is)
    (case c_law => k_is)
    (case k_law => k_is)
    (case xm_NoName => k_is)
    (case xq_NoName => first | kx_is | kernel_rfl)
    (case xk_NoName => k_is)
    (case xs_NoName => k_is)
    (case xt_NoName => k_is)
    (case xi_NoName => k_is)
    (case xf_NoName => first | rfl | k_is)
    (case xv_NoName => k_is)
    (case xu_NoName => first | ks_is | kernel_rfl)
    (case xr_NoName => first | k_is | rfl)
    (case xg_NoName => k_is)
    (case xh_NoName => k_is)
    (case xl_NoName => first | k_is | rfl)
    (case xc_NoName => k_is)
    (case xd_NoName => first | k_is | rfl)
    (case xw_NoName => rfl)
    (case xy_NoName => first | rfl | decide +kernel)
    (case xe_NoName => first | k_is | rfl)
    (case xm_NoView => k_is)
    (case xq_NoView => first | kx_is | kernel_rfl)
    (case xk_NoView => k_is)
    (case xs_NoView => k_is)
    (case xt_NoView => k_is)
    (case xi_NoView => k_is)
    (case xf_NoView => first | rfl | k_is)
    (case xv_NoView => k_is)
    (case xu_NoView => first | ks_is | kernel_rfl)
    (case xr_NoView => first | k_is | rfl)
    (case xg_NoView => k_is)
    (case xh_NoView => k_is)
    (case xl_NoView => first | k_is | rfl)
    (case xc_NoView => k_is)
    (case xd_NoView => first | k_is | rfl)
    (case xw_NoView => rfl)
    (case xy_NoView => first | rfl | decide +kernel)
    (case xe_NoView => first | k_is | rfl)
    (case xm_NoDeed => k_is)
    (case xq_NoDeed => first | kx_is | kernel_rfl)
    (case xk_NoDeed => k_is)
    (case xs_NoDeed => k_is)
    (case xt_NoDeed => k_is)
    (case xi_NoDeed => k_is)
    (case xf_NoDeed => first | rfl | k_is)
    (case xv_NoDeed => k_is)
    (case xu_NoDeed => first | ks_is | kernel_rfl)
    (case xr_NoDeed => first | k_is | rfl)
    (case xg_NoDeed => k_is)
    (case xh_NoDeed => k_is)
    (case xl_NoDeed => first | k_is | rfl)
    (case xc_NoDeed => k_is)
    (case xd_NoDeed => first | k_is | rfl)
    (case xw_NoDeed => rfl)
    (case xy_NoDeed => first | rfl | decide +kernel)
    (case xe_NoDeed => first | k_is | rfl)
    (case xm_NoThing => k_is)
    (case xq_NoThing => first | kx_is | kernel_rfl)
    (case xk_NoThing => k_is)
    (case xs_NoThing => k_is)
    (case xt_NoThing => k_is)
    (case xi_NoThing => k_is)
    (case xf_NoThing => first | rfl | k_is)
    (case xv_NoThing => k_is)
    (case xu_NoThing => first | ks_is | kernel_rfl)
    (case xr_NoThing => first | k_is | rfl)
    (case xg_NoThing => k_is)
    (case xh_NoThing => k_is)
    (case xl_NoThing => first | k_is | rfl)
    (case xc_NoThing => k_is)
    (case xd_NoThing => first | k_is | rfl)
    (case xw_NoThing => rfl)
    (case xy_NoThing => first | rfl | decide +kernel)
    (case xe_NoThing => first | k_is | rfl)
    (case xm_Taken => k_is)
    (case xq_Taken => first | kx_is | kernel_rfl)
    (case xk_Taken => k_is)
    (case xs_Taken => k_is)
    (case xt_Taken => k_is)
    (case xi_Taken => k_is)
    (case xf_Taken => first | rfl | k_is)
    (case xv_Taken => k_is)
    (case xu_Taken => first | ks_is | kernel_rfl)
    (case xr_Taken => first | k_is | rfl)
    (case xg_Taken => k_is)
    (case xh_Taken => k_is)
    (case xl_Taken => first | k_is | rfl)
    (case xc_Taken => k_is)
    (case xd_Taken => first | k_is | rfl)
    (case xw_Taken => rfl)
    (case xy_Taken => first | rfl | decide +kernel)
    (case xe_Taken => first | k_is | rfl)
    (case xm_TooMany => k_is)
    (case xq_TooMany => first | kx_is | kernel_rfl)
    (case xk_TooMany => k_is)
    (case xs_TooMany => k_is)
    (case xt_TooMany => k_is)
    (case xi_TooMany => k_is)
    (case xf_TooMany => first | rfl | k_is)
    (case xv_TooMany => k_is)
    (case xu_TooMany => first | ks_is | kernel_rfl)
    (case xr_TooMany => first | k_is | rfl)
    (case xg_TooMany => k_is)
    (case xh_TooMany => k_is)
    (case xl_TooMany => first | k_is | rfl)
    (case xc_TooMany => k_is)
    (case xd_TooMany => first | k_is | rfl)
    (case xw_TooMany => rfl)
    (case xy_TooMany => first | rfl | decide +kernel)
    (case xe_TooMany => first | k_is | rfl)
    (case xm_TooDeep => k_is)
    (case xq_TooDeep => first | kx_is | kernel_rfl)
    (case xk_TooDeep => k_is)
    (case xs_TooDeep => k_is)
    (case xt_TooDeep => k_is)
    (case xi_TooDeep => k_is)
    (case xf_TooDeep => first | rfl | k_is)
    (case xv_TooDeep => k_is)
    (case xu_TooDeep => first | ks_is | kernel_rfl)
    (case xr_TooDeep => first | k_is | rfl)
    (case xg_TooDeep => k_is)
    (case xh_TooDeep => k_is)
    (case xl_TooDeep => first | k_is | rfl)
    (case xc_TooDeep => k_is)
    (case xd_TooDeep => first | k_is | rfl)
    (case xw_TooDeep => rfl)
    (case xy_TooDeep => first | rfl | decide +kernel)
    (case xe_TooDeep => first | k_is | rfl)
    (case xm_Within => k_is)
    (case xq_Within => first | kx_is | kernel_rfl)
    (case xk_Within => k_is)
    (case xs_Within => k_is)
    (case xt_Within => k_is)
    (case xi_Within => k_is)
    (case xf_Within => first | rfl | k_is)
    (case xv_Within => k_is)
    (case xu_Within => first | ks_is | kernel_rfl)
    (case xr_Within => first | k_is | rfl)
    (case xg_Within => k_is)
    (case xh_Within => k_is)
    (case xl_Within => first | k_is | rfl)
    (case xc_Within => k_is)
    (case xd_Within => first | k_is | rfl)
    (case xw_Within => rfl)
    (case xy_Within => first | rfl | decide +kernel)
    (case xe_Within => first | k_is | rfl)
    (case xm_NoLeaf => k_is)
    (case xq_NoLeaf => first | kx_is | kernel_rfl)
    (case xk_NoLeaf => k_is)
    (case xs_NoLeaf => k_is)
    (case xt_NoLeaf => k_is)
    (case xi_NoLeaf => k_is)
    (case xf_NoLeaf => first | rfl | k_is)
    (case xv_NoLeaf => k_is)
    (case xu_NoLeaf => first | ks_is | kernel_rfl)
    (case xr_NoLeaf => first | k_is | rfl)
    (case xg_NoLeaf => k_is)
    (case xh_NoLeaf => k_is)
    (case xl_NoLeaf => first | k_is | rfl)
    (case xc_NoLeaf => k_is)
    (case xd_NoLeaf => first | k_is | rfl)
    (case xw_NoLeaf => rfl)
    (case xy_NoLeaf => first | rfl | decide +kernel)
    (case xe_NoLeaf => first | k_is | rfl)
    (case xm_NoRoom => k_is)
    (case xq_NoRoom => first | kx_is | kernel_rfl)
    (case xk_NoRoom => k_is)
    (case xs_NoRoom => k_is)
    (case xt_NoRoom => k_is)
    (case xi_NoRoom => k_is)
    (case xf_NoRoom => first | rfl | k_is)
    (case xv_NoRoom => k_is)
    (case xu_NoRoom => first | ks_is | kernel_rfl)
    (case xr_NoRoom => first | k_is | rfl)
    (case xg_NoRoom => k_is)
    (case xh_NoRoom => k_is)
    (case xl_NoRoom => first | k_is | rfl)
    (case xc_NoRoom => k_is)
    (case xd_NoRoom => first | k_is | rfl)
    (case xw_NoRoom => rfl)
    (case xy_NoRoom => first | rfl | decide +kernel)
    (case xe_NoRoom => first | k_is | rfl)
    (case xm_NoHouse => k_is)
    (case xq_NoHouse => first | kx_is | kernel_rfl)
    (case xk_NoHouse => k_is)
    (case xs_NoHouse => k_is)
    (case xt_NoHouse => k_is)
    (case xi_NoHouse => k_is)
    (case xf_NoHouse => first | rfl | k_is)
    (case xv_NoHouse => k_is)
    (case xu_NoHouse => first | ks_is | kernel_rfl)
    (case xr_NoHouse => first | k_is | rfl)
    (case xg_NoHouse => k_is)
    (case xh_NoHouse => k_is)
    (case xl_NoHouse => first | k_is | rfl)
    (case xc_NoHouse => k_is)
    (case xd_NoHouse => first | k_is | rfl)
    (case xw_NoHouse => rfl)
    (case xy_NoHouse => first | rfl | decide +kernel)
    (case xe_NoHouse => first | k_is | rfl)
    (case xm_NoSnap => k_is)
    (case xq_NoSnap => first | kx_is | kernel_rfl)
    (case xk_NoSnap => k_is)
    (case xs_NoSnap => k_is)
    (case xt_NoSnap => k_is)
    (case xi_NoSnap => k_is)
    (case xf_NoSnap => first | rfl | k_is)
    (case xv_NoSnap => k_is)
    (case xu_NoSnap => first | ks_is | kernel_rfl)
    (case xr_NoSnap => first | k_is | rfl)
    (case xg_NoSnap => k_is)
    (case xh_NoSnap => k_is)
    (case xl_NoSnap => first | k_is | rfl)
    (case xc_NoSnap => k_is)
    (case xd_NoSnap => first | k_is | rfl)
    (case xw_NoSnap => rfl)
    (case xy_NoSnap => first | rfl | decide +kernel)
    (case xe_NoSnap => first | k_is | rfl)
    (case xm_NoEntry => k_is)
    (case xq_NoEntry => first | kx_is | kernel_rfl)
    (case xk_NoEntry => k_is)
    (case xs_NoEntry => k_is)
    (case xt_NoEntry => k_is)
    (case xi_NoEntry => k_is)
    (case xf_NoEntry => first | rfl | k_is)
    (case xv_NoEntry => k_is)
    (case xu_NoEntry => first | ks_is | kernel_rfl)
    (case xr_NoEntry => first | k_is | rfl)
    (case xg_NoEntry => k_is)
    (case xh_NoEntry => k_is)
    (case xl_NoEntry => first | k_is | rfl)
    (case xc_NoEntry => k_is)
    (case xd_NoEntry => first | k_is | rfl)
    (case xw_NoEntry => rfl)
    (case xy_NoEntry => first | rfl | decide +kernel)
    (case xe_NoEntry => first | k_is | rfl)
    (case xm_Full => k_is)
    (case xq_Full => first | kx_is | kernel_rfl)
    (case xk_Full => k_is)
    (case xs_Full => k_is)
    (case xt_Full => k_is)
    (case xi_Full => k_is)
    (case xf_Full => first | rfl | k_is)
    (case xv_Full => k_is)
    (case xu_Full => first | ks_is | kernel_rfl)
    (case xr_Full => first | k_is | rfl)
    (case xg_Full => k_is)
    (case xh_Full => k_is)
    (case xl_Full => first | k_is | rfl)
    (case xc_Full => k_is)
    (case xd_Full => first | k_is | rfl)
    (case xw_Full => rfl)
    (case xy_Full => first | rfl | decide +kernel)
    (case xe_Full => first | k_is | rfl)
    (case xm_Lost => k_is)
    (case xq_Lost => first | kx_is | kernel_rfl)
    (case xk_Lost => k_is)
    (case xs_Lost => k_is)
    (case xt_Lost => k_is)
    (case xi_Lost => k_is)
    (case xf_Lost => first | rfl | k_is)
    (case xv_Lost => k_is)
    (case xu_Lost => first | ks_is | kernel_rfl)
    (case xr_Lost => first | k_is | rfl)
    (case xg_Lost => k_is)
    (case xh_Lost => k_is)
    (case xl_Lost => first | k_is | rfl)
    (case xc_Lost => k_is)
    (case xd_Lost => first | k_is | rfl)
    (case xw_Lost => rfl)
    (case xy_Lost => first | rfl | decide +kernel)
    (case xe_Lost => first | k_is | rfl)
    (case xm_NoDisk => k_is)
    (case xq_NoDisk => first | kx_is | kernel_rfl)
    (case xk_NoDisk => k_is)
    (case xs_NoDisk => k_is)
    (case xt_NoDisk => k_is)
    (case xi_NoDisk => k_is)
    (case xf_NoDisk => first | rfl | k_is)
    (case xv_NoDisk => k_is)
    (case xu_NoDisk => first | ks_is | kernel_rfl)
    (case xr_NoDisk => first | k_is | rfl)
    (case xg_NoDisk => k_is)
    (case xh_NoDisk => k_is)
    (case xl_NoDisk => first | k_is | rfl)
    (case xc_NoDisk => k_is)
    (case xd_NoDisk => first | k_is | rfl)
    (case xw_NoDisk => rfl)
    (case xy_NoDisk => first | rfl | decide +kernel)
    (case xe_NoDisk => first | k_is | rfl)
    (case xm_NoSent => k_is)
    (case xq_NoSent => first | kx_is | kernel_rfl)
    (case xk_NoSent => k_is)
    (case xs_NoSent => k_is)
    (case xt_NoSent => k_is)
    (case xi_NoSent => k_is)
    (case xf_NoSent => first | rfl | k_is)
    (case xv_NoSent => k_is)
    (case xu_NoSent => first | ks_is | kernel_rfl)
    (case xr_NoSent => first | k_is | rfl)
    (case xg_NoSent => k_is)
    (case xh_NoSent => k_is)
    (case xl_NoSent => first | k_is | rfl)
    (case xc_NoSent => k_is)
    (case xd_NoSent => first | k_is | rfl)
    (case xw_NoSent => rfl)
    (case xy_NoSent => first | rfl | decide +kernel)
    (case xe_NoSent => first | k_is | rfl)
    (case xm_Other => k_is)
    (case xq_Other => first | kx_is | kernel_rfl)
    (case xk_Other => k_is)
    (case xs_Other => k_is)
    (case xt_Other => k_is)
    (case xi_Other => k_is)
    (case xf_Other => first | rfl | k_is)
    (case xv_Other => k_is)
    (case xu_Other => first | ks_is | kernel_rfl)
    (case xr_Other => first | k_is | rfl)
    (case xg_Other => k_is)
    (case xh_Other => k_is)
    (case xl_Other => first | k_is | rfl)
    (case xc_Other => k_is)
    (case xd_Other => first | k_is | rfl)
    (case xw_Other => rfl)
    (case xy_Other => first | rfl | decide +kernel)
    (case xe_Other => first | k_is | rfl)
    (case xm_NotOpen => k_is)
    (case xq_NotOpen => first | kx_is | kernel_rfl)
    (case xk_NotOpen => k_is)
    (case xs_NotOpen => k_is)
    (case xt_NotOpen => k_is)
    (case xi_NotOpen => k_is)
    (case xf_NotOpen => first | rfl | k_is)
    (case xv_NotOpen => k_is)
    (case xu_NotOpen => first | ks_is | kernel_rfl)
    (case xr_NotOpen => first | k_is | rfl)
    (case xg_NotOpen => k_is)
    (case xh_NotOpen => k_is)
    (case xl_NotOpen => first | k_is | rfl)
    (case xc_NotOpen => k_is)
    (case xd_NotOpen => first | k_is | rfl)
    (case xw_NotOpen => rfl)
    (case xy_NotOpen => first | rfl | decide +kernel)
    (case xe_NotOpen => first | k_is | rfl)
    (case xm_NoWord => k_is)
    (case xq_NoWord => first | kx_is | kernel_rfl)
    (case xk_NoWord => k_is)
    (case xs_NoWord => k_is)
    (case xt_NoWord => k_is)
    (case xi_NoWord => k_is)
    (case xf_NoWord => first | rfl | k_is)
    (case xv_NoWord => k_is)
    (case xu_NoWord => first | ks_is | kernel_rfl)
    (case xr_NoWord => first | k_is | rfl)
    (case xg_NoWord => k_is)
    (case xh_NoWord => k_is)
    (case xl_NoWord => first | k_is | rfl)
    (case xc_NoWord => k_is)
    (case xd_NoWord => first | k_is | rfl)
    (case xw_NoWord => rfl)
    (case xy_NoWord => first | rfl | decide +kernel)
    (case xe_NoWord => first | k_is | rfl)
    (case y_op => k_is)
    (case y_super => k_is)
    (case y_ps => first | rfl | decide +kernel)
    (case z_ValueError => k_is)
    (case z_abs => k_is)
    (case z_all => k_is)
    (case z_bool => k_is)
    (case z_divmod => k_is)
    (case z_enumerate => k_is)
    (case z_int => k_is)
    (case z_isinstance => k_is)
    (case z_len => k_is)
    (case z_min => k_is)
    (case z_ord => k_is)
    (case z_range => k_is)
    (case z_reversed => k_is)
    (case z_str => k_is)
    (case z_LETTERS => k_is)
    (case z_LONGEST_NAME => k_is)
    (case zS => k_is)
    (case hkk => kernel_rfl)
    (case hks => kernel_rfl)
    (case hkv => kernel_rfl)
    (case hcc => kernel_rfl)

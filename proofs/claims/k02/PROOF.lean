import PyProof.Rows.All
import Wide.All
import OpenK.AllK
import Wide.FinOn
import HandS.GenList
import HandS.AnyAll
import HandS.EndOwn
import HandS.ForMost
import HandS.ForExc
import HandS.IsInst
import HandS.TupAny
import HandS.Wide
import HandS.Style
import HandS.Small
import HandS.Flow
import HandS.Replace
import HandS.Codes
import KE.KExcSuper
import KE.KExcLine
import PySem.Challenge.RW_snapshelf_k02_paths
set_option Elab.async false
set_option linter.all false
set_option maxRecDepth 100000
set_option maxHeartbeats 2000000
namespace GX
open PySem PySem.Spec PyProof.Rows L2 GenW

/-- the frame of a generator expression that is woken by a builtin of this def -/
def gcx (X : Cx) (cenv : Env) (N : List Str) (s4 : Shared) (H4 : Hp) (fp : List Addr) (pn : List (Addr × Obj)) : Cx :=
  { prog := X.prog, w := X.w, K := X.K, mg := X.mg, base := X.base, A := X.A.in1.in1.deeper cenv, N := N, s_0 := s4, H_0 := H4, env := cenv, outer := X.stack, stack := cenv :: X.stack, ex := fp, fn := fun _ => false, calm := true, pn := pn, xe := fun _ _ => False }

theorem clo_nil {cells : List (Str × Addr)} : ∀ {names : List (Str × NameKind)}, (∀ y ∈ names, y.2 ≠ .free) → cloFrom cells names [] = []
  | [], _ => rfl
  | (n, k) :: r, h => by
    unfold cloFrom
    have hk : ¬ (k == NameKind.free) = true := by
      have := h (n, k) List.mem_cons_self
      simpa using this
    rw [if_neg hk]
    exact clo_nil fun y hy => h y (List.mem_cons_of_mem _ hy)

/-- the scope of a generator expression that captures nothing -/
structure GScp (scope : Scope) : Prop where
  kind : scope.kind = .function
  co : scope.isCoroutine = false
  cell : ∀ y ∈ scope.names, y.2 ≠ .cell
  free : ∀ y ∈ scope.names, y.2 ≠ .free
  dot : scope.names.lookup (".0" : Str) = some NameKind.local

def Slp (s s' : Shared) : Prop := s'.os = s.os ∧ AllBare s'.gens ∧ ∀ b o, s.heap.get? b = some o → s'.heap.get? b = some o
def tau0 (N : List Str) : L2.St := N.map fun _ => none

/-- what is known where the generator stands at turn i -/
def At (Xg : Cx) (fp : List Addr) (tn : Nat → Heap → Prop) (i : Nat) (H : Hp) (s : Shared) : Prop :=
  Inv Xg [] (tau0 Xg.N) H s ∧ tn i s.heap ∧ ∀ b ∈ fp, H b = none
theorem At.slp {Xg : Cx} {fp : List Addr} {tn : Nat → Heap → Prop} {i : Nat} {H : Hp} {s s' : Shared} (hk : ∀ i h h', tn i h → (∀ b ∈ fp, ∀ o, h.get? b = some o → h'.get? b = some o) → tn i h') (h : At Xg fp tn i H s) (z : Slp s s') : At Xg fp tn i H s' := by
  obtain ⟨I, st, fr⟩ := h
  exact ⟨I.call' (ch := []) z.1 (Un.kept z.2.2) (I.hok.kept z.2.2) z.2.1 (fun b hb => by simp at hb), hk _ _ _ st fun b _ o e => z.2.2 b o e, fr⟩
theorem inv_forget {X : Cx} {pins : List (Addr × Obj)} {σ : L2.St} {H : Hp} {s : Shared} (I : Inv X pins σ H s) : Inv X pins (tau0 X.N) H s :=
  I.weak (by rw [I.len]; simp [tau0]) fun i v e => by
    unfold tau0 at e
    rw [List.getElem?_map] at e
    cases q : X.N[i]? with
    | none => rw [q] at e; cases e
    | some y => rw [q] at e; cases e

def RX (Xg : Cx) (fp : List Addr) (Endp : Hp → Prop) : GenEnd := fun n s₀ r s => ((r = .ok (.ret .none) ∨ r = .ok .next) ∧ ∃ H, Inv Xg [] (tau0 Xg.N) H s ∧ Endp H) ∨ ∃ e, r = .error e ∧ False
def YX (Xg : Cx) (fp : List Addr) (tn : Nat → Heap → Prop) (len : Nat) (W : Nat → Hp → Prop) (Yp : Nat → V → Hp → Prop) : Protocol := fun n s₀ v s kap =>
  ∃ i y H, n + 1 + i = len ∧ RelV y v ∧ At Xg fp tn (i + 1) H s ∧ Yp i y H ∧ (W (i + 1) H → ∀ s', Slp s s' → kap (.send .none) s')

section
variable {X : Cx} {scope : Scope} {cenv : Env} {N : List Str} {s4 : Shared} {H4 : Hp} {fp : List Addr} {pn : List (Addr × Obj)} {tg elt iter : Expr} {pos : Pos} {it : Addr} {tn : Nat → Heap → Prop} {J : It} {len : Nat} {W : Nat → Hp → Prop} {Yp : Nat → V → Hp → Prop} {Endp : Hp → Prop} {g : TG} {te : TE}

theorem seg_gx (hco : cenv.scope.isCoroutine = false) (T : Turn X.prog X.w X.K tg J fp it tn) (hfp : ∀ H, (∀ b ∈ fp, H b = none) → ∀ b ∈ fp, FpOk (gcx X cenv N s4 H4 fp pn) [] H b)
    (hg : PG (gcx X cenv N s4 H4 fp pn) tg g) (he : PE (gcx X cenv N s4 H4 fp pn) elt te)
    (hW : ∀ i H, W i H → i ≤ len ∧ ((J.stop i H ∧ Endp H) ∨ (i < len ∧ J.go i H ∧ ∀ x H', J.yld i H x H' → g x (tau0 N) H' fun τ2 H2 => te τ2 H2 fun y H3 => Yp i y H3))) :
    ∀ (k i : Nat) (s₀ s : Shared) (H : Hp), len - i = k → At (gcx X cenv N s4 H4 fp pn) fp tn i H s → W i H →
      Seg (model X.prog X.w) X.A.in1.in1 (RX (gcx X cenv N s4 H4 fp pn) fp Endp) (YX (gcx X cenv N s4 H4 fp pn) fp tn len W Yp) (len - i) s₀
        (.compLoop (.GeneratorExp elt [⟨tg, iter, [], 0⟩] scope pos) 0 (.ref it) .none cenv)
        ((model X.prog X.w).den (.compLoop (.GeneratorExp elt [⟨tg, iter, [], 0⟩] scope pos) 0 (.ref it) .none cenv)) [] s := by
  have hov : X.A.in1.in1.over (.compLoop (.GeneratorExp elt [⟨tg, iter, [], 0⟩] scope pos) 0 (.ref it) .none cenv) [] = (gcx X cenv N s4 H4 fp pn).A := rfl
  intro k
  induction k with
  | zero =>
    intro i s₀ s H hk hA w
    obtain ⟨hil, hc⟩ := hW i H w
    obtain ⟨stop, hE⟩ : J.stop i H ∧ Endp H := by
      rcases hc with hc | ⟨hlt, _⟩
      · exact hc
      · omega
    obtain ⟨I, st, fr⟩ := hA
    show Seg _ X.A.in1.in1 _ _ _ s₀ _ ((compTurn (.GeneratorExp elt [⟨tg, iter, [], 0⟩] scope pos) 0 (.ref it) .none cenv).onRaise (leaving cenv)) [] s
    rw [compTurn_gen, Sem.onRaise_eq_wrap]
    refine seg_bind_wrap (wpAny_standAt ?_)
    refine seg_bind_wrap ?_
    rw [hov]
    refine thn (T.done (gcx X cenv N s4 H4 fp pn) rfl rfl rfl rfl i [] s (tau0 N) H _ I (hfp H fr) st stop) fun r s1 ⟨hr, I1⟩ => ?_
    subst hr
    exact seg_end (.ok .next) (.inl ⟨.inr rfl, H, I1, hE⟩)
  | succ k ih =>
    intro i s₀ s H hk hA w
    obtain ⟨hil, hc⟩ := hW i H w
    obtain ⟨I, st, fr⟩ := hA
    show Seg _ X.A.in1.in1 _ _ _ s₀ _ ((compTurn (.GeneratorExp elt [⟨tg, iter, [], 0⟩] scope pos) 0 (.ref it) .none cenv).onRaise (leaving cenv)) [] s
    rw [compTurn_gen, Sem.onRaise_eq_wrap]
    refine seg_bind_wrap (wpAny_standAt ?_)
    refine seg_bind_wrap ?_
    rw [hov]
    rcases hc with ⟨stop, hE⟩ | ⟨hlt, go, step⟩
    · refine thn (T.done (gcx X cenv N s4 H4 fp pn) rfl rfl rfl rfl i [] s (tau0 N) H _ I (hfp H fr) st stop) fun r s1 ⟨hr, I1⟩ => ?_
      subst hr
      exact seg_end (.ok .next) (.inl ⟨.inr rfl, H, I1, hE⟩)
    · refine thn (T.item (gcx X cenv N s4 H4 fp pn) rfl rfl rfl rfl i [] s (tau0 N) H _ I (hfp H fr) st go) fun r s1 ⟨u, hr, h1⟩ => ?_
      subst hr
      refine seg_bind_wrap ?_
      rw [hov]
      refine thn h1 fun _ s2 ⟨x, H', I2, r2, y2, st2, fr2⟩ => ?_
      have I2' := I2.pinned (hfp H' fr2) (T.obj _ _ st2)
      refine seg_bind_wrap ?_
      rw [hov]
      refine wpAny_mono (hg.run _ s2 _ H' x u _ I2' r2 (step x H' y2)) (fun _ s3 ⟨τ3, H3, I3, q3⟩ => ?_) fun _ _ e => (show False from e).elim
      refine seg_bind_wrap (wpAny_of_eq (a := true) (by first | rfl | exact List.forIn_nil ..) ?_)
      simp only [if_true]
      have hy : ∀ v, yieldOut cenv v = yieldValue v := fun v => by simp only [yieldOut, hco, Bool.false_eq_true, if_false]
      simp only [hy]
      rw [Sem.bind_eq_wrap', Sem.bind_eq_wrap', Sem.wrap_wrap, Sem.wrap_wrap]
      refine seg_wrap ?_
      rw [hov]
      refine wpAny_mono (he.run _ s3 τ3 H3 _ I3 q3) (fun v s5 h5 => ?_) fun _ _ e => (show False from e).elim
      obtain ⟨y, H5, I5, r5, q5⟩ := h5
      have A5 : At (gcx X cenv N s4 H4 fp pn) fp tn (i + 1) H5 s5 := by
        refine ⟨inv_forget (I5.unpinned (pins := [])), T.keep _ _ _ st2 fun b hb o e => (I5.pin (b, o) (List.mem_append_right _ (List.mem_append_right _ (mem_pinsAt hb e)))).1, fun b hb => ?_⟩
        obtain ⟨o, e, d⟩ := T.obj _ _ st2 b hb
        exact (I5.pin (b, o) (List.mem_append_right _ (List.mem_append_right _ (mem_pinsAt hb e)))).2.1
      have hl : len - i = (len - (i + 1)) + 1 := by omega
      rw [hl]
      refine seg_at (seg_yield rfl rfl rfl ⟨i, y, H5, by omega, r5, A5, q5, fun w1 s'' hz => ?_⟩)
      exact seg_again rfl (ih (i + 1) s'' s'' H5 (by omega) (A5.slp T.keep hz) w1)

theorem seg_gs (hco : cenv.scope.isCoroutine = false) (T : Turn X.prog X.w X.K tg J fp it tn) (hfp : ∀ H, (∀ b ∈ fp, H b = none) → ∀ b ∈ fp, FpOk (gcx X cenv N s4 H4 fp pn) [] H b)
    (hg : PG (gcx X cenv N s4 H4 fp pn) tg g) (he : PE (gcx X cenv N s4 H4 fp pn) elt te)
    (hW : ∀ i H, W i H → i ≤ len ∧ ((J.stop i H ∧ Endp H) ∨ (i < len ∧ J.go i H ∧ ∀ x H', J.yld i H x H' → g x (tau0 N) H' fun τ2 H2 => te τ2 H2 fun y H3 => Yp i y H3)))
    (s₀ s : Shared) (H : Hp) (hA : At (gcx X cenv N s4 H4 fp pn) fp tn 0 H s) (w : W 0 H) :
      Seg (model X.prog X.w) X.A.in1.in1 (RX (gcx X cenv N s4 H4 fp pn) fp Endp) (YX (gcx X cenv N s4 H4 fp pn) fp tn len W Yp) len s₀
        (.compStart (.GeneratorExp elt [⟨tg, iter, [], 0⟩] scope pos) 0 (.ref it) .none cenv)
        ((model X.prog X.w).den (.compStart (.GeneratorExp elt [⟨tg, iter, [], 0⟩] scope pos) 0 (.ref it) .none cenv)) [] s := by
  have loop := seg_gx (iter := iter) (scope := scope) (pos := pos) hco T hfp hg he hW len 0 s₀ s H (Nat.sub_zero _) hA w
  rw [Nat.sub_zero] at loop
  show Seg _ X.A.in1.in1 _ _ _ s₀ _ ((compStart (.GeneratorExp elt [⟨tg, iter, [], 0⟩] scope pos) 0 (.ref it) .none cenv).onRaise (leaving cenv)) [] s
  unfold compStart
  rw [Sem.onRaise_eq_wrap]
  show Seg _ X.A.in1.in1 _ _ _ s₀ _ ((ask >>= _).wrap _ _ _ _) [] s
  refine seg_bind_wrap (wpAny_askSetting ?_)
  split
  · exact seg_again rfl loop
  · first
      | exact seg_bind_wrap (wpAny_rule (seg_bind_wrap (wpAny_standAt (seg_bind_wrap (T.self _ 0 s _ _ hA.2.1 (seg_again rfl loop))))))
      | (refine seg_bind_wrap (wpAny_rule ?_); show Seg _ X.A.in1.in1 _ _ _ s₀ _ ((standAt iter.pos >>= _).wrap _ _ _ _) [] s; exact seg_bind_wrap (wpAny_standAt (seg_bind_wrap (T.self _ 0 s _ _ hA.2.1 (seg_again rfl loop)))))
end

/-- the generator at a stands ready, with so many turns at most -/
def Goer (X Xg : Cx) (fp : List Addr) (tn : Nat → Heap → Prop) (len : Nat) (W : Nat → Hp → Prop) (Yp : Nat → V → Hp → Prop) (Endp : Hp → Prop) (a : Addr) (gn : Nat) (m : Nat) (s : Shared) : Prop :=
  s.heap.IsGen a gn ∧ s.heap.NoLimit ∧ ∃ gs, s.gens[gn]? = some gs ∧ gs.Goes (model X.prog X.w) X.A.in1.in1 (RX Xg fp Endp) (YX Xg fp tn len W Yp) m (.send .none) (s.setGen gn .running)

section
variable {X Xg : Cx} {fp : List Addr} {tn : Nat → Heap → Prop} {len : Nat} {W : Nat → Hp → Prop} {Yp : Nat → V → Hp → Prop} {Endp : Hp → Prop} {a : Addr} {gn : Nat}
/-- one turn of what walks it -/
theorem next_gx {m : Nat} {s : Shared} {Q : Option Value → Shared → Prop} {E : Value → Shared → Prop} (hh : X.A.handled = none) (hd : X.A.depth < recursionLimit) (hpin : ∀ H s, Inv Xg [] (tau0 Xg.N) H s → s.heap.IsGen a gn ∧ s.heap.NoLimit)
    (G : Goer X Xg fp tn len W Yp Endp a gn m s)
    (hstop : ∀ H s1, Inv Xg [] (tau0 Xg.N) H s1 → Endp H → Q none s1)
    (hyld : ∀ i y H v s1, RelV y v → Inv Xg [] (tau0 Xg.N) H s1 → Yp i y H → (W (i + 1) H → ∃ m', m = m' + 1 ∧ Goer X Xg fp tn len W Yp Endp a gn m' s1) → Q (some v) s1) :
    wpAny (model X.prog X.w) X.A.in1 (pyNext (.ref a)) Q E s := by
  obtain ⟨hg, hl, gs, hgs, hgo⟩ := G
  have hgl : gn < s.gens.size := (Array.getElem?_eq_some_iff.mp hgs).1
  have fromSet : ∀ {H : Hp} {s1 : Shared} {x : GenState}, x.bare = true → Inv Xg [] (tau0 Xg.N) H s1 → Inv Xg [] (tau0 Xg.N) H (s1.setGen gn x) := fun {H s1 x} hx I =>
    I.call' (s' := s1.setGen gn x) (ch := []) rfl (Un.kept fun _ _ e => e) I.hok (allBare_setGen I.bare hx) (fun b hb => by simp at hb)
  refine wpAny_gsz (n := gn + 1) hgl ?_
  refine next_genG (F := fun n s₀ s₁ => ∃ H, Inv Xg [] (tau0 Xg.N) H s₁ ∧ Endp H) (Er := fun _ _ => False) (A := X.A.in1) (g := gn) hh hl hd hg hgs ?_ (fun v s₁ gs' hbare hv => ?_) (fun s₁ hp h' hk => ?_) (fun e s₁ he => he.elim)
    (Y := YX Xg fp tn len W Yp) (n := m)
  · exact hgo
  · obtain ⟨i, y, H, h1, h2, h3, h4, h5⟩ := hv
    intro hsz
    have hsz1 : gn < s₁.gens.size := by
      have q : (s₁.setGen gn gs').gens.size = s₁.gens.size := setGen_size _ _ _
      have hsz' : gn + 1 ≤ (s₁.setGen gn gs').gens.size := hsz
      omega
    refine hyld i y H v _ h2 (fromSet hbare h3.1) h4 fun w => ?_
    have h6 := h5 w ((s₁.setGen gn gs').setGen gn .running) ⟨rfl, allBare_setGen (s := s₁.setGen gn gs') (allBare_setGen h3.1.bare hbare) rfl, fun _ _ e => e⟩
    cases m with
    | zero => exact h6.elim
    | succ m' =>
      refine ⟨m', rfl, (hpin _ _ h3.1).1, (hpin _ _ h3.1).2, gs', setGen_at hsz1, ?_⟩
      exact h6
  · obtain ⟨H, I1, hE⟩ := hp
    intro hsz
    have I2 := fromSet (x := .finished) rfl I1
    exact hstop H _ (I2.call' (s' := { s₁.setGen gn .finished with heap := h' }) (ch := []) rfl (Un.kept hk) (I2.hok.kept hk) I2.bare (fun b hb => by simp at hb)) hE

theorem all_gx {R : Result → Shared → Prop} (hh : X.A.handled = none) (hd : X.A.depth < recursionLimit) (hpin : ∀ H s, Inv Xg [] (tau0 Xg.N) H s → s.heap.IsGen a gn ∧ s.heap.NoLimit)
    (hT : ∀ H s1, Inv Xg [] (tau0 Xg.N) H s1 → Endp H → R (.ok (.ret (.bool true))) s1)
    (hY : ∀ i y H, Yp i y H → ∃ b, y = .bl b ∧ (b = true → W (i + 1) H) ∧ (b = false → ∀ s1, Inv Xg [] (tau0 Xg.N) H s1 → R (.ok (.ret (.bool false))) s1)) :
    ∀ (m : Nat) (s : Shared), Goer X Xg fp tn len W Yp Endp a gn m s → codeAny (model X.prog X.w) X.A (.builtin "all.loop" ⟨[.ref a], []⟩) R s := by
  intro m
  induction m with
  | zero =>
    intro s G
    refine codeAny_builtin F.entry_all_loop ?_
    rw [Around.under_plainId F.plain_all_loop _]
    show wpAny _ X.A.in1 (pyNext (.ref a) >>= _) _ _ s
    refine wpAny_bind (next_gx hh hd hpin G (fun H s1 I1 hE => ?_) fun i y H v s1 rv I1 hy hw => ?_)
    · exact wpAny_bind (wpAny_rule (wpAny_pure (hT H s1 I1 hE)))
    · obtain ⟨b, rfl, h1, h2⟩ := hY i y H hy
      cases rv
      refine wpAny_bind (wpAny_holding (wpAny_truthy_bool ?_))
      refine wpAny_bind (wpAny_letGo ?_)
      cases b with
      | true =>
        obtain ⟨m', e, _⟩ := hw (h1 rfl)
        cases e
      | false =>
        simp only [Bool.false_eq_true, if_false]
        exact wpAny_bind (wpAny_rule (wpAny_pure (h2 rfl s1 I1)))
  | succ m ih =>
    intro s G
    refine codeAny_builtin F.entry_all_loop ?_
    rw [Around.under_plainId F.plain_all_loop _]
    show wpAny _ X.A.in1 (pyNext (.ref a) >>= _) _ _ s
    refine wpAny_bind (next_gx hh hd hpin G (fun H s1 I1 hE => ?_) fun i y H v s1 rv I1 hy hw => ?_)
    · exact wpAny_bind (wpAny_rule (wpAny_pure (hT H s1 I1 hE)))
    · obtain ⟨b, rfl, h1, h2⟩ := hY i y H hy
      cases rv
      refine wpAny_bind (wpAny_holding (wpAny_truthy_bool ?_))
      refine wpAny_bind (wpAny_letGo ?_)
      cases b with
      | true =>
        obtain ⟨m', e, G'⟩ := hw (h1 rfl)
        obtain rfl : m = m' := by omega
        simp only [if_true]
        exact wpAny_pure ⟨plainId_quiet F.plain_all_loop _, ih _ G'⟩
      | false =>
        simp only [Bool.false_eq_true, if_false]
        exact wpAny_bind (wpAny_rule (wpAny_pure (h2 rfl s1 I1)))
end

/-! ### the making -/
section
variable {X : Cx} {scope : Scope} {N : List Str} {tg elt iter : Expr} {gpos : Pos} {wi : TI} {g : TG} {te : TE} {c P : Addr} {k : Nat}
/-- any context that a generator expression with this scope may have, woken from X -/
def IsG (X : Cx) (scope : Scope) (N : List Str) (Xg : Cx) : Prop := ∃ cl C code s4 H4 fp pn, Xg = gcx X (genEnv scope cl C code builtinsNs X.env) N s4 H4 fp pn
theorem room_g (hr : Room (k + 1) X.A) (env : Env) : Room k (X.A.in1.in1.deeper env) :=
  ⟨hr.hd, by have := hr.dp; show X.A.depth + 1 + 3 * k + 5 < _; omega, by have := hr.un; show X.A.units + 1 + 1 + 3 + 16 * k + 200 < _; omega⟩
theorem IsG.room {Xg : Cx} (h : IsG X scope N Xg) (hr : Room (k + 1) X.A) : Room k Xg.A := by
  obtain ⟨cl, C, code, s4, H4, fp, pn, rfl⟩ := h
  exact room_g hr _

/-- a generator that is made and ready -/
structure Ready (X : Cx) (scope : Scope) (N : List Str) (tg elt iter : Expr) (gpos : Pos) (pins : List (Addr × Obj)) (σ : L2.St) (J : It) (H2 : Hp) (a : Addr) (gn : Nat) (it : Addr) (fp : List Addr) (tn : Nat → Heap → Prop) (Xg : Cx) (cenv : Env) (s5 : Shared) : Prop where
  isg : IsG X scope N Xg
  isx : ∃ s4 pn, Xg = gcx X cenv N s4 H2 fp pn
  co : cenv.scope.isCoroutine = false
  turn : Turn X.prog X.w X.K tg J fp it tn
  fpok : ∀ H, (∀ b ∈ fp, H b = none) → ∀ b ∈ fp, FpOk Xg [] H b
  at0 : At Xg fp tn 0 H2 s5
  gen : s5.gens[gn]? = some (.fresh (.compStart (.GeneratorExp elt [⟨tg, iter, [], 0⟩] scope gpos) 0 (.ref it) .none cenv))
  pin : ∀ H s, Inv Xg [] (tau0 Xg.N) H s → s.heap.IsGen a gn ∧ s.heap.NoLimit
  back : ∀ H' s', Inv Xg [] (tau0 Xg.N) H' s' → Inv X pins σ H' s'

theorem gen_made {pins : List (Addr × Obj)} {σ : L2.St} {H : Hp} {s : Shared} {Q' : Value → Shared → Prop} {R : It → Hp → Prop} (hr : Room k X.A) (TB : LamX.TabB X.base X.mg c P) (hcode : X.env.code = .ref c) (S : GScp scope) (hi : PI X tg iter wi)
    (hs : ∀ v, genFold iter X.env v = pure v) (I : Inv X pins σ H s) (h : wi σ H fun J H1 => GxR.TabG H1 P ∧ ∀ H2, GxR.Tabbed P H1 H2 → R J H2)
    (hQ : ∀ J H2 a s5 gn it fp tn Xg cenv, R J H2 → Ready X scope N tg elt iter gpos pins σ J H2 a gn it fp tn Xg cenv s5 → Q' (.ref a) s5) :
    wpAny (model X.prog X.w) X.A (eval (.GeneratorExp elt [⟨tg, iter, [], 0⟩] scope gpos) X.env) Q' X.xe s := by
  refine wpAny_GeneratorExp_make S.co (closure_ok (fun y hy e => absurd e (S.free y hy))) S.cell S.dot S.kind (by have := hr.dp; omega) ?_ hs
  refine thn (hi.run pins s σ H _ I h) fun xv s1 h1 => thn h1 fun itv s2 h2 => ?_
  obtain ⟨it, fp, tn, J, H1, rfl, I2, T, st2, f2, ⟨ps, hP, ht⟩, q1⟩ := h2
  refine ⟨I2.nolimit, ?_⟩
  have hPs : s2.heap.get? P = some { cls := .none, data := .fields ps } := I2.hok P _ hP
  have hPlt : P < s2.heap.objs.size := Heap.lt_size hPs
  have cd : PySem.W.CodeHd s2.heap c P := TB.code.keeps fun b u e => I2.bk b u e
  have cont : ∀ (code : Value) (h3 : Heap) (tk : Nat) (ps' : Array Value), Heap.ExtBut P s2.heap h3 → s2.heap.objs.size ≤ h3.objs.size → h3.get? P = some { cls := .none, data := .fields ps' } → (∃ more, ps' = ps ++ more) → TriplesOk ps'.toList →
      wpAny (model X.prog X.w) X.A (builtinsFor X.env.globals X.env.builtins) (fun bi s₄ =>
        ∀ h', h'.Ns s₄.heap.objs.size (fun y => if y = ".0" then some (.ref it) else none) → Heap.SameBut s₄.heap.objs.size (s₄.heap.push { cls := .type "frame", data := .dict #[] }) h' →
          Q' (.ref h'.objs.size) { s₄ with
            gens := s₄.gens.push (.fresh (.compStart (.GeneratorExp elt [⟨tg, iter, [], 0⟩] scope gpos) 0 (.ref it) .none (genEnv scope (cloFrom X.env.cells scope.names []) s₄.heap.objs.size code bi X.env))),
            toks := s₄.toks + 1 + 1 + 1,
            heap := h'.push { cls := .type "generator", data := .fields #[.int s₄.gens.size 0, .str "<genexpr>" (s₄.toks + 1), .str (X.env.qual ++ "<genexpr>") (s₄.toks + 1 + 1)] } }) X.xe { s2 with heap := h3, toks := tk } := by
    intro code h3 tk ps' hx hsz hP3 hmore ht3
    obtain ⟨bm, ob, e1, e2, e3, e4, e5, e6, e7, e8⟩ := TB.bm
    refine wpAny_builtinsFor (m := X.mg) (by rw [I2.ok.glob]; exact (I2.mod.glob.keeps I2.bk).extBut hx TB.gP) e1 e2 (hx _ _ e4 (I2.bk _ _ e5)) e6 e7 e8 ?_
    rw [clo_nil S.free]
    obtain ⟨more, em⟩ := hmore
    subst em
    have J4 : Inv X pins σ (upd H1 P (.tbl (ps ++ more))) { s2 with heap := h3, toks := tk } := GxR.inv_tab (g' := s2.gens) (d' := s2.drawn) I2 hP (fun b o hb e => hx b o hb e) hP3 I2.bare
    have fpP : ∀ b ∈ fp, b ≠ P := fun b hb z => by
      have := (f2 b hb).1
      rw [z, hP] at this
      cases this
    have st3 : tn 0 h3 := T.keep _ _ _ st2 fun b hb o e => hx b o (fpP b hb) e
    have f4 : ∀ b ∈ fp, upd H1 P (.tbl (ps ++ more)) b = none := fun b hb => by rw [upd_ne (fpP b hb)]; exact (f2 b hb).1
    have fplt : ∀ b ∈ fp, b < h3.objs.size := fun b hb => by
      obtain ⟨o, e, _⟩ := T.obj _ _ st3 b hb
      exact Heap.lt_size e
    have fpst : ∀ b ∈ fp, b ∉ frs X.stack := fun b hb hm => by
      rcases List.mem_cons.mp (J4.stkSub b hm) with z | z
      · exact (f2 b hb).2.1 z
      · exact (f2 b hb).2.2.1 z
    intro h' hn' hs'
    show Q' (.ref h'.objs.size) _
    have hsz' : h'.objs.size = h3.objs.size + 1 := by rw [hs'.1]; exact Heap.size_push ..
    generalize hgo : ({ cls := .type "generator", data := .fields #[.int s2.gens.size 0, .str "<genexpr>" (tk + 1), .str (X.env.qual ++ "<genexpr>") (tk + 1 + 1)] } : Obj) = go
    have keep1 : ∀ b o, h3.get? b = some o → h'.get? b = some o := fun b o e => hs'.extBut b o (Nat.ne_of_lt (Heap.lt_size e)) (Heap.get?_push_of_some _ e)
    have keep5 : ∀ b o, h3.get? b = some o → (h'.push go).get? b = some o := fun b o e => Heap.get?_push_of_some _ (keep1 b o e)
    have hgoat : (h'.push go).get? h'.objs.size = some go := by
      subst hgo
      exact Heap.get?_push_size _ rfl
    have ngo : ∀ v, go.data ≠ .cell v := fun v z => by
      subst hgo
      cases z
    have nC : ∀ b, b < h3.objs.size → b ≠ h3.objs.size := fun b hb => Nat.ne_of_lt hb
    refine hQ J _ h'.objs.size _ s2.gens.size it fp tn (gcx X (genEnv scope [] h3.objs.size code builtinsNs X.env) N { s2 with heap := h3, toks := tk } (upd H1 P (.tbl (ps ++ more))) fp [(h'.objs.size, go)]) (genEnv scope [] h3.objs.size code builtinsNs X.env)
      (q1 _ ⟨⟨ps ++ more, upd_same, ht3⟩, fun b hb => upd_ne hb⟩) ⟨⟨_, _, _, _, _, _, _, rfl⟩, ⟨_, _, rfl⟩, S.co, T, ?_, ?_, ?_, ?_, ?_⟩
    · intro H5 hn b hb
      refine ⟨hn b hb, nC b (fplt b hb), fpst b hb, .inl hb, fun y cc e => ?_, fun p hp => ?_⟩
      · cases (show ([] : List (Str × Addr)).lookup y = some cc from e)
      · rw [List.append_nil] at hp
        rw [List.mem_singleton.mp hp]
        show h'.objs.size ≠ b
        exact Nat.ne_of_gt (Nat.lt_of_lt_of_le (fplt b hb) (show h3.objs.size ≤ h'.objs.size by omega))
    · refine ⟨⟨⟨J4.ok.mod, S.kind, J4.ok.glob, rfl, Nat.le_refl _, fun y z cc e => ?_, fun y hy => ?_, fun y cc e => ?_, fun _ => hr.hd, ?_, .inr ⟨rfl, rfl⟩, fun b hb => ⟨nC b (fplt b hb), fun y cc e => ?_⟩, J4.bs, Nat.le_trans J4.ok.bsz J4.sz, fun b o e hb => ?_, fpst, J4.stack, J4.stkFree⟩,
        rfl, AllBare.push J4.bare rfl, Un.kept keep5, ⟨_, hn'.push go, fun i y v e1 e2 e3 => ?_⟩, fun y cc e => ?_, ?_, fun y cc e => ?_, fun p hp => ?_, J4.hok.kept keep5, ?_⟩, ?_, f4⟩
      · cases (show ([] : List (Str × Addr)).lookup y = some cc from e)
      · rcases hy with hy | hy
        · exact absurd rfl (S.cell _ (PySem.mem_of_lookup (show scope.names.lookup y = some .cell from hy)))
        · exact absurd rfl (S.free _ (PySem.mem_of_lookup (show scope.names.lookup y = some .free from hy)))
      · cases e
      · exact Around.frames_deeper J4.ok.frames
      · cases (show ([] : List (Str × Addr)).lookup y = some cc from e)
      · have h1 := (J4.ok.bs b o e).1
        rcases (f2 b hb).2.2.2.1 with z | z
        · exact J4.ok.noex b o e z
        · exact absurd (Nat.lt_of_lt_of_le (Heap.lt_size h1) z) (Nat.lt_irrefl _)
      · have e2' : (tau0 N)[i]? = some (some v) := e2
        unfold tau0 at e2'
        rw [List.getElem?_map] at e2'
        cases q : N[i]? with
        | none => rw [q] at e2'; cases e2'
        | some y => rw [q] at e2'; cases e2'
      · cases (show ([] : List (Str × Addr)).lookup y = some cc from e)
      · exact J4.hok.fresh (Nat.le_refl _)
      · cases (show ([] : List (Str × Addr)).lookup y = some cc from e)
      · rw [List.append_nil] at hp
        rw [List.mem_singleton.mp hp]
        have hge : h3.objs.size ≤ h'.objs.size := by omega
        refine ⟨hgoat, J4.hok.fresh hge, Nat.ne_of_gt (show h3.objs.size < h'.objs.size by omega), fun hm => ?_, ngo⟩
        rcases List.mem_cons.mp (J4.stkSub _ hm) with z | z
        · exact absurd (Nat.lt_of_lt_of_le J4.lt (by rw [← z]; exact hge)) (Nat.lt_irrefl _)
        · exact J4.nofs hge z
      · show (tau0 N).length = N.length
        unfold tau0
        rw [List.length_map]
      · exact T.keep _ _ _ st3 fun b _ o e => keep5 b o e
    · show (s2.gens.push _)[s2.gens.size]? = _
      exact Array.getElem?_push_size ..
    · intro H5 s6 I6
      refine ⟨?_, I6.nolimit⟩
      have e6 := (I6.pin (h'.objs.size, go) (List.mem_append_left _ (List.mem_singleton.mpr rfl))).1
      refine ⟨go, .str "<genexpr>" (tk + 1), .str (X.env.qual ++ "<genexpr>") (tk + 1 + 1), e6, ?_, ?_, ?_⟩ <;> (subst hgo; rfl)
    · intro H5 s6 I6
      exact J4.call' (ch := fp) I6.os I6.base I6.hok I6.bare fun b hb => ⟨(f2 b hb).2.2.2.1, (f2 b hb).2.1, (f2 b hb).2.2.2.2.1, (f2 b hb).2.2.2.2.2⟩
  cases hf : codeAmong gpos ps.toList with
  | none =>
    refine wpAny_genexprCodeX hcode (cd.code hPs ht) (cd.tab hPs) hf fun c' h' tk hx hge hlt hco' _ htab' _ => ?_
    obtain ⟨o1, vs, f1, tf, fl, tg, inF, tx, tt, op, _, _, _, _, _, _, _, _, _, htr, _⟩ := hco'
    exact cont _ h' tk _ hx (Nat.le_trans hge (Nat.le_of_lt hlt)) htab'.2 ⟨_, rfl⟩ htr
  | some cv =>
    refine wpAny_genexprCode_hit hcode (cd.code hPs ht) hf ?_
    exact cont cv s2.heap s2.toks ps (Heap.ExtBut.refl _ _) (Nat.le_refl _) hPs ⟨#[], by simp⟩ ht

/-! ### all(elt for x in it) -/
def tAllG (P : Addr) (N : List Str) (wi : TI) (g : TG) (te : TE) : TE := fun σ H Q => wi σ H fun J H1 => GxR.TabG H1 P ∧ ∀ H2, GxR.Tabbed P H1 H2 →
  ∃ (len : Nat) (W : Nat → Hp → Prop), W 0 H2 ∧ ∀ i H, W i H → i ≤ len ∧ ((J.stop i H ∧ Q (.bl true) H) ∨ (i < len ∧ J.go i H ∧ ∀ x H', J.yld i H x H' → g x (tau0 N) H' fun τ2 H2 => te τ2 H2 fun y H3 => ∃ b, y = .bl b ∧ if b = true then W (i + 1) H3 else Q (.bl false) H3))
theorem pe_allG {p pos : Pos} (hr : Room k X.A) (hg : Gl X "all") (hm : X.mg "all" = none) (TB : LamX.TabB X.base X.mg c P) (hcode : X.env.code = .ref c) (S : GScp scope) (hi : PI X tg iter wi)
    (hel : ∀ Xg, IsG X scope N Xg → PG Xg tg g ∧ PE Xg elt te) (hs : ∀ v, genFold iter X.env v = pure v := by intro _; rfl)
    (he : starEach [.GeneratorExp elt [⟨tg, iter, [], 0⟩] scope gpos] X.env = (false, eval (.GeneratorExp elt [⟨tg, iter, [], 0⟩] scope gpos) X.env) :: starEach [] X.env := by rfl) :
    PE X (.Call (.Name "all" p) [.GeneratorExp elt [⟨tg, iter, [], 0⟩] scope gpos] [] pos) (tAllG P N wi g te) := by
  refine ⟨fun pins s σ H Q I h => ?_⟩
  refine wpAny_Call_Name_kw (ld_blt I hg hm (show bootBuiltins "all" = some (.builtin "all") by decide +kernel) ?_)
  refine PyProof.Rows.callWith_builtin1 ?_ he (by rfl)
  rw [he]
  show wpAny _ _ (spliced ((false, eval (.GeneratorExp elt [⟨tg, iter, [], 0⟩] scope gpos) X.env) :: backTo pos (starEach [] X.env))) _ _ s
  refine Calls.spliced_cons (gen_made (N := N) hr TB hcode S hi hs I h fun J H2 a s5 gn it fp tn Xg cenv hR RD => ?_)
  obtain ⟨len, W, w0, hW⟩ := hR
  refine Calls.spliced_nil ?_
  obtain ⟨hPG, hPE⟩ := hel Xg RD.isg
  obtain ⟨s4, pn, rfl⟩ := RD.isx
  have seg := fun (s₀ s : Shared) (H : Hp) => seg_gs (iter := iter) (scope := scope) (pos := gpos) (len := len) (W := W) (Endp := fun H => Q (.bl true) H) (Yp := fun i y H3 => ∃ b, y = .bl b ∧ if b = true then W (i + 1) H3 else Q (.bl false) H3)
    RD.co RD.turn RD.fpok hPG hPE hW s₀ s H
  refine call_function_tree F.kind_all F.plain_all F.entry_all (F.args_all1 _) ?_
  unfold Builtin.«all»
  refine wpAny_bind (m := oneArg "all" _) (wpAny_pure ?_)
  refine wpAny_bind (wpAny_pyIter_gen (RD.pin _ _ RD.at0.1).1 ?_)
  refine wpAny_pure ⟨plainId_quiet F.plain_all_loop _, ?_⟩
  refine all_gx (Xg := gcx X cenv N s4 H2 fp pn) hr.hd (by have := hr.dp; omega) RD.pin (fun H' s' I' hE => ?_) (fun i y H' hy => ?_) len s5 ⟨(RD.pin _ _ RD.at0.1).1, (RD.pin _ _ RD.at0.1).2, _, RD.gen, rfl, seg _ _ _ (RD.at0.slp RD.turn.keep ⟨rfl, allBare_setGen RD.at0.1.bare rfl, fun _ _ e => e⟩) w0⟩
  · exact ⟨.bl true, H', RD.back H' s' I', rfl, hE⟩
  · obtain ⟨b, rfl, hb⟩ := hy
    refine ⟨b, rfl, fun e => ?_, fun e s1 I1 => ?_⟩
    · rw [if_pos e] at hb
      exact hb
    · subst e
      rw [if_neg Bool.false_ne_true] at hb
      exact ⟨.bl false, H', RD.back H' s1 I1, rfl, hb⟩
end
end GX

set_option Elab.async false
set_option linter.all false
set_option maxRecDepth 100000
set_option maxHeartbeats 2000000
namespace HK
open PySem PySem.Spec PyProof.Rows L2

/-! ### constants of the module -/
def GloE (mg : Str → Option Value) (x : Str) (v : V) : Prop := ∃ u, mg x = some u ∧ RelV v u
theorem pe_glo {X : Cx} {x : Str} {v : V} {pos : Pos} (hg : Gl X x) (h : GloE X.mg x v) (hd : (x == ("__debug__" : Str)) = false := by decide) : PE X (.Name x pos) (tC v) := by
  obtain ⟨u, h1, h2⟩ := h
  exact pe_glob hg h1 h2 hd

/-! ### defs -/
/-- a def of the text, at f, its code object's value cd -/
structure FnAt (K : PySem.W.Frag) (mg : Str → Option Value) (x : Str) (st : Stmt) (ps : List Str) (f : Addr) (cd : Value) : Prop where
  ex : ∃ (oc : Value) (od : Option Addr) (kV doc pm : Value) (an : Option Addr) (ct : Value) (osl : Array (Option Value)),
    K.lookup f = some ⟨oc, od, .func (PySem.W.fnOf x x (defArgs st) (defBody st) (defScope st) .none kV doc pm an cd ct), osl⟩ ∧ PySem.W.codeIn K cd x = true ∧
    Binds K (PySem.W.fnOf x x (defArgs st) (defBody st) (defScope st) .none kV doc pm an cd ct) ps []
  kp : PySem.W.keepIn K (.ref f) = true
  mgf : mg x = some (.ref f)
/-- a def that may be called by its name -/
def CalE (P : Program) (w : World) (K : PySem.W.Frag) (mg : Str → Option Value) (base : Heap) (CX : CXT) (k : Nat) (x : Str) (sp : Sp) : Prop :=
  ∃ (f : Addr) (fd : FuncData) (ps : List Str), FnOk P w K mg base CX k f fd ps sp ∧ mg x = some (.ref f) ∧ PySem.W.keepIn K (.ref f) = true ∧ Binds K fd ps []
section
variable {P : Program} {w : World} {K : PySem.W.Frag} {mg : Str → Option Value} {base : Heap} {x : Str} {st : Stmt} {f : Addr} {cd : Value} {N ps : List Str} {k : Nat} {sp : Sp}
theorem FnAt.cal (F : FnAt K mg x st ps f cd) (S : FnScope N ps (defScope st)) (len : ∀ vs H Q E, sp vs H Q E → vs.length = ps.length)
    (hbody : ∀ (A : Around) (outer : List Env) (s : Shared) (H : Hp) (vs : List V) (Q : VK) (E : XK), Room k (A.deeper (envOfC x (defScope st) s.heap.objs.size f cd)) → sp vs H Q E →
      ∃ t, PSs (cxOf CX0 P w K mg base N x (defScope st) f cd A outer s H E).nox (defBody st) t ∧ t { nx := fun _ H' => Q .non H', rt := Q } (start N vs) H) : CalE P w K mg base CX0 (k + 1) x sp := by
  obtain ⟨oc, od, kV, doc, pm, an, ct, osl, lk, hcd, hb⟩ := F.ex
  refine ⟨f, _, ps, fn_of lk hcd S len fun A outer s H vs Q E hr hsp => ?_, F.mgf, F.kp, hb⟩
  obtain ⟨t, h, q⟩ := hbody A outer s H vs Q E hr hsp
  exact ⟨t, h.nox, q⟩
/-- .. of a def that may raise -/
theorem FnAt.calX (F : FnAt K mg x st ps f cd) (S : FnScope N ps (defScope st)) (len : ∀ vs H Q E, sp vs H Q E → vs.length = ps.length)
    (hbody : ∀ (A : Around) (outer : List Env) (s : Shared) (H : Hp) (vs : List V) (Q : VK) (E : XK), Room k (A.deeper (envOfC x (defScope st) s.heap.objs.size f cd)) → sp vs H Q E →
      ∃ t, PSs (cxOf (L2.CX P w) P w K mg base N x (defScope st) f cd A outer s H E) (defBody st) t ∧ t { nx := fun _ H' => Q .non H', rt := Q } (start N vs) H) : CalE P w K mg base (L2.CX P w) (k + 1) x sp := by
  obtain ⟨oc, od, kV, doc, pm, an, ct, osl, lk, hcd, hb⟩ := F.ex
  exact ⟨f, _, ps, fn_of lk hcd S len fun A outer s H vs Q E hr hsp => hbody A outer s H vs Q E hr hsp, F.mgf, F.kp, hb⟩
theorem CalE.mono {CX : CXT} {j : Nat} (c : CalE P w K mg base CX j x sp) (h : j ≤ k) : CalE P w K mg base CX k x sp := by
  obtain ⟨f, fd, ps, F, r⟩ := c
  exact ⟨f, fd, ps, F.mono h, r⟩
/-- the law itself, by its body -/
def FnG (P : Program) (w : World) (K : PySem.W.Frag) (mg : Str → Option Value) (base : Heap) (CX : CXT) (k : Nat) (x : Str) (st : Stmt) (ps : List Str) (f : Addr) (cd : Value) (sp : Sp) : Prop :=
  ∀ (oc : Value) (od : Option Addr) (kV doc pm : Value) (an : Option Addr) (ct : Value) (osl : Array (Option Value)), K.lookup f = some ⟨oc, od, .func (PySem.W.fnOf x x (defArgs st) (defBody st) (defScope st) .none kV doc pm an cd ct), osl⟩ → PySem.W.codeIn K cd x = true →
    FnOk P w K mg base CX k f (PySem.W.fnOf x x (defArgs st) (defBody st) (defScope st) .none kV doc pm an cd ct) ps sp
theorem law_of (S : FnScope N ps (defScope st)) (len : ∀ vs H Q E, sp vs H Q E → vs.length = ps.length)
    (hbody : ∀ (A : Around) (outer : List Env) (s : Shared) (H : Hp) (vs : List V) (Q : VK) (E : XK), Room k (A.deeper (envOfC x (defScope st) s.heap.objs.size f cd)) → sp vs H Q E →
      ∃ t, PSs (cxOf CX0 P w K mg base N x (defScope st) f cd A outer s H E).nox (defBody st) t ∧ t { nx := fun _ H' => Q .non H', rt := Q } (start N vs) H) : FnG P w K mg base CX0 (k + 1) x st ps f cd sp := by
  intro oc od kV doc pm an ct osl lk hcd
  refine fn_of lk hcd S len fun A outer s H vs Q E hr hsp => ?_
  obtain ⟨t, h, q⟩ := hbody A outer s H vs Q E hr hsp
  exact ⟨t, h.nox, q⟩
theorem fnAt_mk {oc : Value} {od : Option Addr} {kV doc pm : Value} {an : Option Addr} {ct : Value} {osl : Array (Option Value)} (m : mg x = some (.ref f)) (l : K.lookup f = some ⟨oc, od, .func (PySem.W.fnOf x x (defArgs st) (defBody st) (defScope st) .none kV doc pm an cd ct), osl⟩)
    (c : PySem.W.codeIn K cd x = true) (kp : PySem.W.keepIn K (.ref f) = true)
    (h : ∀ us : List Value, us.length = ps.length → bindArgs (PySem.W.fnOf x x (defArgs st) (defBody st) (defScope st) .none kV doc pm an cd ct) ⟨us, []⟩ = pure (ps.zip us)) : FnAt K mg x st ps f cd :=
  ⟨⟨oc, od, kV, doc, pm, an, ct, osl, l, c, .all h⟩, kp, m⟩
end
def tCal (sp : Sp) (E : L2.St → XK) (t : TA) : TE := fun σ H Q => t σ H fun vs H1 => sp vs H1 Q (E σ)
section
variable {X : Cx} {k : Nat} {x : Str} {sp : Sp} {p pos : Pos} {e : Expr} {es : List Expr} {t : TA}
theorem pe_cal (c : CalE X.prog X.w X.K X.mg X.base CX0 k x sp) (hr : Room k X.A) (hg : Gl X x) (ha : PA X (e :: es) t) (hdb : (x == ("__debug__" : Str)) = false := by decide)
    (he : starEach (e :: es) X.env = (false, eval e X.env) :: starEach es X.env := by rfl) (hpl : (backTo pos (starEach es X.env)).any (·.1) = false := by rfl) :
    PE X (.Call (.Name x p) (e :: es) [] pos) (tCal sp (fun _ => E0) t) := by
  obtain ⟨f, fd, ps, F, hm, kp, b⟩ := c
  exact pe_callS F hr hg hm kp b (fun _ _ _ _ _ _ _ h => h.elim) ha hdb he hpl
/-- a def that may raise, where it doesn't -/
theorem pe_calL (c : CalE X.prog X.w X.K X.mg X.base (L2.CX X.prog X.w) k x sp) (hr : Room k X.A) (hg : Gl X x) (ha : PA X (e :: es) t) (hdb : (x == ("__debug__" : Str)) = false := by decide)
    (he : starEach (e :: es) X.env = (false, eval e X.env) :: starEach es X.env := by rfl) (hpl : (backTo pos (starEach es X.env)).any (·.1) = false := by rfl) :
    PE X (.Call (.Name x p) (e :: es) [] pos) (tCal sp (fun _ => E0) t) := by
  obtain ⟨f, fd, ps, F, hm, kp, b⟩ := c
  exact pe_callS F hr hg hm kp b (fun _ _ _ _ _ _ _ h => by
    obtain ⟨_, _, _, _, _, _, _, _, _, _, _, _, z⟩ := h
    exact z.elim) ha hdb he hpl
/-- .. in a try, or in a def that lets it out: W is wished of it -/
theorem pe_calS {W : WX} (c : CalE X.prog X.w X.K X.mg X.base (L2.CX X.prog X.w) k x sp) (hr : Room k X.A) (hg : Gl X x) (tk : Takes X W) (ha : PA X (e :: es) t) (hdb : (x == ("__debug__" : Str)) = false := by decide)
    (he : starEach (e :: es) X.env = (false, eval e X.env) :: starEach es X.env := by rfl) (hpl : (backTo pos (starEach es X.env)).any (·.1) = false := by rfl) :
    PE X (.Call (.Name x p) (e :: es) [] pos) (tCal sp (WE W) t) := by
  obtain ⟨f, fd, ps, F, hm, kp, b⟩ := c
  exact pe_callS F hr hg hm kp b (fun σ => passAt tk σ) ha hdb he hpl
/-- f() -/
theorem pe_cal0 (c : CalE X.prog X.w X.K X.mg X.base CX0 k x sp) (hr : Room k X.A) (hg : Gl X x) (hdb : (x == ("__debug__" : Str)) = false := by decide) : PE X (.Call (.Name x p) [] [] pos) (tCal sp (fun _ => E0) tNil) := by
  obtain ⟨f, fd, ps, F, hm, kp, b⟩ := c
  have h := pe_call0 (p := p) (pos := pos) F hr hg hm kp b .nil (pass0 (X := X)) hdb
  exact h
end

/-! ### own errors without __init__ -/
def exBases : List Value := [.type "ValueError", .type "Exception", .type "BaseException", .type "object"]
structure ExcE (K : PySem.W.Frag) (mg : Str → Option Value) (x : Str) (C : Addr) : Prop where
  m : mg x = some (.ref C)
  q : PySem.W.excIn K C exBases "ValueError.__new__" = true
  kp : PySem.W.keepIn K (.ref C) = true
  sb : PySem.W.subIn K (.ref C) (.type "BaseException") = some true
  ty : PySem.W.typeIn K (.ref C) = some (.type "type")
  is : PySem.W.isClsIn K C = true
  self : PySem.W.subIn K (.ref C) (.ref C) = some true
theorem exm_self {K : PySem.W.Frag} {S : Addr} (h1 : PySem.W.subIn K (.ref S) (.type "BaseException") = some true) (h2 : PySem.W.isClsIn K S = true) (h3 : PySem.W.typeIn K (.ref S) = some (.type "type")) (h4 : PySem.W.subIn K (.ref S) (.ref S) = some true) :
    PySem.W.exmOne K (.ref S) (.ref S) = some true := by
  have e1 : (PySem.W.subIn K (.ref S) (.type "BaseException") == some true) = true := by rw [h1] <;> rfl
  have e2 : ((PySem.W.clsIn K S).isSome && PySem.W.typeIn K (.ref S) == some (.type "type")) = true := by
    have h2' : (PySem.W.clsIn K S).isSome = true := h2
    rw [h2', h3] <;> rfl
  show (if (PySem.W.subIn K (.ref S) (.type "BaseException") == some true) = true then (if ((PySem.W.clsIn K S).isSome && PySem.W.typeIn K (.ref S) == some (.type "type")) = true then PySem.W.subIn K (.ref S) (.ref S) else none) else none) = some true
  rw [if_pos e1, if_pos e2]
  exact h4
theorem ExcE.ex {K : PySem.W.Frag} {mg : Str → Option Value} {x : Str} {C : Addr} (h : ExcE K mg x C) : PySem.W.exmOne K (.ref C) (.ref C) = some true := exm_self h.sb h.is h.ty h.self
theorem pmk_own0 {X : Cx} {C : Addr} {x : Str} {p pos : Pos} (h : ExcE X.K X.mg x C) (hg : Gl X x) (hdb : (x == ("__debug__" : Str)) = false := by decide) :
    PMk X (.Call (.Name x p) [] [] pos) (fun _ H Q => Q (.ref C) none H) := by
  intro pins s σ H Q I hq
  refine wpAny_Call_Name_kw (ld_glob I hg h.m ?_ hdb)
  refine PySem.W.callWith_K0 I.kIn h.kp ?_
  show wpAny _ _ (call (.ref C) []) _ _ _
  obtain ⟨bm, N, nm, qn, bs, hdct, sn, sub, ab, col, dd, k0, k1, k2, k3, k5, mN, hC, hN, hni, T⟩ := exc_obj I.kIn h.q
  refine wpAny_call_exc_subT PySem.F.excBase_ValueError T hC hN hni (fun h' e hm => ?_) (Nat.zero_le _)
  exact mk_of I hm (raises_own h.sb h.ty) hq (I.hok.gone hm.new)

/-! ### heaps: the tables tb may grow, what stands at ch may change, all else that was tracked stands -/
def Tabs (tb : List Addr) (H : Hp) : Prop := ∀ b ∈ tb, GxR.TabG H b
structure Ext (tb ch : List Addr) (H H' : Hp) : Prop where
  keep : ∀ b o, b ∉ tb → b ∉ ch → H b = some o → H' b = some o
  tabs : Tabs tb H → Tabs tb H'
section
variable {tb ch : List Addr} {H H1 H2 H3 : Hp} {a b p : Addr} {o : HO} {K : PySem.W.Frag} {xs : List V}
theorem Ext.refl : Ext tb ch H H := ⟨fun _ _ _ _ h => h, fun h => h⟩
theorem Ext.trans (h : Ext tb ch H H1) (g : Ext tb ch H1 H2) : Ext tb ch H H2 := ⟨fun b o h1 h2 e => g.keep b o h1 h2 (h.keep b o h1 h2 e), fun t => g.tabs (h.tabs t)⟩
theorem Ext.wide {ch' : List Addr} (h : Ext tb ch H H1) (w : ∀ b ∈ ch, b ∈ ch') : Ext tb ch' H H1 := ⟨fun b o h1 h2 e => h.keep b o h1 (fun z => h2 (w b z)) e, h.tabs⟩
theorem Ext.of0 {ch' : List Addr} (h : Ext tb [] H H1) : Ext tb ch' H H1 := h.wide fun _ z => (by cases z)
theorem Tabs.ne (t : Tabs tb H) (h : H p = none) : p ∉ tb := fun z => by
  obtain ⟨ps, e, _⟩ := t p z
  rw [h] at e
  cases e
theorem TabG.upd {c : Addr} (h : GxR.TabG H c) (hp : p ≠ c) : GxR.TabG (upd H p o) c := by
  obtain ⟨ps, e, q⟩ := h
  exact ⟨ps, by rw [upd_ne (Ne.symm hp)]; exact e, q⟩
theorem Tabs.upd (t : Tabs tb H) (hp : p ∉ tb) : Tabs tb (upd H p o) := fun b hb => TabG.upd (t b hb) fun z => hp (by rw [z]; exact hb)
/-- a new object -/
theorem Ext.new (t : Tabs tb H) (h : H p = none) : Ext tb ch H (upd H p o) :=
  ⟨fun b u _ _ e => by rw [upd_ne (ne_of_none e h)]; exact e, fun _ => t.upd (t.ne h)⟩
/-- what stands at a changed place is changed -/
theorem Ext.mut (hp : p ∈ ch) (nt : p ∉ tb) : Ext tb ch H (upd H p o) :=
  ⟨fun b u _ h2 e => by rw [upd_ne (fun z => h2 (by rw [z]; exact hp))]; exact e, fun t => t.upd nt⟩
/-- what came new may be changed -/
theorem Ext.own (t : Tabs tb H) (h : Ext tb ch H H1) (hp : H p = none) : Ext tb ch H (upd H1 p o) :=
  ⟨fun b u h1 h2 e => by rw [upd_ne (ne_of_none e hp)]; exact h.keep b u h1 h2 e, fun _ => (h.tabs t).upd (t.ne hp)⟩
theorem Ext.tabbed (h : GxR.Tabbed p H H1) (hp : p ∈ tb) : Ext tb ch H H1 :=
  ⟨fun b u h1 _ e => by rw [h.2 b (fun z => h1 (by rw [z]; exact hp))]; exact e, fun t b hb => by
    by_cases e : b = p
    · rw [e]
      exact h.1
    · obtain ⟨ps, e1, e2⟩ := t b hb
      exact ⟨ps, by rw [h.2 b e]; exact e1, e2⟩⟩
theorem Ext.free (h : Ext tb ch H H1) (t : Tabs tb H) (hp : H1 p = none) (hc : p ∉ ch) : H p = none := by
  cases e : H p with
  | none => rfl
  | some u =>
    by_cases hb : p ∈ tb
    · exact absurd hp (fun z => by
        obtain ⟨ps, e1, _⟩ := h.tabs t p hb
        rw [z] at e1
        cases e1)
    · rw [h.keep p u hb hc e] at hp
      cases hp
theorem ne_tab (t : Tabs tb H) (e : H a = some o) (ho : ∀ ps, o ≠ .tbl ps) : a ∉ tb := fun z => by
  obtain ⟨ps, e1, _⟩ := t a z
  rw [e] at e1
  exact ho ps (Option.some.inj e1)
theorem Ext.rd (h : Ext tb ch H H1) (t : Tabs tb H) {u : HO} (hu : (∃ xs, u = .lst xs) ∨ ∃ xs, u = .tup xs) (r : Rd H a u) (hc : a ∉ ch) : Rd H1 a u := by
  rcases r with r | ⟨oo, r⟩
  · exact .inl (h.keep _ _ (ne_tab t r fun ps z => by rcases hu with ⟨xs, rfl⟩ | ⟨xs, rfl⟩ <;> cases z) hc r)
  · exact .inr ⟨oo, h.keep _ _ (ne_tab t r fun ps z => by cases z) hc r⟩
theorem Ext.sqL (h : Ext tb ch H H1) (t : Tabs tb H) (s : SqL K H a xs) (hc : a ∉ ch) : SqL K H1 a xs := by
  rcases s with s | s
  · exact .inl (h.rd t (.inl ⟨_, rfl⟩) s hc)
  · exact .inr s
theorem Ext.sqT (h : Ext tb ch H H1) (t : Tabs tb H) (s : SqT K H a xs) (hc : a ∉ ch) : SqT K H1 a xs := by
  rcases s with s | s
  · exact .inl (h.rd t (.inr ⟨_, rfl⟩) s hc)
  · exact .inr s
theorem Ext.lst (h : Ext tb ch H H1) (t : Tabs tb H) (e : H a = some (.lst xs)) (hc : a ∉ ch) : H1 a = some (.lst xs) := h.keep _ _ (ne_tab t e fun ps z => by cases z) hc e
theorem Ext.tup (h : Ext tb ch H H1) (t : Tabs tb H) (e : H a = some (.tup xs)) (hc : a ∉ ch) : H1 a = some (.tup xs) := h.keep _ _ (ne_tab t e fun ps z => by cases z) hc e
theorem Ext.dK {kvs : List (Key × V)} (h : Ext tb ch H H1) (t : Tabs tb H) (e : H a = some (.dK kvs)) (hc : a ∉ ch) : H1 a = some (.dK kvs) := h.keep _ _ (ne_tab t e fun ps z => by cases z) hc e
end

/-! ### the end: a law whose defs have tables -/
/-- what is known of a def's code object and its table -/
def TabAt (K : PySem.W.Frag) (mg : Str → Option Value) (h : Heap) (q : Program) : Prop := ∀ (nm : Str) (f c P : Addr) (o : Obj) (fd : FuncData) (e : Value) (dd : Option Addr) (vs : Array Value) (sl : Array (Option Value)),
  ((recsOf q).any fun e => e.name == nm) = true → mg nm = some (.ref f) → K.lookup f = some o → o.data = .func fd → fd.code = .ref c → K.lookup c = some ⟨e, dd, .fields vs, sl⟩ → vs[11]? = some (.ref P) →
  PySem.W.CodeHd h c P ∧ h.get? P = some { cls := .none, data := .fields #[] }
theorem walk_tabs {l : PySem.W.OpenLaw} {n k : Nat} {q : Program} {loose : List Str} {XP : (Str → Option Value) → Heap → Prop} {YP : World → Heap → Prop} {d : DefRec} {K : Params → PySem.W.Frag} {CX : World → CXT} {x : Str}
    (hn : l.most = some n) (hn2 : n ≤ sizeLine) (hdf : d.params.defaults = []) (hr : Room k callerA) (hY : ∀ (w : World) (h : Heap), YP w h → (K w.params).In h)
    (F : ∀ (w : World) (mg : Str → Option Value) (fa : Addr) (h : Heap), YP w h → (K w.params).In h → h.Ns mainGlobals mg → mg d.name = some (.ref fa) → TabAt (K w.params) mg h q → LamX.LawAtS l w (K w.params) (CX w) k n x mg fa h)
    (hCX : ∀ (w : World) (H : Hp) (s : Shared) (e : Value) (s' : Shared), CX w [] H s (fun _ _ _ => False) e s' → False) :
    PySem.W.WalkO q loose XP YP l.row.toRowW d [] (fun f vs => PySem.call f vs) := by
  refine Att.attach_callB hn hdf fun w s₀ s₁ mg mb fa o pm cd doc a vs ns G Y ho hd hcd hmg hobj hints hlen hbits hg => ?_
  have KX := hY w _ Y
  have tabs : TabAt (K w.params) mg s₁.heap q := fun nm f c P o1 fd1 e dd vs1 sl hrec hm k1 k2 k3 k4 k5 => by
    obtain ⟨dL, hm1, hn1⟩ := List.any_eq_true.mp hrec
    have hn2 : dL.name = nm := beq_iff_eq.mp hn1
    obtain ⟨a', o', fd', c', P', h1, h2, h3, h4, h5, h6⟩ := G.T.tab dL hm1
    rw [hn2, hm] at h1
    cases h1
    have g1 := KX _ _ k1
    rw [g1] at h2
    cases h2
    rw [k2] at h3
    cases h3
    rw [k3] at h4
    cases h4
    have hd := PySem.W.CodeHd.of h5 h6
    obtain ⟨⟨oc, vc, e1, _, e3, e4⟩, hP⟩ := h6
    have g2 := KX _ _ k4
    rw [g2] at e1
    cases e1
    cases e3
    rw [k5] at e4
    cases e4
    exact ⟨hd, hP⟩
  obtain ⟨fd, cs, sp, hT, nT, C, hb, hsp, hF⟩ := F w mg fa _ Y KX G.T.g hmg tabs
  exact LamX.law_callTs KX G.T.g G.T.b G.T.builtins G.T.nolimit hg hT nT C G.T.bmain hobj hints (Nat.le_trans hlen hn2) hr hF hb (fun H hH hS => hsp H a ns hlen hbits hH hS) fun H e s' => hCX w H s₁ e s'

/-! ### isinstance; all over a generator expression -/
theorem isi {K : PySem.W.Frag} {H : Hp} {x : V} {t n : String} {b : Bool} {Q : VK} (ty : TyX K H x (.type t)) (hk : kitB t n = some b) (q : Q (.bl b) H) : rIsi K [x, .ty n] H Q :=
  ⟨x, .ty n, .type t, .type n, b, rfl, .ty n, ty, kit_ty hk, q⟩
def trV {α : Type} (f : α → Bool) (l : List α) (i : Nat) : Bool := match l[i]? with
  | some b => f b
  | none => false
theorem trV_some {α : Type} {f : α → Bool} {l : List α} {i : Nat} {b : α} (h : l[i]? = some b) : trV f l i = f b := by
  unfold trV
  rw [h]
theorem all_trV {α : Type} (f : α → Bool) (l : List α) : (List.range l.length).all (trV f l) = l.all f := by
  rw [Bool.eq_iff_iff, List.all_eq_true, List.all_eq_true]
  constructor
  · intro h b hb
    obtain ⟨j, hj, e⟩ := List.getElem_of_mem hb
    have q := h j (List.mem_range.mpr hj)
    rw [trV_some (List.getElem?_eq_getElem hj), e] at q
    exact q
  · intro h j hj
    have hj' := List.mem_range.mp hj
    rw [trV_some (List.getElem?_eq_getElem hj')]
    exact h _ (List.getElem_mem hj')
theorem allG_by {J : It} {N : List Str} {g : TG} {te : TE} {Q : VK} {H2 : Hp} (len : Nat) (pb : Nat → Bool) (Pv : Hp → Prop) (h0 : Pv H2) (hstop : ∀ H, Pv H → J.stop len H) (hgo : ∀ i H, i < len → Pv H → J.go i H)
    (hstep : ∀ i H x H', i < len → Pv H → J.yld i H x H' → ∀ R : VK, (∀ H3, Pv H3 → R (.bl (pb i)) H3) → g x (GX.tau0 N) H' fun τ2 H2 => te τ2 H2 R)
    (hq : ∀ H b, Pv H → b = (List.range len).all pb → Q (.bl b) H) :
    ∃ (len : Nat) (W : Nat → Hp → Prop), W 0 H2 ∧ ∀ i H, W i H → i ≤ len ∧ ((J.stop i H ∧ Q (.bl true) H) ∨ (i < len ∧ J.go i H ∧ ∀ x H', J.yld i H x H' → g x (GX.tau0 N) H' fun τ2 H2 => te τ2 H2 fun y H3 => ∃ b, y = .bl b ∧ if b = true then W (i + 1) H3 else Q (.bl false) H3)) := by
  refine ⟨len, fun i H => i ≤ len ∧ Pv H ∧ ∀ j, j < i → pb j = true, ⟨Nat.zero_le _, h0, fun j hj => absurd hj (Nat.not_lt_zero _)⟩, ?_⟩
  rintro i H ⟨hi, hp, hj⟩
  refine ⟨hi, ?_⟩
  by_cases e : i < len
  · refine .inr ⟨e, hgo i H e hp, fun x H' hy => hstep i H x H' e hp hy _ fun H3 hp3 => ⟨pb i, rfl, ?_⟩⟩
    cases hb : pb i with
    | true =>
      refine iteT ⟨e, hp3, fun j hj' => ?_⟩
      rcases Nat.lt_or_ge j i with z | z
      · exact hj j z
      · have : j = i := by omega
        rw [this]
        exact hb
    | false =>
      refine iteF (hq H3 false hp3 ?_)
      symm
      rw [List.all_eq_false]
      exact ⟨i, List.mem_range.mpr e, by rw [hb]; exact Bool.false_ne_true⟩
  · have : i = len := by omega
    subst this
    refine .inl ⟨hstop H hp, hq H true hp ?_⟩
    symm
    rw [List.all_eq_true]
    exact fun j hj' => hj j (List.mem_range.mp hj')
theorem line_of {n : Nat} (h : n ≤ 100000) : n ≤ sizeLine := Nat.le_trans h (by decide)
theorem line_lt {n : Nat} (h : n ≤ 100000) : n < sizeLine := Nat.lt_of_le_of_lt h (by decide)

/-! ### data of ints, of texts -/
theorem dp_ints {K : PySem.W.Frag} {H : Hp} : ∀ ns : List Int, DpAll K H (ns.map V.int) (ns.map PyData.int)
  | [] => .nil
  | n :: r => .cons (.int n) (dp_ints r)
theorem dp_strs {K : PySem.W.Frag} {H : Hp} : ∀ ns : List Str, DpAll K H (ns.map V.str) (ns.map PyData.str)
  | [] => .nil
  | n :: r => .cons (.str n) (dp_strs r)
theorem canAll_ints : ∀ ns : List Int, PyData.canLayAll0 (ns.map PyData.int) = true
  | [] => rfl
  | n :: r => by
    show (PyData.canLay0 (.int n) && PyData.canLayAll0 (r.map PyData.int)) = true
    rw [canAll_ints r] <;> rfl
theorem depAll_ints : ∀ ns : List Int, PyData.depthAll (ns.map PyData.int) = 0
  | [] => rfl
  | n :: r => by
    show max (PyData.depth (.int n)) (PyData.depthAll (r.map PyData.int)) = 0
    rw [depAll_ints r] <;> rfl
theorem sh_ints (ns : List Int) : SeqAt.shaped (.list (ns.map PyData.int)) = true := by
  have h1 : PyData.canLay0 (.list (ns.map PyData.int)) = true := canAll_ints ns
  have h2 : PyData.depth (.list (ns.map PyData.int)) = 1 := by
    show PyData.depthAll (ns.map PyData.int) + 1 = 1
    rw [depAll_ints]
  unfold SeqAt.shaped
  rw [h1, h2] <;> rfl
theorem canAll_strs : ∀ ns : List Str, (∀ s ∈ ns, PyData.canLay0 (.str s) = true) → PyData.canLayAll0 (ns.map PyData.str) = true
  | [], _ => rfl
  | n :: r, h => by
    show (PyData.canLay0 (.str n) && PyData.canLayAll0 (r.map PyData.str)) = true
    rw [canAll_strs r fun s hs => h s (List.mem_cons_of_mem _ hs), h n (List.mem_cons_self ..)] <;> rfl
theorem depAll_strs : ∀ ns : List Str, PyData.depthAll (ns.map PyData.str) = 0
  | [] => rfl
  | n :: r => by
    show max (PyData.depth (.str n)) (PyData.depthAll (r.map PyData.str)) = 0
    rw [depAll_strs r] <;> rfl
theorem sh_tstrs {ns : List Str} (h : ∀ s ∈ ns, PyData.canLay0 (.str s) = true) : SeqAt.shaped (.tuple (ns.map PyData.str)) = true := by
  have h1 : PyData.canLay0 (.tuple (ns.map PyData.str)) = true := canAll_strs ns h
  have h2 : PyData.depth (.tuple (ns.map PyData.str)) = 1 := by
    show PyData.depthAll (ns.map PyData.str) + 1 = 1
    rw [depAll_strs]
  unfold SeqAt.shaped
  rw [h1, h2] <;> rfl

/-! ### the layer's rules, the written part told (a comprehension's frame has another context) -/
section
variable {X : Cx} {K : PySem.W.Frag} {tg : Expr} {e : Expr} {te : TE}
theorem q_isi (h : X.K = K) : CallR X (.builtin "isinstance") (rIsi K) := h ▸ call_isi
def rLenK (K : PySem.W.Frag) : List V → Hp → VK → Prop := fun xs H Q => ∃ x n, xs = [x] ∧ LenV K x H n ∧ Q (.int n) H
theorem q_len (h : X.K = K) : CallR X (.builtin "len") (rLenK K) := h ▸ call_len
def rTupK (K : PySem.W.Frag) : List V → Hp → VK → Prop := fun xs H Q => ∃ p ys, xs = [.ref p] ∧ ((SqL K H p ys ∧ ∀ l, H l = none → Q (.ref l) (upd H l (.tup ys))) ∨ (SqT K H p ys ∧ Q (.ref p) H))
theorem q_tup (h : X.K = K) : CallR X (.type "tuple") (rTupK K) := h ▸ call_tuple_of
def rLstK (K : PySem.W.Frag) : List V → Hp → VK → Prop := fun xs H Q => ∃ p ys, xs = [.ref p] ∧ (SqL K H p ys ∨ SqT K H p ys) ∧ ∀ l, H l = none → Q (.ref l) (upd H l (.lst ys))
theorem q_lst (h : X.K = K) : CallR X (.type "list") (rLstK K) := h ▸ call_list_of
theorem q_all (h : X.K = K) (hc : X.calm = true) : CallR X (.builtin "all") (rAll K) := h ▸ cr_all hc
theorem q_any (h : X.K = K) (hc : X.calm = true) : CallR X (.builtin "any") (rAny K) := h ▸ cr_any hc
theorem q_sum (h : X.K = K) (hc : X.calm = true) : CallR X (.builtin "sum") (rSum K) := h ▸ cr_sum hc
theorem q_ixL (h : X.K = K) : IxR X (rIxL K) := h ▸ ix_list
theorem q_ixT (h : X.K = K) : IxR X (rIxT K) := h ▸ ix_tup
theorem q_slL (h : X.K = K) : SlR X (rSlL K) := h ▸ sl_list
theorem q_slT (h : X.K = K) : SlR X (rSlA K) := h ▸ sl_tupA
theorem q_in (h : X.K = K) : OpR X (compareOp .In) (rIn K false) := h ▸ op_in_seq
theorem q_nin (h : X.K = K) : OpR X (compareOp .NotIn) (rIn K true) := h ▸ op_notIn_seq
theorem q_eqD (h : X.K = K) (hu : X.A.units + 64 < cLine) : OpR X (compareOp .Eq) (rEqD K) := h ▸ op_eqD hu
theorem q_neD (h : X.K = K) (hu : X.A.units + 64 < cLine) : OpR X (compareOp .NotEq) (rNeD K) := h ▸ op_neD hu
theorem q_catT (h : X.K = K) : OpR X (binaryOp .Add) (rCatA K) := h ▸ op_catA
theorem q_piL (h : X.K = K) (hl : PE X e te) : PI X tg e (iList K te) := h ▸ pi_list hl
theorem q_piT (h : X.K = K) (hl : PE X e te) : PI X tg e (iTup K te) := h ▸ pi_tup hl
theorem q_bm {T id : String} {name : Str} {o : Expr} {es : List Expr} {to : TE} {t : TA} {r : V → List V → Hp → VK → Prop} {apos cpos : Pos} (h : X.K = K) (pa : PlainAttrs T) (slot : Slot T name id) (hty : typeOf (.builtin id) = pure (.type "method_descriptor")) (hm : MtR X id r) (ho : PE X o to) (ha : PA X (e :: es) t)
    (hbase : attributeBase o name X.env (eval o X.env) = eval o X.env := by rfl)
    (hfew : ((backTo cpos (starEach (e :: es) X.env)).all (fun x => !x.1) && (backToKw cpos (keywordEach [] X.env)).all (fun x => x.1.isSome)
      && decide ((e :: es).length + ([] : List Keyword).length + (if ([] : List Keyword).isEmpty then 0 else 1) < 30)) = true := by rfl)
    (hline : (apos.endLine == cpos.line) = true := by rfl) (hs : starEach (e :: es) X.env = (false, eval e X.env) :: starEach es X.env := by rfl) (hplain : (backTo cpos (starEach es X.env)).any (·.1) = false := by rfl) :
    PE X (.Call (.Attribute o name apos) (e :: es) [] cpos) (tBM K T r to t) := h ▸ pe_bm pa slot hty hm ho ha hbase hfew hline hs hplain
theorem q_join {o : Expr} {to : TE} {apos pos : Pos} (h : X.K = K) (ho : PE X o to) (he : PE X e te) (hs : starEach [e] X.env = [(false, eval e X.env)] := by rfl) (hbase : attributeBase o "join" X.env (eval o X.env) = eval o X.env := by rfl) (hline : (apos.endLine == pos.line) = true := by rfl) :
    PE X (.Call (.Attribute o "join" apos) [e] [] pos) (tM1 (fun x xs H Q => ∃ a p, ∃ ys : List Str, x = .str a ∧ xs = [.ref p] ∧ (SqL K H p (ys.map V.str) ∨ SqT K H p (ys.map V.str)) ∧
    (ys.map (·.length)).sum + ys.length * a.length ≤ 16777216 ∧ Q (.str (Txt.join a ys)) H) to te) := h ▸ pe_join ho he hs hbase hline
end

/-- what the end asks, from the promise of the law -/
theorem law_at {l : PySem.W.OpenLaw} {w : World} {K : PySem.W.Frag} {mg : Str → Option Value} {h : Heap} {q : Program} {k n : Nat} {x nm : Str} {st : Stmt} {f fa : Addr} {cd : Value} {sp : Sp} {cs : List (Addr × Addr)}
    (hf : mg nm = some (.ref fa)) (F : FnAt K mg nm st [x] f cd) (hcs : ∀ p ∈ cs, PySem.W.CodeHd h p.1 p.2 ∧ h.get? p.2 = some { cls := .none, data := .fields #[] } ∧ K.lookup p.2 = none)
    (hb : ∀ (kV doc pm : Value) (an : Option Addr) (ct : Value) (s : Shared) (u : Value), BindsTo s (PySem.W.fnOf nm nm (defArgs st) (defBody st) (defScope st) .none kV doc pm an cd ct) ⟨[u], []⟩ [(x, u)])
    (hsp : ∀ (H : Hp) (a : Addr) (ns : List Int), ns.length ≤ n → (∀ z ∈ ns, Builtin.Int.intBits z ≤ 1048576) → Tabs (cs.map (·.2)) H → SqL K H a (ns.map V.int) → sp [.ref a] H (fun v _ => v = .bl true) fun _ _ _ => False)
    (hF : ∀ base : Heap, K.In base → base.Ns mainGlobals mg → (∀ p ∈ cs, LamX.TabB base mg p.1 p.2) → FnG l.prog w K mg base CX0 k nm st [x] f cd sp) : LamX.LawAtS l w K CX0 k n x mg fa h := by
  obtain ⟨oc, od, kV, doc, pm, an, ct, osl, lk, hcd, _⟩ := F.ex
  have e := hf.symm.trans F.mgf
  cases e
  refine ⟨PySem.W.fnOf nm nm (defArgs st) (defBody st) (defScope st) .none kV doc pm an cd ct, cs, sp, fun p hp => (hcs p hp).2.1, fun p hp => (hcs p hp).2.2, fun p hp => (hcs p hp).1, hb kV doc pm an ct, fun H a ns h1 h2 h3 h4 => ?_, fun base hK hN hT => hF base hK hN hT oc od kV doc pm an ct osl lk hcd⟩
  refine hsp H a ns h1 h2 (fun b hb => ?_) h4
  obtain ⟨p, hp, e⟩ := List.mem_map.mp hb
  rw [← e]
  refine ⟨#[], h3 p hp, ?_⟩
  first
    | trivial
    | simp [TriplesOk]
end HK

set_option Elab.async false
set_option linter.all false
set_option maxRecDepth 100000
set_option maxHeartbeats 2000000
/-! own errors whose __init__ says super().__init__(text) -/
namespace HK
open PySem PySem.Spec PyProof.Rows L2
/-- a def whose body is super().__init__(text) -/
structure SupSh (st : Stmt) (p2 p3 : Pos) : Prop where
  body : ∃ (p0 p1 p4 pc : Pos) (txt : Str) (j : Nat), defBody st = [.Expr (.Call (.Attribute (.Call (.Name "super" p0) [] [] p1) "__init__" p2) [.Constant (.str txt) j pc] [] p3) p4]
  line : (p2.endLine == p3.line) = true
  binds : ∀ (qual : Str) (kV doc pm : Value) (an : Option Addr) (cd ct : Value) (cc : Addr) (s : Shared) (u : Value), BindsTo s (PySem.W.ksFn "__init__" qual (defArgs st) (defBody st) (defScope st) .none kV doc pm an cd ct cc) ⟨[u], []⟩ [("self", u)]
  ar : ∃ ar, ((defArgs st).posonlyargs ++ (defArgs st).args).head? = some ar ∧ ar.arg = "self"
  cell : ∀ x ∈ (defScope st).names, x.2 ≠ .cell
  co : (defScope st).isCoroutine = false
  gen : (defScope st).isGenerator = false
  kind : (defScope st).kind = .function
  su : (defScope st).names.lookup ("super" : Str) = some .globalImplicit
  cl : (defScope st).names.lookup ("__class__" : Str) = some .free
  se : (defScope st).names.lookup ("self" : Str) = some .local
/-- the __init__ of the class C: super().__init__(text), over ValueError -/
structure InitS (P : Program) (K : PySem.W.Frag) (C fI : Addr) : Prop where
  i : PySem.W.findIn K (.ref C) "__init__" = some (some (.ref fI))
  ti : PySem.W.typeIn K (.ref fI) = some (.type "function")
  ex : ∃ (cc cda : Addr) (st : Stmt) (p2 p3 : Pos) (qual : Str) (oc kV doc pm ct : Value) (od an : Option Addr) (osl : Array (Option Value)) (ccl : Value) (cdd : Option Addr) (vs : Array Value) (ccs : Array (Option Value)) (file : Str) (tf : Tok)
      (cl : Value) (cld : Option Addr) (csl : Array (Option Value)),
    SupSh st p2 p3 ∧ K.lookup fI = some ⟨oc, od, .func (PySem.W.ksFn "__init__" qual (defArgs st) (defBody st) (defScope st) .none kV doc pm an (.ref cda) ct cc), osl⟩ ∧ PySem.W.codeIn K (.ref cda) qual = true ∧
    K.lookup cda = some ⟨ccl, cdd, .fields vs, ccs⟩ ∧ vs[2]? = some (.str file tf) ∧ ((P.main.file : Str) == file) = true ∧
    K.lookup cc = some ⟨cl, cld, .cell (some (.ref C)), csl⟩
structure ExcI (P : Program) (K : PySem.W.Frag) (mg : Str → Option Value) (x : Str) (C : Addr) : Prop where
  m : mg x = some (.ref C)
  q : PySem.W.excInitIn K C exBases "ValueError.__new__" = true
  kp : PySem.W.keepIn K (.ref C) = true
  sb : PySem.W.subIn K (.ref C) (.type "BaseException") = some true
  ty : PySem.W.typeIn K (.ref C) = some (.type "type")
  is : PySem.W.isClsIn K C = true
  self : PySem.W.subIn K (.ref C) (.ref C) = some true
  sv : PySem.W.subIn K (.ref C) (.type "ValueError") = some true
  su : PySem.W.ks_superIn K C C "__init__" = some (some (.builtin "ValueError.__init__"))
  mr : PySem.W.mroIn K C (.ref C) = some true
  op : PySem.W.nsIn K cStatics "thirdparty.any" = some none
  ms : mg "super" = none
  ps : (P.main.scope.names.lookup ("super" : Str)).isSome = false
  ini : ∃ fI, InitS P K C fI
theorem ExcI.ex {P : Program} {K : PySem.W.Frag} {mg : Str → Option Value} {x : Str} {C : Addr} (h : ExcI P K mg x C) : PySem.W.exmOne K (.ref C) (.ref C) = some true := exm_self h.sb h.is h.ty h.self
theorem sup_eq {o : Expr} {name : Str} {p2 p3 pc : Pos} {txt : Str} {j : Nat} {env : Env} (hline : (p2.endLine == p3.line) = true) : eval (.Call (.Attribute o name p2) [.Constant (.str txt) j pc] [] p3) env = (do
      let ov ← attributeBase o name env (eval o env)
      standAt p2.atName
      let (f, first) ← holding [ov] (getMethod ov name (do return (← importBound o env).getD true))
      callWith p3 f first (backTo p3 (starEach [.Constant (.str txt) j pc] env)) []) := by
  rw [arm_eval_Call]
  have hf : methodCallForm 1 (backTo p3 (starEach [.Constant (.str txt) j pc] env)) (backToKw p3 (keywordEach [] env)) = true := rfl
  unfold methodCall calleeOf methodCallPos
  simp only [List.length_cons, List.length_nil, Nat.zero_add, Nat.add_zero, hf, hline, Bool.not_true, Bool.false_or, if_true, pure_bind]
  rfl
theorem call_ownI {X : Cx} {pins : List (Addr × Obj)} {σ : L2.St} {H : Hp} {s : Shared} {C : Addr} {x : Str} {k : Nat} {Q : Value → Shared → Prop} (h : ExcI X.prog X.K X.mg x C) (hr : Room k X.A) (I : Inv X pins σ H s)
    (hq : ∀ (h' : Heap) (tk : Nat) (e t : Addr), (∀ b o, s.heap.get? b = some o → h'.get? b = some o) → s.heap.get? e = none → h'.get? e = some (PySem.W.excRec (.ref C) t none .none .none (.bool false)) → Q (.ref e) { s with heap := h', toks := tk }) :
    wpAny (model X.prog X.w) X.A (call (.ref C) []) Q X.xe s := by
  obtain ⟨nm, N', qn, bs, bm, hdct, sn, sub, ab, col, dd, k0, k1, k2, k3, k5, hC, hT⟩ := PySem.W.excInit_of I.kIn h.q
  obtain ⟨fI, hi⟩ := h.ini
  obtain ⟨cc, cda, st, p2, p3, qual, oc, kV, doc, pm, ct, od, an, osl, ccl, cdd, vs, ccs, file, tf, cl, cld, csl, sh, hfI, hcd, hcda, hvs, hfile, hcc⟩ := hi.ex
  obtain ⟨p0, p1, p4, pc, txt, j, hbody⟩ := sh.body
  obtain ⟨ar, har, hars⟩ := sh.ar
  have hline := sh.line
  have hbind := sh.binds qual kV doc pm an (.ref cda) ct cc
  have hcell := sh.cell
  have hco := sh.co
  have hgen := sh.gen
  have hk := sh.kind
  have hsu := sh.su
  have hcl := sh.cl
  have hse := sh.se
  obtain ⟨hp, gg, dr, tk, os⟩ := s
  have hsz : hp.objs.size ≤ hp.objs.size + 1 := Nat.le_succ _
  have k1' : ∀ b o, hp.get? b = some o → ((hp.push (PySem.W.kdv_tup [])).push (PySem.HandSPX.excO C hp.objs.size)).get? b = some o := fun b o e => Heap.get?_push_of_some _ (Heap.get?_push_of_some _ e)
  have hget : ((hp.push (PySem.W.kdv_tup [])).push (PySem.HandSPX.excO C hp.objs.size)).get? (hp.objs.size + 1) = some (PySem.HandSPX.excO C hp.objs.size) := by heap_get
  refine wpAny_call (PySem.HandSPX.call_own F.excBase_ValueError hT hC (PySem.W.looks_findIn I.kIn hi.i) (fun self => PySem.W.bind_fn I.kIn self hi.ti) (Nat.zero_le _) ?_)
  have above : hp.objs.size ≤ ((hp.push (PySem.W.kdv_tup [])).push (PySem.HandSPX.excO C hp.objs.size)).objs.size := by rw [Heap.size_push, Heap.size_push]; omega
  generalize hh1 : (hp.push (PySem.W.kdv_tup [])).push (PySem.HandSPX.excO C hp.objs.size) = h1 at k1' hget above
  have hnew : hp.get? (hp.objs.size + 1) = none := by
    cases e : hp.get? (hp.objs.size + 1) with
    | none => rfl
    | some o => exact absurd (Heap.lt_size e) (Nat.not_lt.mpr (Nat.le_succ _))
  generalize he0 : hp.objs.size + 1 = e0 at hget hnew
  have kI := I.kIn
  have glob := I.ok.mod.glob.keeps I.bk
  obtain ⟨mb, blt, hmb⟩ := I.ok.mod.blt
  have blt := blt.keeps I.bk
  have KX1 : X.K.In h1 := kI.keeps k1'
  refine ks_codeAny_call_defAt (fd := PySem.W.ksFn "__init__" qual (defArgs st) (defBody st) (defScope st) .none kV doc pm an (.ref cda) ct cc) (body := defBody st) (binds := [("self", .ref e0)])
    (by rw [make_depth]; have := hr.dp; omega) (KX1 _ _ hfI) rfl (I.nolimit.keeps k1') (PySem.W.codeRec_of KX1 hcd) rfl (hbind _ _) hcell ?_ ?_ hco hgen hk
  · intro y hy
    rw [List.mem_singleton.mp hy]
    exact hse
  intro h2 hns2 k2'
  have KX2 : X.K.In h2 := KX1.keeps k2'
  have kk2 : ∀ b o, hp.get? b = some o → h2.get? b = some o := fun b o e => k2' b o (k1' b o e)
  rw [hbody]
  refine ks_wpAt_execs_cons (ks_wpAt_Expr_any (ks_wpAt_MethodCall (pl := (do return (← importBound (.Call (.Name "super" p0) [] [] p1) (callEnv _ _ _)).getD true)) ?_ (sup_eq hline)) (by show ((defScope st).kind == .module && _) = false; rw [hk]; rfl))
  refine ks_wpAt_super_base (f := fI) (cc := cda) (ar := ar) hsu hcl (by decide) rfl (KX2 _ _ hfI) rfl har rfl (KX2 _ _ hcda) rfl hvs hfile h.ps ?_
  refine PySem.W.ks_loadName_global hk hsu (Calls.loadGlobal_builtin (glob.keeps kk2) h.ms (blt.keeps kk2) ((hmb _ (by decide)).trans PyProof.Rows.Boot.«super») ⟨rfl, ?_⟩)
  refine wpAny_loadName_free hk hcl rfl ⟨_, KX2 _ _ hcc, rfl⟩ ?_
  rw [hars]
  refine wpAny_loadName_local hk hse hns2 rfl ?_
  obtain ⟨oD, cdD, hD1, hD2⟩ : ∃ oD cdD, h2.get? C = some oD ∧ oD.data = .cls cdD := ⟨_, _, kk2 _ _ hC, rfl⟩
  refine ks_wpAny_isType_cls hD1 hD2 ⟨rfl, ?_⟩
  refine ks_wpAny_call_super hD1 hD2 (k2' _ _ hget) rfl (fun c z => by cases z) (PySem.W.looks_mroIn KX2 h.mr) (fun h3 hso k3' => ?_)
  have KX3 : X.K.In h3 := KX2.keeps k3'
  have he3 := k3' _ _ (k2' _ _ hget)
  have hC3 := k3' _ _ (kk2 _ _ hC)
  have hsu2 := h.su
  have hne : e0 ≠ C := fun z => absurd (Heap.lt_size hC) (by rw [← z, ← he0]; exact Nat.not_lt.mpr (Nat.le_succ _))
  cases hc : PySem.W.clsIn X.K C with
  | none => unfold PySem.W.ks_superIn at hsu2; rw [hc] at hsu2; cases hsu2
  | some cd =>
    unfold PySem.W.ks_superIn at hsu2
    rw [hc] at hsu2
    have I3 : PySem.W.InstAt h3 e0 (PySem.HandSPX.excO C hp.objs.size) C none := ⟨he3, rfl, rfl, trivial⟩
    refine PySem.W.kxs_getMethod PySem.W.kxs_ValueError hso (PySem.W.looks_opaque KX3 h.op) (l₀ := cd.mro) ?_ rfl KX3 hsu2 (I3.type.andThen (PySem.W.looks_subIn KX3 h.sv)) hne (by decide) ?_
    · exact fun A Q E s k q => wpAny_bind ((PySem.W.looks_clsIn KX3 hc) A _ E s k (wpAny_pure q))
    have kk4 : ∀ b o, h3.get? b = some o → (h3.push (PySem.W.kxs_mw "ValueError.__init__" e0)).get? b = some o := fun b o e => Heap.get?_push_of_some _ e
    have hu : (h3.push (PySem.W.kxs_mw "ValueError.__init__" e0)).get? h3.objs.size = some (PySem.W.kxs_mw "ValueError.__init__" e0) := Heap.get?_push_at rfl rfl
    generalize (h3.push (PySem.W.kxs_mw "ValueError.__init__" e0)) = h4 at kk4 hu ⊢
    refine PySem.W.kxs_callWith (i := "ValueError.__init__") (x := e0) rfl (Calls.evalArgs_plain (Calls.spliced_cons ?_))
    refine Calls.Constant_str (k := j) (pos := pc) (Calls.spliced_nil ⟨hu, ?_⟩)
    have hns4 := (hns2.keeps k3').keeps kk4
    have ltL : h1.objs.size < h3.objs.size := by
      obtain ⟨oL, _, _, hL, _⟩ := hns2.keeps k3'
      exact Heap.lt_size hL
    have neL : e0 ≠ h1.objs.size := Nat.ne_of_lt (Heap.lt_size hget)
    have nou : hp.get? h3.objs.size = none := by
      cases e : hp.get? h3.objs.size with
      | none => rfl
      | some o => exact absurd (Heap.lt_size (k3' _ _ (kk2 _ _ e))) (Nat.lt_irrefl _)
    have Fq : PyProof.Rows.Fr hp h1.objs.size h4 _ := ⟨hns4, fun b o e => kk4 _ _ (k3' _ _ (kk2 _ _ e)), above⟩
    have Nq : PyProof.Rows.News hp h1.objs.size h4 [(e0, PySem.W.excObj C hp.objs.size none .none), (h3.objs.size, PySem.W.kxs_mw "ValueError.__init__" e0)] := fun p hp' => by
      rcases List.mem_cons.mp hp' with rfl | hp'
      · exact ⟨kk4 _ _ he3, neL, hnew⟩
      · rw [List.mem_singleton.mp hp']
        exact ⟨hu, Nat.ne_of_gt ltL, nou⟩
    refine PySem.W.kxs_call (t := hp.objs.size) (dv := none) (c2 := .none) (x := e0) (C := C) Fq kI Nq F.excBase_ValueError h.q (List.mem_cons_of_mem _ (List.mem_singleton_self _)) (.head (fun p hp' => ?_)) (by show 1 ≤ sizeLine; decide) (fun t' h5 F5 N5 _ => ?_)
    · rw [List.mem_singleton.mp hp']
      exact Nat.ne_of_gt (Nat.lt_trans (Heap.lt_size hget) ltL)
    have e5 := (N5 (e0, PySem.W.excObj C t' none .none) (by simp)).1
    show PySem.wpAt _ _ _ (execs [] _) _ _ _
    refine PySem.wpAt_of_wpAny (wpAny_pure ?_)
    refine ⟨rfl, ?_⟩
    have kk5 := F5.keep
    exact hq h5 _ e0 _ kk5 hnew e5
theorem pmk_ownI {X : Cx} {C : Addr} {x : Str} {k : Nat} {p pos : Pos} (h : ExcI X.prog X.K X.mg x C) (hr : Room k X.A) (hg : Gl X x) (hdb : (x == ("__debug__" : Str)) = false := by decide) :
    PMk X (.Call (.Name x p) [] [] pos) (fun _ H Q => Q (.ref C) none H) := by
  intro pins s σ H Q I hq
  refine wpAny_Call_Name_kw (ld_glob I hg h.m ?_ hdb)
  refine PySem.W.callWith_K0 I.kIn h.kp ?_
  show wpAny _ _ (call (.ref C) []) _ _ _
  refine call_ownI h hr I fun h' tk e t k1 hn he => ?_
  exact ⟨e, _, _, s, H, .ref C, none, rfl, I, k1, hn, he, ⟨rfl, rfl⟩, rfl, rfl, I.hok.gone hn, rfl, I.bare, raises_own h.sb h.ty, hq⟩
end HK

set_option Elab.async false
set_option linter.all false
set_option maxRecDepth 100000
set_option maxHeartbeats 4000000
namespace K02
open PySem PySem.Spec PyProof.Rows L2 HK
def topS (i : Nat) : Stmt := PySem.Challenge.pw_snapshelf_k02_paths.main.body.getD i (.Pass ⟨0, 0, 0, 0⟩)
/-! is_name: slots one=0; cells [] -/
abbrev s_is_name : Stmt := topS 7
abbrev n_is_name : List Str := ["one"]
theorem sc_is_name : FnScope n_is_name ["one"] (defScope s_is_name) := ⟨rfl, rfl, rfl, by decide +kernel, rfl, by decide +kernel, by decide +kernel⟩
/-! is_path: slots one=0; cells [] -/
abbrev s_is_path : Stmt := topS 8
abbrev n_is_path : List Str := ["one"]
theorem sc_is_path : FnScope n_is_path ["one"] (defScope s_is_path) := ⟨rfl, rfl, rfl, by decide +kernel, rfl, by decide +kernel, by decide +kernel⟩
/-! written_path: slots path=0; cells [] -/
abbrev s_written_path : Stmt := topS 9
abbrev n_written_path : List Str := ["path"]
theorem sc_written_path : FnScope n_written_path ["path"] (defScope s_written_path) := ⟨rfl, rfl, rfl, by decide +kernel, rfl, by decide +kernel, by decide +kernel⟩
/-! read_path: slots text=0 path=1; cells [] -/
abbrev s_read_path : Stmt := topS 10
abbrev n_read_path : List Str := ["text", "path"]
theorem sc_read_path : FnScope n_read_path ["text"] (defScope s_read_path) := ⟨rfl, rfl, rfl, by decide +kernel, rfl, by decide +kernel, by decide +kernel⟩
/-! _law_mixed: slots _law_cell=0 _law_k=1 _law_number=2; cells [] -/
abbrev s_l_mixed : Stmt := topS 12
abbrev n_l_mixed : List Str := ["_law_cell", "_law_k", "_law_number"]
theorem sc_l_mixed : FnScope n_l_mixed ["_law_cell", "_law_k"] (defScope s_l_mixed) := ⟨rfl, rfl, rfl, by decide +kernel, rfl, by decide +kernel, by decide +kernel⟩
/-! _law_draws: slots _law_script=0 _law_drawn=1 _law_k=2 _law_cell=3 _law_j=4; cells [] -/
abbrev s_l_draws : Stmt := topS 13
abbrev n_l_draws : List Str := ["_law_script", "_law_drawn", "_law_k", "_law_cell", "_law_j"]
theorem sc_l_draws : FnScope n_l_draws ["_law_script"] (defScope s_l_draws) := ⟨rfl, rfl, rfl, by decide +kernel, rfl, by decide +kernel, by decide +kernel⟩
/-! _law_next: slots _law_drawn=0; cells [] -/
abbrev s_l_next : Stmt := topS 14
abbrev n_l_next : List Str := ["_law_drawn"]
theorem sc_l_next : FnScope n_l_next ["_law_drawn"] (defScope s_l_next) := ⟨rfl, rfl, rfl, by decide +kernel, rfl, by decide +kernel, by decide +kernel⟩
/-! _law_name: slots _law_number=0 _law_menu=1; cells [] -/
abbrev s_l_name : Stmt := topS 15
abbrev n_l_name : List Str := ["_law_number", "_law_menu"]
theorem sc_l_name : FnScope n_l_name ["_law_number"] (defScope s_l_name) := ⟨rfl, rfl, rfl, by decide +kernel, rfl, by decide +kernel, by decide +kernel⟩
/-! _law_long_path: slots _law_drawn=0 _law_number=1 _law_k=2; cells ['_law_drawn'] -/
abbrev s_l_long_path : Stmt := topS 16
abbrev n_l_long_path : List Str := ["_law_drawn", "_law_number", "_law_k"]
theorem sc_l_long_path : FnScope n_l_long_path ["_law_drawn"] (defScope s_l_long_path) := ⟨rfl, rfl, rfl, by decide +kernel, rfl, by decide +kernel, by decide +kernel⟩
/-! _law_refused: slots _law_one=0; cells [] -/
abbrev s_l_refused : Stmt := topS 17
abbrev n_l_refused : List Str := ["_law_one"]
theorem sc_l_refused : FnScope n_l_refused ["_law_one"] (defScope s_l_refused) := ⟨rfl, rfl, rfl, by decide +kernel, rfl, by decide +kernel, by decide +kernel⟩
/-! _law_text: slots _law_path=0 _law_text_here=1 _law_name_here=2; cells [] -/
abbrev s_l_text : Stmt := topS 18
abbrev n_l_text : List Str := ["_law_path", "_law_text_here", "_law_name_here"]
theorem sc_l_text : FnScope n_l_text ["_law_path"] (defScope s_l_text) := ⟨rfl, rfl, rfl, by decide +kernel, rfl, by decide +kernel, by decide +kernel⟩
/-! law: slots _law_script=0 _law_drawn=1 _law_path=2 _law_text_here=3 _law_found=4 _law_six=5 _law_bad=6 _law_name_here=7 _law_one=8; cells [] -/
abbrev s_law : Stmt := topS 19
abbrev n_law : List Str := ["_law_script", "_law_drawn", "_law_path", "_law_text_here", "_law_found", "_law_six", "_law_bad", "_law_name_here", "_law_one"]
theorem sc_law : FnScope n_law ["_law_script"] (defScope s_law) := ⟨rfl, rfl, rfl, by decide +kernel, rfl, by decide +kernel, by decide +kernel⟩
/-! __init__: slots self=0; cells [] -/
abbrev s_NoName_init : Stmt := inClass (topS 2) 0
abbrev n_NoName_init : List Str := ["self"]
theorem sh_NoName : ∃ p2 p3, SupSh s_NoName_init p2 p3 := ⟨_, _, ⟨⟨_, _, _, _, _, _, rfl⟩, rfl, fun _ _ _ _ _ _ _ _ _ _ => .of_eq rfl, ⟨_, rfl, rfl⟩, by decide +kernel, rfl, rfl, rfl, rfl, rfl, rfl⟩⟩
def letters : Str := "abcdefghijklmnopqrstuvwxyz"
structure Txt (K : PySem.W.Frag) (mg : Str → Option Value) : Prop where
  b_abs : mg "abs" = none
  b_all : mg "all" = none
  b_isinstance : mg "isinstance" = none
  b_len : mg "len" = none
  b_list : mg "list" = none
  b_min : mg "min" = none
  b_range : mg "range" = none
  b_str : mg "str" = none
  b_tuple : mg "tuple" = none
  m_LETTERS : GloE mg "LETTERS" (.str letters)
  m_LONGEST_NAME : GloE mg "LONGEST_NAME" (.int 8)
  m_LONGEST_PATH : GloE mg "LONGEST_PATH" (.int 6)
section
variable {P : Program} {w : World} {K : PySem.W.Frag} {mg : Str → Option Value} {base : Heap} {f : Addr} {cd : Value}
/-! ### draws: whole numbers from 0 on, below 2147483629 -/
def Rg (x : Int) : Prop := 0 ≤ x ∧ x < 2147483629
structure Dr (ds : List Int) : Prop where
  len : ds.length ≤ 2000
  rg : ∀ x ∈ ds, Rg x
theorem Dr.snoc {ds : List Int} {x : Int} (h : ∀ x ∈ ds, Rg x) (hx : Rg x) : ∀ y ∈ ds ++ [x], Rg y := fun y hy => by
  rcases List.mem_append.mp hy with h1 | h1
  · exact h y h1
  · rw [List.mem_singleton.mp h1]
    exact hx
theorem rg_mod (x : Int) : Rg (x % 2147483629) := ⟨Int.emod_nonneg _ (by decide), Int.emod_lt_of_pos _ (by decide)⟩
theorem map_snoc (ds : List Int) (x : Int) : (ds ++ [x]).map V.int = ds.map V.int ++ [.int x] := by rw [List.map_append] <;> rfl
/-- _law_mixed: any number in the range -/
def spMixed : Sp := fun vs H Q _ => ∃ c k : Int, vs = [.int c, .int k] ∧ -1000 ≤ k ∧ k ≤ 1000 ∧ ∀ m, Rg m → Q (.int m) H
theorem ok_l_mixed (F : FnAt K mg "_law_mixed" s_l_mixed ["_law_cell", "_law_k"] f cd) : CalE P w K mg base CX0 1 "_law_mixed" spMixed := by
  refine F.cal sc_l_mixed (fun vs H Q E h => ?_) (fun A outer s H vs Q E hr h => ?_)
  · obtain ⟨c, k, rfl, _⟩ := h
    rfl
  · obtain ⟨c, k, rfl, k1, k2, q⟩ := h
    refine ⟨_, (pss_cons (ps_set (i := 2) sc_l_mixed.nd rfl (.inl rfl) (pe_op op_mod (pe_op op_add (pe_op op_add (pe_op op_mul (pe_op op_mod (pv 0) pe_int) pe_int) (pe_op op_mul (pe_op op_mul pe_int (pv 1)) (pv 1))) pe_int) pe_int))
      (pss_one (ps_ret (pe_op op_mod (pe_op op_mul (pv 2) (pv 2)) pe_int)))), ?_⟩
    have h1 : (0:Int) < 2147483647 := by decide
    have a1 := Int.emod_nonneg c (b := 2147483647) (by decide)
    have a2 := Int.emod_lt_of_pos c (b := 2147483647) (by decide)
    refine ⟨_, rfl, _, _, rfl, rfl, h1, _, _, rfl, rfl, .inr ⟨by decide, by decide⟩, _, rfl, _, _, rfl, rfl, .inl ⟨by decide, by decide⟩, _, rfl, _, _, rfl, rfl, .inr ⟨by omega, by omega⟩, _, _, rfl, rfl, _, _, rfl, rfl, _, _, rfl, rfl, h1, ?_⟩
    generalize hz : (c % 2147483647 * 48271 + 7919 * k * k + 104729) = z
    have b1 := Int.emod_nonneg z (b := 2147483647) (by decide)
    have b2 := Int.emod_lt_of_pos z (b := 2147483647) (by decide)
    refine ⟨_, rfl, _, rfl, _, _, rfl, rfl, .inl ⟨by omega, by omega⟩, _, _, rfl, rfl, (by show (0:Int) < 2147483629; decide), ?_⟩
    exact q _ (rg_mod _)
/-- _law_draws: a new list of numbers in the range -/
def spDraws (K : PySem.W.Frag) (tb : List Addr) : Sp := fun vs H Q _ => ∃ (a : Addr) (ns : List Int), vs = [.ref a] ∧ SqL K H a (ns.map V.int) ∧ ns.length ≤ 63 ∧ Tabs tb H ∧
  ∀ H' d ds, Ext tb [] H H' → H d = none → Dr ds → H' d = some (.lst (ds.map V.int)) → Q (.ref d) H'
theorem ok_l_draws {tb : List Addr} (T : Txt K mg) (F : FnAt K mg "_law_draws" s_l_draws ["_law_script"] f cd) (C_l_mixed : CalE P w K mg base CX0 1 "_law_mixed" spMixed) : CalE P w K mg base CX0 2 "_law_draws" (spDraws K tb) := by
  refine F.cal sc_l_draws (fun vs H Q E h => ?_) (fun A outer s H vs Q E hr h => ?_)
  · obtain ⟨a, ns, rfl, _⟩ := h
    rfl
  · obtain ⟨a, ns, rfl, hS, hl, hT, q⟩ := h
    refine ⟨_, (pss_cons (ps_set (i := 1) sc_l_draws.nd rfl (.inl rfl) (pe_lst pa_nil))
      (pss_cons (ps_for PassesOwn.never rfl (pi_range1 (by rfl) T.b_range (pa_cons (pe_callB (call_min2 rfl) (by rfl) T.b_min (by decide +kernel) (pa_cons (pe_callB (q_len (K := K) rfl) (by rfl) T.b_len PySem.boot_len (pa_cons (pv 0) pa_nil)) (pa_cons pe_int pa_nil))) pa_nil)) (pg_name (i := 2) sc_l_draws.nd rfl (.inl rfl)) (pss_cons (ps_set (i := 3) sc_l_draws.nd rfl (.inl rfl) (pe_callB call_abs (by rfl) T.b_abs (by decide +kernel) (pa_cons (pe_ix (q_ixL (K := K) rfl) (pv 0) (pv 2) (fun _ _ => rfl)) pa_nil)))
      (C8.pss_cut (ps_if (pt_cmpR op_lt (pv 3) (pe_op op_pow pe_int pe_int) (nomark _)) (pss_one (ps_for PassesOwn.never rfl (pi_range1 (by rfl) T.b_range (pa_cons pe_int pa_nil)) (pg_name (i := 4) sc_l_draws.nd rfl (.inl rfl)) (pss_one (ps_expr (q_bm (K := K) rfl PySem.F.plainAttrs_list PySem.F.slot_list_append PySem.F.type_list_append mt_append (pv 1) (pa_cons (pe_cal C_l_mixed (hr.mono (by first | decide | omega)) (by rfl) (pa_cons (pe_cal C_l_mixed (hr.mono (by first | decide | omega)) (by rfl) (pa_cons (pv 3) (pa_cons (pe_op op_add (pe_op op_mul pe_int (pv 4)) pe_int) pa_nil))) (pa_cons (pe_op op_add (pe_op op_add (pv 4) (pv 2)) pe_int) pa_nil))) pa_nil)))))) pss_nil)
      (C8.pss_cut (ps_while PassesOwn.never (PW.pt (pw_and (pt_cmpR op_ge (pv 3) (pe_op op_pow pe_int pe_int) (nomark _)) (pw_and1 (pt_cmpR op_lt (pe_callB (q_len (K := K) rfl) (by rfl) T.b_len PySem.boot_len (pa_cons (pv 1) pa_nil)) pe_int (nomark _))))) (pss_cons (ps_expr (q_bm (K := K) rfl PySem.F.plainAttrs_list PySem.F.slot_list_append PySem.F.type_list_append mt_append (pv 1) (pa_cons (pe_op op_mod (pv 3) pe_int) pa_nil)))
      (pss_one (ps_set (i := 3) sc_l_draws.nd rfl (.inl rfl) (pe_op op_fdivW (pv 3) pe_int)))))
      (pss_one (ps_if (pt_cmpR op_ge (pv 3) pe_int (nomark _)) (pss_one (ps_expr (q_bm (K := K) rfl PySem.F.plainAttrs_list PySem.F.slot_list_append PySem.F.type_list_append mt_append (pv 1) (pa_cons (pe_op op_mod (pv 3) pe_int) pa_nil)))) pss_nil))))))
      (pss_one (ps_ret (pv 1))))), ?_⟩
    have p18 : (10:Int) ^ (18:Int).toNat = 1000000000000000000 := by decide
    -- drawn = []
    refine ⟨by show 0 ≤ sizeLine; decide, fun d nd => ?_⟩
    have e0 : Ext tb [] H (upd H d (.lst [])) := Ext.new hT nd
    -- for k in range(min(len(script), 63))
    refine ⟨_, rfl, _, _, rfl, .inl ⟨_, e0.sqL hT hS (by simp), rfl⟩, _, _, rfl, ?_⟩
    have hn : (if (63:Int) < ((ns.map V.int).length : Int) then (63:Int) else ((ns.map V.int).length : Int)) = (ns.length : Int) := by
      rw [List.length_map]
      split <;> omega
    rw [hn]
    refine ⟨_, rfl, by omega, by omega, for_range (lo := 0) (n := (ns.length : Int).toNat) (fun i σ H1 => ∃ (ds : List Int) (y2 y3 y4 : Option V), σ = [some (.ref a), some (.ref d), y2, y3, y4] ∧ Ext tb [] H H1 ∧ H1 d = some (.lst (ds.map V.int)) ∧ (∀ x ∈ ds, Rg x) ∧ ds.length ≤ 900 + 13 * i)
      ⟨[], none, none, none, rfl, e0, upd_same, fun x hx => (by cases hx), by simp⟩ ?_ ?_⟩
    · rintro i σ H1 hi ⟨ds, y2, y3, y4, rfl, ex, hd, hrg, hlen⟩
      have hi' : i < ns.length := by omega
      have g1 : (ns.map V.int)[i]? = some (.int ns[i]) := by rw [List.getElem?_map, List.getElem?_eq_getElem hi'] <;> rfl
      generalize hz : ns[i] = z at g1
      -- cell = abs(script[k])
      refine ⟨_, rfl, _, rfl, a, _, (i : Int), .int z, rfl, by simp, ex.sqL hT hS (by simp), atI_nat g1, _, rfl, ?_⟩
      generalize hc : (if z < 0 then -z else z) = c
      have hc0 : 0 ≤ c := by rw [← hc]; split <;> omega
      -- if cell < 10 ** 18
      refine ⟨fun σ' H2 => ∃ (ds1 : List Int) (y4 : Option V), σ' = [some (.ref a), some (.ref d), some (.int (0 + (i : Int))), some (.int c), y4] ∧ Ext tb [] H H2 ∧ H2 d = some (.lst (ds1.map V.int)) ∧ (∀ x ∈ ds1, Rg x) ∧ (ds1.length ≤ 900 + 13 * i ∨ (ds1.length ≤ 900 + 13 * i + 12 ∧ c < 1000000000000000000)), ?_, ?_⟩
      · refine ⟨_, rfl, _, _, rfl, rfl, ⟨by decide, by decide, by decide⟩, _, _, rfl, rfl, _, rfl, ite2 (fun e => ?_) (fun e => ?_)⟩
        · have hlt : c < 1000000000000000000 := of_decide_eq_true e
          refine ⟨_, rfl, by decide, by decide, for_range (lo := 0) (n := (12 : Int).toNat) (fun j σ H2 => ∃ (ds1 : List Int) (y4 : Option V), σ = [some (.ref a), some (.ref d), some (.int (0 + (i : Int))), some (.int c), y4] ∧ Ext tb [] H H2 ∧ H2 d = some (.lst (ds1.map V.int)) ∧ (∀ x ∈ ds1, Rg x) ∧ ds1.length ≤ 900 + 13 * i + j)
            ⟨ds, y4, rfl, ex, hd, hrg, by omega⟩ ?_ ?_⟩
          · rintro j σ H2 hj ⟨ds1, y4, rfl, ex2, hd2, hrg2, hlen2⟩
            have hj' : j < 12 := hj
            refine ⟨_, rfl, .inl ⟨rfl, _, SqL.of hd2⟩, _, rfl, _, rfl, _, _, rfl, rfl, .inl ⟨by decide, by decide⟩, _, _, rfl, rfl, _, _, rfl, by omega, by omega, fun m hm => ?_⟩
            refine ⟨_, rfl, _, rfl, _, _, rfl, rfl, _, _, rfl, rfl, _, _, rfl, by omega, by omega, fun m2 hm2 => ?_⟩
            refine ⟨d, _, _, rfl, rfl, hd2, ?_, ?_⟩
            · rw [List.length_map]
              exact Nat.lt_of_le_of_lt hlen2 (Nat.lt_of_lt_of_le (show 900 + 13 * i + j < 100000 by omega) (by decide))
            · refine ⟨ds1 ++ [m2], some (.int (0 + (j : Int))), rfl, Ext.own hT ex2 nd, ?_, Dr.snoc hrg2 hm2, by rw [List.length_append]; show ds1.length + 1 ≤ _; omega⟩
              rw [upd_same, map_snoc]
          · rintro σ H2 ⟨ds1, y4, rfl, ex2, hd2, hrg2, hlen2⟩
            exact ⟨ds1, y4, rfl, ex2, hd2, hrg2, .inr ⟨hlen2, hlt⟩⟩
        · exact ⟨ds, y4, rfl, ex, hd, hrg, .inl hlen⟩
      · rintro σ' H2 ⟨ds1, y4, rfl, ex2, hd2, hrg2, hlen2⟩
        -- the while
        refine ⟨fun σ' H2 => ∃ (ds1 : List Int) (c2 : Int) (y4 : Option V), σ' = [some (.ref a), some (.ref d), some (.int (0 + (i : Int))), some (.int c2), y4] ∧ Ext tb [] H H2 ∧ H2 d = some (.lst (ds1.map V.int)) ∧ (∀ x ∈ ds1, Rg x) ∧ ds1.length ≤ 900 + 13 * i + 12, ?_, ?_⟩
        · refine ⟨fun m σ' H2 => ∃ (ds1 : List Int) (c2 : Int), m = c2.toNat ∧ 0 ≤ c2 ∧ σ' = [some (.ref a), some (.ref d), some (.int (0 + (i : Int))), some (.int c2), y4] ∧ Ext tb [] H H2 ∧ H2 d = some (.lst (ds1.map V.int)) ∧ (∀ x ∈ ds1, Rg x) ∧ (ds1.length ≤ 900 + 13 * i ∨ (ds1.length ≤ 900 + 13 * i + 12 ∧ c2 < 1000000000000000000)), ⟨c.toNat, ds1, c, rfl, hc0, rfl, ex2, hd2, hrg2, hlen2⟩, ?_⟩
          rintro m σ' H3 ⟨ds2, c2, rfl, hc2, rfl, ex3, hd3, hrg3, hlen3⟩
          refine ⟨_, rfl, _, _, rfl, rfl, ⟨by decide, by decide, by decide⟩, _, _, rfl, rfl, _, rfl, ite2 (fun e => ?_) (fun e => ?_)⟩
          · have hge : 1000000000000000000 ≤ c2 := of_decide_eq_true e
            refine ⟨_, rfl, _, _, rfl, .inl ⟨_, SqL.of hd3, rfl⟩, _, _, rfl, rfl, _, rfl, ite2 (fun e2 => ?_) (fun e2 => ?_)⟩
            · have h900 : ((ds2.map V.int).length : Int) < 900 := of_decide_eq_true e2
              rw [List.length_map] at h900
              refine ⟨fun σ' H' => ∃ ds3 : List Int, σ' = [some (.ref a), some (.ref d), some (.int (0 + (i : Int))), some (.int (c2 / 2147483629)), y4] ∧ Ext tb [] H H' ∧ H' d = some (.lst (ds3.map V.int)) ∧ (∀ x ∈ ds3, Rg x) ∧ ds3.length ≤ 900 + 13 * i, ?_, ?_⟩
              · rintro σ' H' ⟨ds3, rfl, ex4, hd4, hrg4, hlen4⟩
                have h1 : c2 / 2147483629 < c2 := Int.ediv_lt_self_of_pos_of_ne_one (by omega) (by decide)
                have h2 : 0 ≤ c2 / 2147483629 := Int.ediv_nonneg hc2 (by decide)
                exact ⟨_, by omega, ds3, _, rfl, h2, rfl, ex4, hd4, hrg4, .inl hlen4⟩
              · refine ⟨_, rfl, .inl ⟨rfl, _, SqL.of hd3⟩, _, rfl, _, _, rfl, rfl, (by show (0:Int) < 2147483629; decide), d, _, _, rfl, rfl, hd3, ?_, ?_⟩
                · rw [List.length_map]
                  exact Nat.lt_of_lt_of_le (show ds2.length < 100000 by omega) (by decide)
                · refine ⟨_, rfl, _, _, rfl, rfl, wide_div (b := 31) (by decide) (by decide) (by decide) (by decide), ?_⟩
                  refine ⟨ds2 ++ [c2 % 2147483629], rfl, Ext.own hT ex3 nd, ?_, Dr.snoc hrg3 (rg_mod _), by rw [List.length_append]; show ds2.length + 1 ≤ _; omega⟩
                  rw [upd_same, map_snoc]
            · exact ⟨ds2, c2, y4, rfl, ex3, hd3, hrg3, by omega⟩
          · refine iteF ?_
            exact ⟨ds2, c2, y4, rfl, ex3, hd3, hrg3, by omega⟩
        · rintro σ' H3 ⟨ds2, c2, y4, rfl, ex3, hd3, hrg3, hlen3⟩
          -- if cell >= 2147483629
          refine ⟨_, rfl, _, _, rfl, rfl, _, rfl, ite2 (fun e => ?_) (fun e => ?_)⟩
          · refine ⟨_, rfl, .inl ⟨rfl, _, SqL.of hd3⟩, _, rfl, _, _, rfl, rfl, (by show (0:Int) < 2147483629; decide), d, _, _, rfl, rfl, hd3, ?_, ?_⟩
            · rw [List.length_map]
              exact Nat.lt_of_lt_of_le (show ds2.length < 100000 by omega) (by decide)
            · refine ⟨ds2 ++ [c2 % 2147483629], _, _, _, rfl, Ext.own hT ex3 nd, ?_, Dr.snoc hrg3 (rg_mod _), by rw [List.length_append]; show ds2.length + 1 ≤ _; omega⟩
              rw [upd_same, map_snoc]
          · exact ⟨ds2, _, _, _, rfl, ex3, hd3, hrg3, by omega⟩
    · rintro σ H1 ⟨ds, y2, y3, y4, rfl, ex, hd, hrg, hlen⟩
      refine ⟨_, rfl, q _ d ds ex nd ⟨by omega, hrg⟩ hd⟩
/-- _law_next: a number in the range; the list of draws is another one -/
def spNext (tb : List Addr) : Sp := fun vs H Q _ => ∃ (d : Addr) (ds : List Int), vs = [.ref d] ∧ H d = some (.lst (ds.map V.int)) ∧ Dr ds ∧ Tabs tb H ∧
  ∀ x r H', Rg x → Dr r → Ext tb [d] H H' → H' d = some (.lst (r.map V.int)) → Q (.int x) H'
theorem ok_l_next {tb : List Addr} (F : FnAt K mg "_law_next" s_l_next ["_law_drawn"] f cd) : CalE P w K mg base CX0 1 "_law_next" (spNext tb) := by
  refine F.cal sc_l_next (fun vs H Q E h => ?_) (fun A outer s H vs Q E hr h => ?_)
  · obtain ⟨d, ds, rfl, _⟩ := h
    rfl
  · obtain ⟨d, ds, rfl, hd, hD, hT, q⟩ := h
    refine ⟨_, (pss_cons (ps_if (pt_cmpR (q_eqD (K := K) rfl hr.units) (pv 0) (pe_lst pa_nil) (nomark _)) (pss_one (ps_ret pe_int)) pss_nil)
      (pss_one (ps_ret (q_bm (K := K) rfl PySem.F.plainAttrs_list PySem.F.slot_list_pop PySem.F.type_list_pop mt_popAt (pv 0) (pa_cons pe_int pa_nil))))), ?_⟩
    refine ⟨_, rfl, by show 0 ≤ sizeLine; decide, fun p np => ?_⟩
    have e0 : Ext tb [d] H (upd H p (.lst [])) := Ext.new hT np
    have hd1 : (upd H p (.lst [])) d = some (.lst (ds.map V.int)) := by rw [upd_ne (ne_of_none hd np)]; exact hd
    cases ds with
    | nil =>
      refine ⟨.list [], .list [], .lst (SqL.of hd1) .nil, .lst (SqL.of upd_same) .nil, rfl, rfl, _, rfl, ?_⟩
      refine iteT ?_
      exact q 0 [] _ ⟨by decide, by decide⟩ ⟨by simp, fun x hx => by cases hx⟩ e0 hd1
    | cons x r =>
      refine ⟨.list ((x :: r).map PyData.int), .list [], .lst (SqL.of hd1) (dp_ints _), .lst (SqL.of upd_same) .nil, sh_ints _, rfl, _, rfl, ?_⟩
      refine iteF ?_
      refine ⟨_, rfl, .inl ⟨rfl, _, SqL.of hd1⟩, d, _, 0, 0, .int x, rfl, rfl, hd1, by decide, by decide, ?_, rfl, ?_⟩
      · simp [seqIndex?]
      · exact q x r _ (hD.rg x (List.mem_cons_self ..)) ⟨by have := hD.len; simp at this; omega, fun y hy => hD.rg y (List.mem_cons_of_mem _ hy)⟩ (e0.trans (Ext.mut (by simp) (ne_tab hT hd fun ps z => by cases z))) upd_same

end
end K02

set_option Elab.async false
set_option linter.all false
set_option maxRecDepth 100000
set_option maxHeartbeats 4000000
namespace K02
open PySem PySem.Spec PyProof.Rows L2 HK
/-! ### names and paths -/
def isLet (c : Nat) : Bool := decide (c ∈ letters.cps.toList)
def isNm (s : Str) : Bool := decide ((1:Int) ≤ (s.length : Int)) && decide ((s.length : Int) ≤ 8) && s.cps.toList.all isLet
def slash : Str := "/"
def partsOf (s : Str) : List Str := if s.length = 0 then [] else Txt.split s slash
def goodP (ps : List Str) : Bool := decide ((ps.length : Int) ≤ 6) && ps.all isNm
/-- what read_path refuses -/
def Bad (K : PySem.W.Frag) (H : Hp) (v : V) : Prop := (∃ t, TyX K H v (.type t) ∧ kitB t "str" = some false) ∨ ∃ s, v = .str s ∧ s.length ≤ 1000 ∧ goodP (partsOf s) = false
def menu : List Str := ["a", "b", "z", "ab", "ba", "zz", "abc", "hgfedcba", "c", "d"]
section
variable {P : Program} {w : World} {K : PySem.W.Frag} {mg : Str → Option Value} {base : Heap} {f : Addr} {cd : Value} {tb : List Addr}
def spIsName (tb : List Addr) : Sp := fun vs H Q _ => ∃ s : Str, vs = [.str s] ∧ s.length ≤ 1000 ∧ Tabs tb H ∧ ∀ H', Ext tb [] H H' → Q (.bl (isNm s)) H'
theorem ok_is_name {c pt : Addr} (T : Txt K mg) (TB : LamX.TabB base mg c pt) (hpt : pt ∈ tb) (F : FnAt K mg "is_name" s_is_name ["one"] f (.ref c)) : CalE P w K mg base CX0 1 "is_name" (spIsName tb) := by
  refine F.cal sc_is_name (fun vs H Q E h => ?_) (fun A outer s H vs Q E hr h => ?_)
  · obtain ⟨s, rfl, _⟩ := h
    rfl
  · obtain ⟨z, rfl, hl, hT, q⟩ := h
    refine ⟨_, (pss_cons (ps_if (PW.pt (pw_or (pt_not (pt_val (pe_callB (q_isi (K := K) rfl) (by rfl) T.b_isinstance (by decide +kernel) (pa_cons (pv 0) (pa_cons (pe_bltn (v := .ty "str") (by rfl) T.b_str (by decide +kernel) rfl) pa_nil))))) (pw_or1 (pt_not (pt_chain op_le op_le pe_int (pe_callB (q_len (K := K) rfl) (by rfl) T.b_len PySem.boot_len (pa_cons (pv 0) pa_nil)) (pe_glo (by rfl) T.m_LONGEST_NAME)))))) (pss_one (ps_ret pe_bl)) pss_nil)
      (pss_one (ps_ret (GX.pe_allG (N := ["sign"]) hr (by rfl) T.b_all TB rfl ⟨rfl, rfl, by decide +kernel, by decide +kernel, by rfl⟩ (pi_str (pv 0)) (fun Xg hX => ⟨by obtain ⟨_, _, _, _, _, _, _, rfl⟩ := hX; exact (pg_name (i := 0) (show (["sign"] : List Str).Nodup by decide) rfl (.inl rfl)), by obtain ⟨_, _, _, _, _, _, _, rfl⟩ := hX; exact (pe_cmpR op_in_sign (pv 0) (pe_glo (by rfl) T.m_LETTERS) (by rfl))⟩))))), ?_⟩
    refine ⟨_, rfl, _, _, .type "str", _, true, rfl, .ty _, .base (.str _), kit_ty (by decide +kernel), true, rfl, iteF ?_⟩
    refine ⟨_, rfl, _, _, rfl, ⟨line_of (by omega), rfl⟩, _, _, rfl, rfl, _, rfl, ite2 (fun e => ?_) (fun e => ?_)⟩
    · refine ⟨_, _, rfl, rfl, _, rfl, ?_⟩
      cases e8 : decide ((z.length : Int) ≤ 8) with
      | false =>
        refine iteT ?_
        have : isNm z = false := by
          unfold isNm
          rw [e8, Bool.and_false, Bool.false_and]
        exact this ▸ q H Ext.refl
      | true =>
        refine iteF ?_
        refine ⟨_, rfl, _, rfl, hT pt hpt, fun H2 hH2 => ?_⟩
        have e2 : Ext tb [] H H2 := Ext.tabbed hH2 hpt
        refine allG_by z.cps.size (GxR.trF isLet z.cps.toList) (fun H3 => Ext tb [] H H3) e2 (fun _ _ => Nat.le_refl _) (fun i _ hi _ => hi) ?_ ?_
        · rintro i H3 x H4 hi ex ⟨rfl, c, hc, rfl⟩ R hR
          refine ⟨_, rfl, c, _, rfl, rfl, ?_⟩
          have : GxR.trF isLet z.cps.toList i = isLet c := GxR.trF_some (by simpa using hc)
          have hR' := hR H4 ex
          rw [this] at hR'
          exact hR'
        · rintro H3 b ex rfl
          rw [GxR.all_signs]
          have : isNm z = z.cps.toList.all isLet := by
            unfold isNm
            rw [e8, e, Bool.true_and, Bool.true_and]
          exact this ▸ q H3 ex
    · refine ⟨false, rfl, ?_⟩
      refine iteT ?_
      have : isNm z = false := by
        unfold isNm
        rw [Bool.eq_false_iff.mpr e, Bool.false_and, Bool.false_and]
      exact this ▸ q H Ext.refl
def spIsPath (K : PySem.W.Frag) (tb : List Addr) : Sp := fun vs H Q _ => ∃ (a : Addr) (ps : List Str), vs = [.ref a] ∧ H a = some (.tup (ps.map V.str)) ∧ (∀ s ∈ ps, s.length ≤ 1000) ∧ Tabs tb H ∧ ∀ H', Ext tb [] H H' → Q (.bl (goodP ps)) H'
theorem ok_is_path {c pt : Addr} (T : Txt K mg) (TB : LamX.TabB base mg c pt) (hpt : pt ∈ tb) (F : FnAt K mg "is_path" s_is_path ["one"] f (.ref c)) (C_is_name : CalE P w K mg base CX0 1 "is_name" (spIsName tb)) : CalE P w K mg base CX0 3 "is_path" (spIsPath K tb) := by
  refine F.cal sc_is_path (fun vs H Q E h => ?_) (fun A outer s H vs Q E hr h => ?_)
  · obtain ⟨a, ps, rfl, _⟩ := h
    rfl
  · obtain ⟨a, ps, rfl, ha, hl, hT, q⟩ := h
    refine ⟨_, (pss_one (ps_ret (pe_and (pe_callB (q_isi (K := K) rfl) (by rfl) T.b_isinstance (by decide +kernel) (pa_cons (pv 0) (pa_cons (pe_bltn (v := .ty "tuple") (by rfl) T.b_tuple (by decide +kernel) rfl) pa_nil))) (pe_and (pe_cmpR op_le (pe_callB (q_len (K := K) rfl) (by rfl) T.b_len PySem.boot_len (pa_cons (pv 0) pa_nil)) (pe_glo (by rfl) T.m_LONGEST_PATH) (nomark _)) (pe_one (GX.pe_allG (N := ["name"]) hr (by rfl) T.b_all TB rfl ⟨rfl, rfl, by decide +kernel, by decide +kernel, by rfl⟩ (q_piT (K := K) rfl (pv 0)) (fun Xg hX => ⟨by obtain ⟨_, _, _, _, _, _, _, rfl⟩ := hX; exact (pg_name (i := 0) (show (["name"] : List Str).Nodup by decide) rfl (.inl rfl)), by have hrg := hX.room hr; obtain ⟨_, _, _, _, _, _, _, rfl⟩ := hX; exact (pe_cal C_is_name (hrg.mono (by first | decide | omega)) (by rfl) (pa_cons (pv 0) pa_nil))⟩))))))), ?_⟩
    refine ⟨_, rfl, _, _, .type "tuple", _, true, rfl, .ty _, .base (.tup ha), kit_ty (by decide +kernel), true, rfl, iteT ?_⟩
    refine ⟨_, rfl, _, _, rfl, .inr ⟨_, SqT.of ha, rfl⟩, _, _, rfl, rfl, _, rfl, ?_⟩
    rw [List.length_map]
    cases e6 : decide ((ps.length : Int) ≤ 6) with
    | false =>
      refine iteF ?_
      have : goodP ps = false := by
        unfold goodP
        rw [e6, Bool.false_and]
      exact this ▸ q H Ext.refl
    | true =>
      refine iteT ?_
      refine ⟨_, rfl, a, rfl, ⟨_, SqT.of ha⟩, hT pt hpt, fun H2 hH2 => ?_⟩
      have e2 : Ext tb [] H H2 := Ext.tabbed hH2 hpt
      refine allG_by ps.length (trV isNm ps) (fun H3 => Ext tb [] H H3) e2 (fun H3 ex => ⟨_, ex.sqT hT (SqT.of ha) (by simp), by rw [List.length_map]; exact Nat.le_refl _⟩) (fun i H3 hi ex => ⟨_, _, ex.sqT hT (SqT.of ha) (by simp), by rw [List.getElem?_map, List.getElem?_eq_getElem hi] <;> rfl⟩) ?_ ?_
      · rintro i H3 x H4 hi ex ⟨rfl, hy⟩ R hR
        have hx := hy _ (ex.sqT hT (SqT.of ha) (by simp))
        rw [List.getElem?_map, List.getElem?_eq_getElem hi] at hx
        have hx' : x = .str ps[i] := (Option.some.inj hx).symm
        subst hx'
        refine ⟨_, rfl, ps[i], rfl, hl _ (List.getElem_mem hi), ex.tabs hT, fun H5 ex5 => ?_⟩
        have hR' := hR H5 (ex.trans ex5)
        rw [trV_some (List.getElem?_eq_getElem hi)] at hR'
        exact hR'
      · rintro H3 b ex rfl
        rw [all_trV]
        have : goodP ps = ps.all isNm := by
          unfold goodP
          rw [e6, Bool.true_and]
        exact this ▸ q H3 ex
def spWritten (K : PySem.W.Frag) : Sp := fun vs H Q _ => ∃ (a : Addr) (ps : List Str), vs = [.ref a] ∧ SqT K H a (ps.map V.str) ∧ ps.length ≤ 10 ∧ (∀ s ∈ ps, s.length ≤ 1000) ∧ Q (.str (Txt.join slash ps)) H
theorem sum_le : ∀ (ps : List Str) (n : Nat), (∀ s ∈ ps, s.length ≤ n) → (ps.map (·.length)).sum ≤ ps.length * n
  | [], _, _ => by simp
  | s :: r, n, h => by
    have ih := sum_le r n fun x hx => h x (List.mem_cons_of_mem _ hx)
    have h1 := h s (List.mem_cons_self ..)
    rw [List.map_cons, List.sum_cons, List.length_cons, Nat.succ_mul]
    omega
theorem ok_written_path (F : FnAt K mg "written_path" s_written_path ["path"] f cd) : CalE P w K mg base CX0 1 "written_path" (spWritten K) := by
  refine F.cal sc_written_path (fun vs H Q E h => ?_) (fun A outer s H vs Q E hr h => ?_)
  · obtain ⟨a, ps, rfl, _⟩ := h
    rfl
  · obtain ⟨a, ps, rfl, ha, hl, hl2, q⟩ := h
    refine ⟨_, (pss_one (ps_ret (q_join (K := K) rfl pe_str (pv 0)))), ?_⟩
    refine ⟨⟨_, rfl⟩, _, rfl, _, a, ps, rfl, rfl, .inr ha, ?_, q⟩
    have := sum_le ps 1000 hl2
    have h1 : (Str.ofString "/").length = 1 := by decide +kernel
    show (ps.map (·.length)).sum + ps.length * (Str.ofString "/").length ≤ 16777216
    rw [h1]
    have : ps.length * 1000 ≤ 10 * 1000 := Nat.mul_le_mul_right _ hl
    omega
/-- read_path -/
def spRead (K : PySem.W.Frag) (tb : List Addr) (C : Addr) : Sp := fun vs H Q E => ∃ v, vs = [v] ∧ Tabs tb H ∧ ((Bad K H v ∧ ∀ H', Ext tb [] H H' → E (.ref C) none H') ∨
  ∃ s, v = .str s ∧ s.length ≤ 1000 ∧ goodP (partsOf s) = true ∧ ∀ H' p, Ext tb [] H H' → H p = none → H' p = some (.tup ((partsOf s).map V.str)) → Q (.ref p) H')
theorem spl_mem (S : List Nat) : ∀ (l : List Nat) (k : Nat) (acc : List Nat), ∀ x ∈ TL.spl S k acc l, x.length ≤ acc.length + l.length
  | [], k, acc, x, hx => by
    rw [TL.spl_nil] at hx
    rw [List.mem_singleton.mp hx]
    omega
  | c :: r, 0, acc, x, hx => by
    unfold TL.spl at hx
    split at hx
    · rcases List.mem_cons.mp hx with e | e
      · rw [e]
        omega
      · have := spl_mem S r _ _ x e
        simp only [List.length_nil, List.length_cons] at this ⊢
        omega
    · have := spl_mem S r _ _ x hx
      simp only [List.length_append, List.length_cons, List.length_nil] at this ⊢
      omega
  | c :: r, k + 1, acc, x, hx => by
    have := spl_mem S r k acc x (by simpa only [TL.spl] using hx)
    rw [List.length_cons]
    omega
theorem slash_tl : TL.tl slash = 47 :: [] := by decide +kernel
theorem slash_ne : TL.tl slash ≠ [] := by rw [slash_tl]; simp
theorem slash_ok : slash.cps.all (· < 256) = true := by decide +kernel
theorem split_len {s : Str} (h : s.length ≤ 1000) : ∀ x ∈ partsOf s, x.length ≤ 1000 := by
  intro x hx
  unfold partsOf at hx
  split at hx
  · cases hx
  · have e := TL.split_spl s slash slash_ne (TL.kind_ok slash_ok)
    have hm : TL.tl x ∈ (Txt.split s slash).map TL.tl := List.mem_map.mpr ⟨x, hx, rfl⟩
    rw [e] at hm
    have := spl_mem _ _ _ _ _ hm
    rw [TL.len_tl] at h ⊢
    simp only [List.length_nil] at this
    omega
theorem ok_read_path {C : Addr} (T : Txt K mg) (x_NoName : ExcI P K mg "NoName" C) (F : FnAt K mg "read_path" s_read_path ["text"] f cd) (C_is_path : CalE P w K mg base CX0 3 "is_path" (spIsPath K tb)) : CalE P w K mg base (L2.CX P w) 4 "read_path" (spRead K tb C) := by
  refine F.calX sc_read_path (fun vs H Q E h => ?_) (fun A outer s H vs Q E hr h => ?_)
  · obtain ⟨v, rfl, _⟩ := h
    rfl
  · obtain ⟨v, rfl, hT, h⟩ := h
    refine ⟨_, (pss_cons (ps_if (pt_not (pt_val (pe_callB (q_isi (K := K) rfl) (by rfl) T.b_isinstance (by decide +kernel) (pa_cons (pv 0) (pa_cons (pe_bltn (v := .ty "str") (by rfl) T.b_str (by decide +kernel) rfl) pa_nil))))) (pss_one (ps_raise rfl (takes_of rfl rfl rfl rfl) (pmk_ownI x_NoName hr (by rfl)))) pss_nil)
      (pss_cons (ps_set (i := 1) sc_read_path.nd rfl (.inl rfl) (pe_ifExp (pt_truth (pv 0) (by intro _; rfl)) (pe_callTy (q_tup (K := K) rfl) (by rfl) T.b_tuple (by decide +kernel) (pa_cons (pe_split (pv 0) pe_str) pa_nil)) (pe_tup pa_nil)))
      (pss_cons (ps_if (pt_not (pt_val (pe_cal C_is_path (hr.mono (by first | decide | omega)) (by rfl) (pa_cons (pv 1) pa_nil)))) (pss_one (ps_raise rfl (takes_of rfl rfl rfl rfl) (pmk_ownI x_NoName hr (by rfl)))) pss_nil)
      (pss_one (ps_ret (pv 1)))))), ?_⟩
    rcases (show (∃ t, TyX K H v (.type t) ∧ kitB t "str" = some false ∧ ∀ H', Ext tb [] H H' → E (.ref C) none H') ∨ ∃ z, v = .str z ∧ z.length ≤ 1000 ∧ (goodP (partsOf z) = false → ∀ H', Ext tb [] H H' → E (.ref C) none H') ∧ (goodP (partsOf z) = true → ∀ H' p, Ext tb [] H H' → H p = none → H' p = some (.tup ((partsOf z).map V.str)) → Q (.ref p) H') from by
      rcases h with ⟨hb, he⟩ | ⟨z, e, hl, hg, q⟩
      · rcases hb with ⟨t, h1, h2⟩ | ⟨z, e, hl, hg⟩
        · exact .inl ⟨t, h1, h2, he⟩
        · exact .inr ⟨z, e, hl, fun _ => he, fun z => by rw [hg] at z; cases z⟩
      · exact .inr ⟨z, e, hl, (fun z => by rw [hg] at z; cases z), fun _ => q⟩) with ⟨t, h1, h2, he⟩ | ⟨z, rfl, hl, hbad, hgood⟩
    · refine ⟨_, rfl, _, _, .type t, _, false, rfl, .ty _, h1, kit_ty h2, false, rfl, ?_⟩
      refine iteT ?_
      exact he H Ext.refl
    · refine ⟨_, rfl, _, _, .type "str", _, true, rfl, .ty _, .base (.str _), kit_ty (by decide +kernel), true, rfl, iteF ?_⟩
      have hlp := split_len hl
      -- behind the path's making
      have fin : ∀ (p : Addr) (H1 : Hp), H p = none → Ext tb [] H H1 → H1 p = some (.tup ((partsOf z).map V.str)) →
          tSeq (tIfS (tNot (tB (tCal (spIsPath K tb) (fun _ => E0) (tCons (tVar 1) tNil)))) (fun _ σ H => (fun (_ : L2.St) H Q => Q (.ref C) none H) σ H fun cls d H' => E cls d H') tNext) (tRet (tVar 1)) { nx := fun _ H' => Q .non H', rt := Q } [some (.str z), some (.ref p)] H1 := by
        intro p H1 np ex hp
        refine ⟨_, rfl, p, partsOf z, rfl, hp, hlp, ex.tabs hT, fun H2 ex2 => ⟨_, rfl, ?_⟩⟩
        cases hg : goodP (partsOf z) with
        | true =>
          refine iteF ?_
          exact ⟨_, rfl, hgood hg H2 p (ex.trans ex2) np (ex2.tup (ex.tabs hT) hp (by simp))⟩
        | false =>
          refine iteT ?_
          exact hbad hg H2 (ex.trans ex2)
      refine ⟨_, rfl, _, ⟨line_of (by omega), rfl⟩, ?_⟩
      by_cases h0 : z.length = 0
      · have e0 : ((z.length : Int) != 0) = false := by rw [h0] <;> rfl
        rw [e0]
        refine iteF ?_
        refine ⟨Nat.zero_le _, fun p np => ?_⟩
        refine fin p _ np (Ext.new hT np) ?_
        rw [upd_same]
        unfold partsOf
        rw [if_pos h0] <;> rfl
      · have e0 : ((z.length : Int) != 0) = true := by
          rw [bne_iff_ne]
          omega
        rw [e0]
        refine iteT ?_
        refine ⟨_, rfl, ⟨_, rfl⟩, _, _, rfl, rfl, (by decide +kernel), Nat.le_trans (Nat.add_le_add_right hl 2) (by decide), fun q1 nq => ?_⟩
        refine ⟨q1, _, rfl, .inl ⟨SqL.of upd_same, fun p np => ?_⟩⟩
        have ex1 : Ext tb [] H (upd H q1 (.lst ((Txt.split z slash).map V.str))) := Ext.new hT nq
        refine fin p _ (ex1.free hT np (by simp)) (ex1.trans (Ext.new (ex1.tabs hT) np)) ?_
        rw [upd_same]
        unfold partsOf
        rw [if_neg h0] <;> rfl
/-- _law_name -/
def spName (tb : List Addr) : Sp := fun vs H Q _ => ∃ n : Int, vs = [.int n] ∧ Tabs tb H ∧ ∀ s H', s ∈ menu → Ext tb [] H H' → Q (.str s) H'
theorem ok_l_name (F : FnAt K mg "_law_name" s_l_name ["_law_number"] f cd) : CalE P w K mg base CX0 1 "_law_name" (spName tb) := by
  refine F.cal sc_l_name (fun vs H Q E h => ?_) (fun A outer s H vs Q E hr h => ?_)
  · obtain ⟨n, rfl, _⟩ := h
    rfl
  · obtain ⟨n, rfl, hT, q⟩ := h
    refine ⟨_, (pss_cons (ps_set (i := 1) sc_l_name.nd rfl (.inl rfl) (pe_lst (pa_cons pe_str (pa_cons pe_str (pa_cons pe_str (pa_cons pe_str (pa_cons pe_str (pa_cons pe_str (pa_cons pe_str (pa_cons pe_str (pa_cons pe_str (pa_cons pe_str pa_nil))))))))))))
      (pss_one (ps_ret (pe_ix (q_ixL (K := K) rfl) (pv 1) (pe_op op_mod (pv 0) pe_int) (fun _ _ => rfl))))), ?_⟩
    refine ⟨by show 10 ≤ sizeLine; decide, fun p np => ?_⟩
    have b1 := Int.emod_nonneg n (b := 10) (by decide)
    have b2 := Int.emod_lt_of_pos n (b := 10) (by decide)
    have hm : menu.length = 10 := rfl
    have hk : (n % 10).toNat < menu.length := by omega
    refine ⟨_, rfl, _, rfl, _, _, rfl, rfl, (by show (0:Int) < 10; decide), p, menu.map V.str, n % 10, .str menu[(n % 10).toNat], rfl, rfl, SqL.of upd_same, at_of (j := (n % 10).toNat) (by omega) (by rw [List.getElem?_map, List.getElem?_eq_getElem hk] <;> rfl), ?_⟩
    exact q _ _ (List.getElem_mem hk) (Ext.new hT np)
/-- _law_long_path: up to six names of the menu -/
def spLong (tb : List Addr) : Sp := fun vs H Q _ => ∃ (d : Addr) (ds : List Int), vs = [.ref d] ∧ H d = some (.lst (ds.map V.int)) ∧ Dr ds ∧ Tabs tb H ∧
  ∀ (ss : List Str) p H', ss.length ≤ 6 → (∀ s ∈ ss, s ∈ menu) → Ext tb [d] H H' → H p = none → H' p = some (.tup (ss.map V.str)) → Q (.ref p) H'
theorem ok_l_long_path (T : Txt K mg) (F : FnAt K mg "_law_long_path" s_l_long_path ["_law_drawn"] f cd) (C_l_next : CalE P w K mg base CX0 1 "_law_next" (spNext tb)) (C_l_name : CalE P w K mg base CX0 1 "_law_name" (spName tb)) : CalE P w K mg base CX0 2 "_law_long_path" (spLong tb) := by
  refine F.cal sc_l_long_path (fun vs H Q E h => ?_) (fun A outer s H vs Q E hr h => ?_)
  · obtain ⟨d, ds, rfl, _⟩ := h
    rfl
  · obtain ⟨d, ds, rfl, hd, hD, hT, q⟩ := h
    refine ⟨_, (pss_cons (ps_set (i := 1) sc_l_long_path.nd rfl (.inl rfl) (pe_cal C_l_next (hr.mono (by first | decide | omega)) (by rfl) (pa_cons (pv 0) pa_nil)))
      (pss_one (ps_ret (pe_callTy (q_tup (K := K) rfl) (by rfl) T.b_tuple (by decide +kernel) (pa_cons (pe_lc (own := [("_law_k", 2)]) (g := gName 2) (tt := tYes) (by rfl) sc_l_long_path.nd (pi_range1 (by rfl) T.b_range (pa_cons (pe_op op_mod (pv 1) pe_int) pa_nil)) (blkOk_by (own := [("_law_k", 2)]) (N := n_l_long_path) (sc := defScope s_l_long_path) (by decide +kernel)) (fun _ _ _ _ _ => (pg_name (i := 2) sc_l_long_path.nd rfl (.inl rfl))) (fun _ _ _ _ _ => pts_nil) (fun _ _ _ _ _ => (pe_cal C_l_name (hr.mono (by first | decide | omega)) (by rfl) (pa_cons (pe_cal C_l_next (hr.mono (by first | decide | omega)) (by rfl) (pa_cons (pv 0) pa_nil)) pa_nil)))) pa_nil))))), ?_⟩
    refine ⟨_, rfl, d, ds, rfl, hd, hD, hT, fun x r H1 hx hr1 ex1 hd1 => ?_⟩
    have b1 := Int.emod_nonneg x (b := 7) (by decide)
    have b2 := Int.emod_lt_of_pos x (b := 7) (by decide)
    have ndt : d ∉ tb := ne_tab hT hd fun ps z => by cases z
    refine ⟨_, rfl, _, _, rfl, rfl, (by show (0:Int) < 7; decide), _, rfl, by omega, by omega, fun D hDn => ?_⟩
    have hT1 := ex1.tabs hT
    have nDd : D ≠ d := fun z => by rw [z, hd1] at hDn; cases hDn
    have hDn0 : H D = none := ex1.free hT hDn (by simp [nDd])
    refine lc_range (lo := 0) (n := (x % 7).toNat) (fun i H2 => ∃ (ss : List Str) (r : List Int), ss.length = i ∧ (∀ s ∈ ss, s ∈ menu) ∧ Dr r ∧ H2 d = some (.lst (r.map V.int)) ∧ H2 D = some (.lst (ss.map V.str)) ∧ Ext tb [d] H H2) ?_ ?_ ?_
    · exact ⟨[], r, rfl, fun s hs => (by cases hs), hr1, by rw [upd_ne (Ne.symm nDd)]; exact hd1, upd_same, Ext.own hT ex1 hDn0⟩
    · rintro i H2 hi ⟨ss, r2, hl2, hm2, hD2, hd2, hDD2, ex2⟩
      refine ⟨rfl, _, rfl, d, r2, rfl, hd2, hD2, ex2.tabs hT, fun x3 r3 H3 hx3 hD3 ex3 hd3 => ?_⟩
      refine ⟨x3, rfl, (ex2.trans ex3).tabs hT, fun s4 H4 hs4 ex4 => ?_⟩
      have hDD3 : H3 D = some (.lst (ss.map V.str)) := ex3.lst (ex2.tabs hT) hDD2 (by simp [nDd])
      have hDD4 : H4 D = some (.lst (ss.map V.str)) := ex4.lst ((ex2.trans ex3).tabs hT) hDD3 (by simp)
      have hd4 : H4 d = some (.lst (r3.map V.int)) := ex4.lst ((ex2.trans ex3).tabs hT) hd3 (by simp)
      refine ⟨_, hDD4, line_lt (by rw [List.length_map]; omega), ?_⟩
      refine ⟨ss ++ [s4], r3, by rw [List.length_append, hl2] <;> rfl, fun s hs => ?_, hD3, by rw [upd_ne (Ne.symm nDd)]; exact hd4, by rw [upd_same, List.map_append] <;> rfl, Ext.own hT ((ex2.trans ex3).trans ex4.of0) hDn0⟩
      rcases List.mem_append.mp hs with h1 | h1
      · exact hm2 s h1
      · rw [List.mem_singleton.mp h1]
        exact hs4
    · rintro H2 ⟨ss, r2, hl2, hm2, hD2, hd2, hDD2, ex2⟩
      refine ⟨D, _, rfl, .inl ⟨SqL.of hDD2, fun l hl => ?_⟩⟩
      have nld : l ≠ d := fun z => by rw [z, hd2] at hl; cases hl
      exact q ss l _ (by omega) hm2 (Ext.own hT ex2 (ex2.free hT hl (by simp [nld]))) (ex2.free hT hl (by simp [nld])) upd_same
/-- _law_refused -/
def spRefused (K : PySem.W.Frag) (tb : List Addr) : Sp := fun vs H Q _ => ∃ v, vs = [v] ∧ Tabs tb H ∧ Bad K H v ∧ ∀ H', Ext tb [] H H' → Q (.bl true) H'
theorem ok_l_refused {C : Addr} (x_NoName : ExcI P K mg "NoName" C) (F : FnAt K mg "_law_refused" s_l_refused ["_law_one"] f cd) (C_read_path : CalE P w K mg base (L2.CX P w) 4 "read_path" (spRead K tb C)) : CalE P w K mg base CX0 5 "_law_refused" (spRefused K tb) := by
  refine F.cal sc_l_refused (fun vs H Q E h => ?_) (fun A outer s H vs Q E hr h => ?_)
  · obtain ⟨v, rfl, _⟩ := h
    rfl
  · obtain ⟨v, rfl, hT, hb, q⟩ := h
    refine ⟨_, (pss_cons (ps_try_only rfl rfl ⟨rfl, by decide, .inl x_NoName.m⟩ takes0 (fun W pn xe tk _ => (pss_one (ps_expr (pe_calS C_read_path (hr.mono (by first | decide | omega)) (by rfl) tk (pa_cons (pv 0) pa_nil))))) (fun a oe cls d pn _ _ => (pss_one (ps_ret pe_bl))))
      (pss_one (ps_ret pe_bl))), ?_⟩
    refine ⟨_, rfl, v, rfl, hT, .inl ⟨hb, fun H' ex => ⟨true, x_NoName.ex, fun _ a ha => ?_, fun z => nomatch z⟩⟩⟩
    exact q H' ex
/-- _law_text -/
def spText (K : PySem.W.Frag) : Sp := fun vs H Q _ => ∃ (a : Addr) (ps : List Str), vs = [.ref a] ∧ SqT K H a (ps.map V.str) ∧ ps.length ≤ 10 ∧ (∀ s ∈ ps, 1 ≤ s.length ∧ s.length ≤ 8) ∧ Q (.str (Txt.join slash ps)) H
/-! ### texts of paths -/
abbrev Nm (s : Str) : Prop := 1 ≤ s.length ∧ s.length ≤ 8 ∧ 47 ∉ TL.tl s ∧ isNm s = true ∧ PyData.canLay0 (.str s) = true
theorem menu_nm : ∀ s ∈ menu, Nm s := by decide +kernel
theorem joinL_snoc (S : List Nat) : ∀ (ps : List (List Nat)) (p : List Nat), ps ≠ [] → TL.joinL S (ps ++ [p]) = TL.joinL S ps ++ (S ++ p)
  | [], _, h => absurd rfl h
  | [q], p, _ => rfl
  | q :: r :: t, p, _ => by
    show q ++ (S ++ TL.joinL S ((r :: t) ++ [p])) = q ++ (S ++ TL.joinL S (r :: t)) ++ (S ++ p)
    rw [joinL_snoc S (r :: t) p (by simp)]
    simp only [List.append_assoc]
def jn (ps : List Str) : Str := Txt.join slash ps
theorem tl_jn (ps : List Str) : TL.tl (jn ps) = TL.joinL [47] (ps.map TL.tl) := by
  unfold jn
  rw [TL.join_eq, TL.tl_join, slash_tl]
theorem jn_nil : jn [] = "" := by decide +kernel
theorem jn_one (s : Str) : jn [s] = s := TL.ext_tl (by rw [tl_jn] <;> rfl)
theorem jn_snoc {ps : List Str} (s : Str) (h : ps ≠ []) : jn (ps ++ [s]) = jn ps ++ slash ++ s := TL.ext_tl (by
  rw [tl_jn, List.map_append, TL.tl_append, TL.tl_append, tl_jn, slash_tl]
  have : ps.map TL.tl ≠ [] := by simpa using h
  rw [show [s].map TL.tl = [TL.tl s] from rfl, joinL_snoc [47] _ _ this, List.append_assoc])
theorem jn_cons {ps : List Str} (s : Str) (h : ps ≠ []) : jn (s :: ps) = s ++ slash ++ jn ps := TL.ext_tl (by
  rw [TL.tl_append, TL.tl_append, tl_jn, tl_jn, slash_tl]
  cases ps with
  | nil => exact absurd rfl h
  | cons a r =>
    show TL.tl s ++ ([47] ++ TL.joinL [47] ((a :: r).map TL.tl)) = _
    rw [List.append_assoc])
theorem joinL_len (S : List Nat) : ∀ ps : List (List Nat), (TL.joinL S ps).length ≤ (ps.map (·.length + S.length)).sum
  | [] => by simp [TL.joinL]
  | [p] => by simp [TL.joinL]
  | p :: q :: r => by
    have ih := joinL_len S (q :: r)
    show (p ++ (S ++ TL.joinL S (q :: r))).length ≤ _
    rw [List.map_cons, List.sum_cons, List.length_append, List.length_append]
    omega
theorem joinL_pos {S : List Nat} : ∀ {ps : List (List Nat)}, ps ≠ [] → (∀ p ∈ ps, 1 ≤ p.length) → 1 ≤ (TL.joinL S ps).length
  | [], h, _ => absurd rfl h
  | [p], _, h => h p (List.mem_cons_self ..)
  | p :: q :: r, _, h => by
    have h1 := h p (List.mem_cons_self ..)
    show 1 ≤ (p ++ (S ++ TL.joinL S (q :: r))).length
    rw [List.length_append]
    omega
theorem len_sum : ∀ (ps : List Str), (∀ s ∈ ps, s.length ≤ 8) → ((ps.map TL.tl).map (·.length + [47].length)).sum ≤ 9 * ps.length
  | [], _ => by simp
  | s :: r, h => by
    have ih := len_sum r fun x hx => h x (List.mem_cons_of_mem _ hx)
    have h1 := h s (List.mem_cons_self ..)
    rw [TL.len_tl] at h1
    simp only [List.map_cons, List.sum_cons, List.length_cons, List.length_nil] at ih ⊢
    omega
theorem jn_len {ps : List Str} (h : ∀ s ∈ ps, s.length ≤ 8) : (jn ps).length ≤ 9 * ps.length := by
  rw [TL.len_tl, tl_jn]
  exact Nat.le_trans (joinL_len _ _) (len_sum ps h)
theorem jn_pos {ps : List Str} (h0 : ps ≠ []) (h : ∀ s ∈ ps, 1 ≤ s.length) : 1 ≤ (jn ps).length := by
  rw [TL.len_tl, tl_jn]
  refine joinL_pos (by simpa using h0) fun p hp => ?_
  obtain ⟨s, hs, rfl⟩ := List.mem_map.mp hp
  have := h s hs
  rw [TL.len_tl] at this
  exact this
/-- what a text of parts is read as -/
theorem parts_jn {ps : List Str} (h0 : ps ≠ []) (h : ∀ s ∈ ps, 47 ∉ TL.tl s) (hp : (jn ps).length ≠ 0) : partsOf (jn ps) = ps := by
  unfold partsOf
  rw [if_neg hp]
  exact TL.split_join slash_tl slash_ok h0 h
theorem parts_nm {ps : List Str} (h : ∀ s ∈ ps, Nm s) : partsOf (jn ps) = ps := by
  cases ps with
  | nil =>
    rw [jn_nil]
    rfl
  | cons a r =>
    have := jn_pos (ps := a :: r) (by simp) fun s hs => (h s hs).1
    exact parts_jn (by simp) (fun s hs => (h s hs).2.2.1) (by omega)
theorem good_nm {ps : List Str} (h : ∀ s ∈ ps, Nm s) (hl : ps.length ≤ 6) : goodP ps = true := by
  unfold goodP
  rw [Bool.and_eq_true, decide_eq_true_eq, List.all_eq_true]
  exact ⟨by omega, fun s hs => (h s hs).2.2.2.1⟩
theorem ok_l_text (F : FnAt K mg "_law_text" s_l_text ["_law_path"] f cd) : CalE P w K mg base CX0 1 "_law_text" (spText K) := by
  refine F.cal sc_l_text (fun vs H Q E h => ?_) (fun A outer s H vs Q E hr h => ?_)
  · obtain ⟨a, ps, rfl, _⟩ := h
    rfl
  · obtain ⟨a, ps, rfl, ha, hl, hn, q⟩ := h
    refine ⟨_, (pss_cons (ps_set (i := 1) sc_l_text.nd rfl (.inl rfl) pe_str)
      (pss_cons (ps_for PassesOwn.never rfl (q_piT (K := K) rfl (pv 0)) (pg_name (i := 2) sc_l_text.nd rfl (.inl rfl)) (pss_cons (ps_if (pt_cmpR op_ne (pv 1) pe_str (nomark _)) (pss_one (ps_set (i := 1) sc_l_text.nd rfl (.inl rfl) (pe_op op_add_str (pv 1) pe_str))) pss_nil)
      (pss_one (ps_set (i := 1) sc_l_text.nd rfl (.inl rfl) (pe_op op_add_str (pv 1) (pv 2))))))
      (pss_one (ps_ret (pv 1))))), ?_⟩
    have hn8 : ∀ i, ∀ s ∈ ps.take i, s.length ≤ 8 := fun i s hs => (hn s (List.mem_of_mem_take hs)).2
    have hn1 : ∀ i, ∀ s ∈ ps.take i, 1 ≤ s.length := fun i s hs => (hn s (List.mem_of_mem_take hs)).1
    have hlen : ∀ i, (jn (ps.take i)).length ≤ 90 := fun i => by
      have h1 := jn_len (hn8 i)
      have h2 : (ps.take i).length ≤ ps.length := by rw [List.length_take]; omega
      omega
    refine ⟨_, rfl, a, rfl, ⟨_, ha⟩, for_tup (K := K) (a := a) (xs := ps.map V.str) (fun i σ H1 => H1 = H ∧ ∃ y, σ = [some (.ref a), some (.str (jn (ps.take i))), y]) ⟨rfl, none, by rw [List.take_zero, jn_nil] <;> rfl⟩ (fun i σ H1 _ h => by rw [h.1]; exact ha) ?_ ?_⟩
    · rintro i x σ H1 hx ⟨rfl, y, rfl⟩
      have hi : i < ps.length := by
        have := (List.getElem?_eq_some_iff.mp hx).1
        rw [List.length_map] at this
        exact this
      rw [List.getElem?_map, List.getElem?_eq_getElem hi] at hx
      have hx' : x = .str ps[i] := (Option.some.inj hx).symm
      subst hx'
      have ht : ps.take (i + 1) = ps.take i ++ [ps[i]] := by rw [List.take_add_one, List.getElem?_eq_getElem hi] <;> rfl
      have h8 := (hn _ (List.getElem_mem hi)).2
      by_cases h0 : i = 0
      · subst h0
        have e : jn (ps.take 0) = "" := by rw [List.take_zero, jn_nil]
        rw [e]
        refine ⟨_, rfl, rfl, _, rfl, iteNS rfl ?_⟩
        refine ⟨_, rfl, _, rfl, _, _, rfl, rfl, line_of (by show 0 + ps[0].length ≤ 100000; omega), rfl, some (.str ps[0]), ?_⟩
        rw [ht, List.take_zero, List.nil_append, jn_one]
        have : (("" : Str) ++ ps[0]) = ps[0] := TL.ext_tl (by rw [TL.tl_append] <;> rfl)
        rw [this] <;> rfl
      · have hne : ps.take i ≠ [] := fun z => by
          have := congrArg List.length z
          rw [List.length_take, List.length_nil] at this
          omega
        have hp := jn_pos hne (hn1 i)
        have e : ¬ V.str (jn (ps.take i)) = V.str "" := fun z => by
          rw [V.str.inj z] at hp
          exact absurd hp (by decide +kernel)
        refine ⟨_, rfl, rfl, _, rfl, ?_⟩
        rw [decide_eq_false e]
        refine iteT ?_
        have hl1 := hlen i
        refine ⟨_, rfl, _, _, rfl, rfl, line_of (by show (jn (ps.take i)).length + 1 ≤ 100000; omega), ?_⟩
        refine ⟨_, rfl, _, rfl, _, _, rfl, rfl, line_of ?_, rfl, some (.str ps[i]), ?_⟩
        · rw [TL.len_tl, TL.tl_append, List.length_append, ← TL.len_tl]
          show (jn (ps.take i)).length + 1 + _ ≤ 100000
          omega
        · rw [ht, jn_snoc _ hne] <;> rfl
    · rintro σ H1 ⟨rfl, y, rfl⟩
      rw [List.length_map, List.take_length]
      exact ⟨_, rfl, q⟩
end
end K02

set_option Elab.async false
set_option linter.all false
set_option maxRecDepth 100000
set_option maxHeartbeats 4000000
namespace K02
open PySem PySem.Spec PyProof.Rows L2 HK
/-! ### the law -/
theorem TyX.ext {K : PySem.W.Frag} {tb : List Addr} {H H' : Hp} {v : V} {t : String} (e : Ext tb [] H H') (hT : Tabs tb H) (h : TyX K H v (.type t)) (ho : ∀ a, v = .ref a → a ∉ tb) : TyX K H' v (.type t) := by
  have k : ∀ a o, a ∉ tb → H a = some o → H' a = some o := fun a o ha h => e.keep a o ha (by simp) h
  cases h with
  | base h =>
    cases h with
    | non => exact .base .non
    | bl x => exact .base (.bl x)
    | int i => exact .base (.int i)
    | str x => exact .base (.str x)
    | flt x => exact .base (.flt x)
    | lst h => exact .base (.lst (k _ _ (ho _ rfl) h))
    | frz h => exact .base (.frz (k _ _ (ho _ rfl) h))
    | tup h => exact .base (.tup (k _ _ (ho _ rfl) h))
    | dK h => exact .base (.dK (k _ _ (ho _ rfl) h))
    | dT h => exact .base (.dT (k _ _ (ho _ rfl) h))
  | byt b => exact .byt b
  | set h => exact .set (k _ _ (ho _ rfl) h)
  | kList h c => exact .kList h c
  | kTuple h c => exact .kTuple h c
  | kDict h c => exact .kDict h c
  | fTuple h => exact .fTuple (k _ _ (ho _ rfl) h)
  | fDict h => exact .fDict (k _ _ (ho _ rfl) h)
/-- Bad, of what is no table -/
def BadT (K : PySem.W.Frag) (tb : List Addr) (H : Hp) (v : V) : Prop := Bad K H v ∧ ∀ a, v = .ref a → a ∉ tb
theorem BadT.ext {K : PySem.W.Frag} {tb : List Addr} {H H' : Hp} {v : V} (e : Ext tb [] H H') (hT : Tabs tb H) (h : BadT K tb H v) : BadT K tb H' v := by
  obtain ⟨h1, h2⟩ := h
  rcases h1 with ⟨t, h3, h4⟩ | h3
  · exact ⟨.inl ⟨t, TyX.ext e hT h3 h2, h4⟩, h2⟩
  · exact ⟨.inr h3, h2⟩
theorem bad_str {K : PySem.W.Frag} {tb : List Addr} {H : Hp} {s : Str} (h : s.length ≤ 1000) (hg : goodP (partsOf s) = false) : BadT K tb H (.str s) := ⟨.inr ⟨s, rfl, h, hg⟩, fun a z => by cases z⟩
theorem good_false {ps : List Str} {s : Str} (h : s ∈ ps) (hs : isNm s = false) : goodP ps = false := by
  unfold goodP
  have : ps.all isNm = false := by
    rw [List.all_eq_false]
    exact ⟨s, h, by rw [hs]; exact Bool.false_ne_true⟩
  rw [this, Bool.and_false]
theorem good_long {ps : List Str} (h : 6 < ps.length) : goodP ps = false := by
  unfold goodP
  rw [decide_eq_false (by omega), Bool.false_and]
def fixed : List Str := ["a", "b", "c", "d", "ab", "ba"]
theorem fixed_nm : ∀ s ∈ fixed, Nm s := by decide +kernel
def sixOf (ss : List Str) : List Str := ss ++ fixed.take (6 - ss.length)
theorem cut_fixed {n : Nat} (h : n ≤ 6) : cutV (fixed.map V.str) none (some ((6 : Int) - (n : Int))) = (fixed.take (6 - n)).map V.str := by
  have e : ((6 : Int) - (n : Int)) = ((6 - n : Nat) : Int) := by omega
  unfold cutV
  rw [e, HT.sIx_nat, HT.sIx_none]
  show ((fixed.map V.str).drop 0).take (min (6 - n) 6 - 0) = _
  rw [List.drop_zero, List.map_take]
  congr 1
  omega
section
variable {P : Program} {w : World} {K : PySem.W.Frag} {mg : Str → Option Value} {base : Heap} {f : Addr} {cd : Value} {tb : List Addr}
def spLaw (K : PySem.W.Frag) (tb : List Addr) : Sp := fun vs H Q _ => ∃ (a : Addr) (ns : List Int), vs = [.ref a] ∧ SqL K H a (ns.map V.int) ∧ ns.length ≤ 63 ∧ Tabs tb H ∧ ∀ H', Q (.bl true) H'
theorem ok_law {C : Addr} (T : Txt K mg) (C_l_draws : CalE P w K mg base CX0 2 "_law_draws" (spDraws K tb)) (C_l_long_path : CalE P w K mg base CX0 2 "_law_long_path" (spLong tb)) (C_l_text : CalE P w K mg base CX0 1 "_law_text" (spText K)) (C_written_path : CalE P w K mg base CX0 1 "written_path" (spWritten K))
    (C_read_path : CalE P w K mg base (L2.CX P w) 4 "read_path" (spRead K tb C)) (C_l_refused : CalE P w K mg base CX0 5 "_law_refused" (spRefused K tb)) : FnG P w K mg base CX0 6 "law" s_law ["_law_script"] f cd (spLaw K tb) := by
  refine law_of sc_law (fun vs H Q E h => ?_) (fun A outer s H vs Q E hr h => ?_)
  · obtain ⟨a, ns, rfl, _⟩ := h
    rfl
  · obtain ⟨a, ns, rfl, hS, hl, hT, q⟩ := h
    refine ⟨_, (pss_cons (ps_set (i := 1) sc_law.nd rfl (.inl rfl) (pe_cal C_l_draws (hr.mono (by first | decide | omega)) (by rfl) (pa_cons (pv 0) pa_nil)))
      (pss_cons (ps_set (i := 2) sc_law.nd rfl (.inl rfl) (pe_cal C_l_long_path (hr.mono (by first | decide | omega)) (by rfl) (pa_cons (pv 1) pa_nil)))
      (pss_cons (ps_set (i := 3) sc_law.nd rfl (.inl rfl) (pe_cal C_l_text (hr.mono (by first | decide | omega)) (by rfl) (pa_cons (pv 2) pa_nil)))
      (pss_cons (ps_if (PW.pt (pw_or (pt_not (pt_val (pe_callB (q_isi (K := K) rfl) (by rfl) T.b_isinstance (by decide +kernel) (pa_cons (pe_cal C_written_path (hr.mono (by first | decide | omega)) (by rfl) (pa_cons (pv 2) pa_nil)) (pa_cons (pe_bltn (v := .ty "str") (by rfl) T.b_str (by decide +kernel) rfl) pa_nil))))) (pw_or1 (pt_cmpR op_ne (pe_cal C_written_path (hr.mono (by first | decide | omega)) (by rfl) (pa_cons (pv 2) pa_nil)) (pv 3) (nomark _))))) (pss_one (ps_ret pe_bl)) pss_nil)
      (pss_cons (ps_set (i := 4) sc_law.nd rfl (.inl rfl) (pe_calL C_read_path (hr.mono (by first | decide | omega)) (by rfl) (pa_cons (pv 3) pa_nil)))
      (pss_cons (ps_if (PW.pt (pw_or (pt_not (pt_val (pe_callB (q_isi (K := K) rfl) (by rfl) T.b_isinstance (by decide +kernel) (pa_cons (pv 4) (pa_cons (pe_bltn (v := .ty "tuple") (by rfl) T.b_tuple (by decide +kernel) rfl) pa_nil))))) (pw_or (pt_cmpR (q_neD (K := K) rfl hr.units) (pv 4) (pv 2) (nomark _)) (pw_or1 (pt_not (pt_val (pe_callB (q_all (K := K) rfl rfl) (by rfl) T.b_all (by decide +kernel) (pa_cons (pe_lc (own := [("_law_name_here", 7)]) (g := gName 7) (tt := tYes) (by rfl) sc_law.nd (q_piT (K := K) rfl (pv 4)) (blkOk_by (own := [("_law_name_here", 7)]) (N := n_law) (sc := defScope s_law) (by decide +kernel)) (fun _ _ _ _ _ => (pg_name (i := 7) sc_law.nd rfl (.inl rfl))) (fun _ _ _ _ _ => pts_nil) (fun _ _ _ _ _ => (pe_callB (q_isi (K := K) rfl) (by rfl) T.b_isinstance (by decide +kernel) (pa_cons (pv 7) (pa_cons (pe_bltn (v := .ty "str") (by rfl) T.b_str (by decide +kernel) rfl) pa_nil))))) pa_nil)))))))) (pss_one (ps_ret pe_bl)) pss_nil)
      (pss_cons (ps_if (PW.pt (pw_or (pt_not (pt_val (pe_callB (q_isi (K := K) rfl) (by rfl) T.b_isinstance (by decide +kernel) (pa_cons (pe_calL C_read_path (hr.mono (by first | decide | omega)) (by rfl) (pa_cons pe_str pa_nil)) (pa_cons (pe_bltn (v := .ty "tuple") (by rfl) T.b_tuple (by decide +kernel) rfl) pa_nil))))) (pw_or (pt_cmpR (q_neD (K := K) rfl hr.units) (pe_calL C_read_path (hr.mono (by first | decide | omega)) (by rfl) (pa_cons pe_str pa_nil)) (pe_tup pa_nil) (nomark _)) (pw_or1 (pt_cmpR op_ne (pe_cal C_written_path (hr.mono (by first | decide | omega)) (by rfl) (pa_cons (pe_tup pa_nil) pa_nil)) pe_str (nomark _)))))) (pss_one (ps_ret pe_bl)) pss_nil)
      (C8.pss_cut (ps_set (i := 5) sc_law.nd rfl (.inl rfl) (pe_op (q_catT (K := K) rfl) (pv 2) (pe_slice (q_slT (K := K) rfl) (pe_tup (pa_cons pe_str (pa_cons pe_str (pa_cons pe_str (pa_cons pe_str (pa_cons pe_str (pa_cons pe_str pa_nil))))))) po_none (po_some (pe_op op_sub pe_int (pe_callB (q_len (K := K) rfl) (by rfl) T.b_len PySem.boot_len (pa_cons (pv 2) pa_nil)))))))
      (pss_cons (ps_if (pt_cmpR (q_neD (K := K) rfl hr.units) (pe_calL C_read_path (hr.mono (by first | decide | omega)) (by rfl) (pa_cons (pe_cal C_l_text (hr.mono (by first | decide | omega)) (by rfl) (pa_cons (pv 5) pa_nil)) pa_nil)) (pv 5) (nomark _)) (pss_one (ps_ret pe_bl)) pss_nil)
      (pss_cons (ps_set (i := 6) sc_law.nd rfl (.inl rfl) (pe_lst (pa_cons pe_non (pa_cons pe_bl (pa_cons pe_int (pa_cons (pv 2) (pa_cons (pe_callTy (q_lst (K := K) rfl) (by rfl) T.b_list (by decide +kernel) (pa_cons (pv 2) pa_nil)) (pa_cons pe_str (pa_cons (pe_op op_add_str (pv 3) pe_str) (pa_cons (pe_op op_add_str pe_str (pv 3)) (pa_cons (pe_op op_add_str (pe_cal C_l_text (hr.mono (by first | decide | omega)) (by rfl) (pa_cons (pv 5) pa_nil)) pe_str) (pa_cons (pe_cal C_l_text (hr.mono (by first | decide | omega)) (by rfl) (pa_cons (pe_op (q_catT (K := K) rfl) (pv 5) (pe_tup (pa_cons pe_str pa_nil))) pa_nil)) (pa_cons pe_str (pa_cons pe_str (pa_cons pe_str (pa_cons pe_str (pa_cons pe_str (pa_cons pe_str (pa_cons pe_str (pa_cons pe_dnewK pa_nil))))))))))))))))))))
      (pss_one (ps_ret (pe_callB (q_all (K := K) rfl rfl) (by rfl) T.b_all (by decide +kernel) (pa_cons (pe_lc (own := [("_law_one", 8)]) (g := gName 8) (tt := tYes) (by rfl) sc_law.nd (q_piL (K := K) rfl (pv 6)) (blkOk_by (own := [("_law_one", 8)]) (N := n_law) (sc := defScope s_law) (by decide +kernel)) (fun _ _ _ _ _ => (pg_name (i := 8) sc_law.nd rfl (.inl rfl))) (fun _ _ _ _ _ => pts_nil) (fun _ _ _ _ _ => (pe_cal C_l_refused (hr.mono (by first | decide | omega)) (by rfl) (pa_cons (pv 8) pa_nil)))) pa_nil)))))))))))))), ?_⟩
    -- drawn, path, text
    refine ⟨_, rfl, a, ns, rfl, hS, hl, hT, fun H1 d ds ex1 nd hD hd1 => ?_⟩
    have hT1 := ex1.tabs hT
    refine ⟨_, rfl, d, ds, rfl, hd1, hD, hT1, fun ss p H2 hl6 hm ex2 np hp2 => ?_⟩
    have hT2 := ex2.tabs hT1
    have hN : ∀ s ∈ ss, Nm s := fun s hs => menu_nm s (hm s hs)
    have hN18 : ∀ s ∈ ss, 1 ≤ s.length ∧ s.length ≤ 8 := fun s hs => ⟨(hN s hs).1, (hN s hs).2.1⟩
    have hN1000 : ∀ s ∈ ss, s.length ≤ 1000 := fun s hs => Nat.le_trans (hN s hs).2.1 (by decide)
    have hjl : (jn ss).length ≤ 54 := by
      have := jn_len (ps := ss) fun s hs => (hN s hs).2.1
      omega
    refine ⟨_, rfl, p, ss, rfl, SqT.of hp2, by omega, hN18, ?_⟩
    -- written_path
    refine ⟨_, rfl, p, ss, rfl, SqT.of hp2, by omega, hN1000, _, _, .type "str", _, true, rfl, .ty _, .base (.str _), kit_ty (by decide +kernel), true, rfl, iteF ?_⟩
    refine ⟨_, rfl, p, ss, rfl, SqT.of hp2, by omega, hN1000, _, rfl, rfl, _, rfl, iteNS rfl ?_⟩
    -- found
    have hpj : partsOf (jn ss) = ss := parts_nm hN
    refine ⟨_, rfl, _, rfl, hT2, .inr ⟨jn ss, rfl, by omega, by rw [hpj]; exact good_nm hN hl6, fun H3 pf ex3 npf hpf => ?_⟩⟩
    rw [hpj] at hpf
    have hT3 := ex3.tabs hT2
    have hp3 := ex3.tup hT2 hp2 (by simp)
    have hsh : SeqAt.shaped (.tuple (ss.map PyData.str)) = true := sh_tstrs fun s hs => (hN s hs).2.2.2.2
    refine ⟨_, rfl, _, _, .type "tuple", _, true, rfl, .ty _, .base (.tup hpf), kit_ty (by decide +kernel), true, rfl, iteF ?_⟩
    refine ⟨_, rfl, _, rfl, .tuple (ss.map PyData.str), .tuple (ss.map PyData.str), .tup (SqT.of hpf) (dp_strs _), .tup (SqT.of hp3) (dp_strs _), hsh, hsh, _, rfl, ?_⟩
    rw [SeqAt.eqv_refl _ (SeqAt.canLay_of_shaped hsh)]
    refine iteF ?_
    refine ⟨_, rfl, pf, rfl, ⟨_, SqT.of hpf⟩, fun D nD => ?_⟩
    refine lc_tup (K := K) (a := pf) (xs := ss.map V.str) (fun i H4 => Ext tb [] H3 H4 ∧ H4 D = some (.lst ((List.replicate i true).map V.bl))) ⟨Ext.new hT3 nD, upd_same⟩ (fun i H4 _ h => h.1.sqT hT3 (SqT.of hpf) (by simp)) ?_ ?_
    · rintro i x H4 hx ⟨ex4, hD4⟩
      have hi : i < ss.length := by
        have := (List.getElem?_eq_some_iff.mp hx).1
        rw [List.length_map] at this
        exact this
      rw [List.getElem?_map, List.getElem?_eq_getElem hi] at hx
      have hx' : x = .str ss[i] := (Option.some.inj hx).symm
      subst hx'
      refine ⟨rfl, _, rfl, _, _, .type "str", _, true, rfl, .ty _, .base (.str _), kit_ty (by decide +kernel), _, hD4, line_lt (by rw [List.length_map, List.length_replicate]; omega), Ext.own hT3 ex4 nD, ?_⟩
      rw [upd_same, List.replicate_succ', List.map_append] <;> rfl
    rintro H4 ⟨ex4, hD4⟩
    have hT4 := ex4.tabs hT3
    refine ⟨D, _, rfl, SqL.of hD4, _, rfl, ?_⟩
    rw [show (List.replicate (ss.map V.str).length true).all id = true from by rw [List.all_eq_true]; exact fun x hx => (List.mem_replicate.mp hx).2]
    refine iteF ?_
    -- the empty path
    have hg0 : goodP (partsOf "") = true := by decide +kernel
    have hp0 : partsOf "" = [] := by decide +kernel
    refine ⟨_, rfl, hT4, .inr ⟨"", rfl, by decide +kernel, hg0, fun H5 p5 ex5 np5 hp5 => ?_⟩⟩
    rw [hp0] at hp5
    have hT5 := ex5.tabs hT4
    refine ⟨_, _, .type "tuple", _, true, rfl, .ty _, .base (.tup hp5), kit_ty (by decide +kernel), true, rfl, iteF ?_⟩
    refine ⟨_, rfl, hT5, .inr ⟨"", rfl, by decide +kernel, hg0, fun H6 p6 ex6 np6 hp6 => ?_⟩⟩
    rw [hp0] at hp6
    have hT6 := ex6.tabs hT5
    refine ⟨Nat.zero_le _, fun t7 nt7 => ?_⟩
    have ex7 : Ext tb [] H6 (upd H6 t7 (.tup [])) := Ext.new hT6 nt7
    refine ⟨.tuple [], .tuple [], .tup (ex7.sqT hT6 (SqT.of hp6) (by simp)) .nil, .tup (SqT.of upd_same) .nil, rfl, rfl, false, rfl, iteF ?_⟩
    refine ⟨Nat.zero_le _, fun t8 nt8 => ?_⟩
    have hT7 := ex7.tabs hT6
    have ex8 := Ext.new (tb := tb) (ch := []) (o := .tup []) hT7 nt8
    refine ⟨t8, [], rfl, SqT.of upd_same, by decide, (fun s hs => by cases hs), rfl, _, rfl, iteNS (show V.str (Txt.join slash []) = V.str "" from congrArg V.str jn_nil) ?_⟩
    -- six
    have ex28 := (((ex3.trans ex4).trans ex5).trans ex6).trans (ex7.trans ex8)
    have hT8 := ex28.tabs hT2
    have hp8 := ex28.tup hT2 hp2 (by simp)
    generalize hH8 : upd (upd H6 t7 (HO.tup [])) t8 (HO.tup []) = H8 at ex28 hT8 hp8
    refine ⟨fun σ' H9 => ∃ p9 y4 y6 y7 y8, σ' = [some (.ref a), some (.ref d), some (.ref p), some (.str (jn ss)), y4, some (.ref p9), y6, y7, y8] ∧ Ext tb [] H8 H9 ∧ H9 p9 = some (.tup ((sixOf ss).map V.str)), ?_, ?_⟩
    · refine ⟨_, rfl, by show 6 ≤ sizeLine; decide, fun t nt => ?_⟩
      have e1 : Ext tb [] H8 (upd H8 t (.tup (fixed.map V.str))) := Ext.new hT8 nt
      have hT9 := e1.tabs hT8
      have hp9 := e1.tup hT8 hp8 (by simp)
      refine ⟨_, rfl, _, _, rfl, .inr ⟨_, SqT.of hp9, rfl⟩, _, _, rfl, rfl, _, rfl, t, fixed.map V.str, rfl, SqT.of upd_same, fun hw => ?_, fun hw => ?_⟩
      · have h0 : ss.length = 0 := by
          have h2 := hw.2
          simp only [List.length_map] at h2
          rw [show ((6 : Int) - (ss.length : Int)) = ((6 - ss.length : Nat) : Int) by omega, HT.sIx_nat] at h2
          have h3 : fixed.length = 6 := rfl
          rw [h3] at h2
          omega
        have hs0 : ss = [] := List.length_eq_zero_iff.mp h0
        subst hs0
        refine ⟨p, t, [], fixed.map V.str, rfl, rfl, SqT.of hp9, SqT.of upd_same, by decide, fun _ => ?_, fun z => absurd rfl z, fun z => absurd rfl z⟩
        exact ⟨t, _, _, _, _, rfl, e1, upd_same⟩
      · intro u nu
        have hcut : cutV (fixed.map V.str) none (some ((6 : Int) - ((ss.map V.str).length : Int))) = (fixed.take (6 - ss.length)).map V.str := by
          rw [List.length_map]
          exact cut_fixed hl6
        rw [hcut]
        have e2 : Ext tb [] H8 (upd (upd H8 t (.tup (fixed.map V.str))) u (.tup ((fixed.take (6 - ss.length)).map V.str))) := e1.trans (Ext.new hT9 nu)
        have hp10 := e2.tup hT8 hp8 (by simp)
        refine ⟨p, u, ss.map V.str, _, rfl, rfl, SqT.of hp10, SqT.of upd_same, ?_, fun h0 => ?_, fun _ h0 => ?_, fun _ _ p9 np9 => ?_⟩
        · rw [List.length_map, List.length_map, List.length_take]
          exact line_of (by omega)
        · have hs0 : ss = [] := by simpa using h0
          subst hs0
          exact ⟨u, _, _, _, _, rfl, e2, upd_same⟩
        · have hs0 : fixed.take (6 - ss.length) = [] := by simpa using h0
          refine ⟨p, _, _, _, _, rfl, e2, ?_⟩
          refine Eq.trans hp10 ?_
          unfold sixOf
          rw [hs0, List.append_nil]
        · refine ⟨p9, _, _, _, _, rfl, e2.trans (Ext.new (e2.tabs hT8) np9), ?_⟩
          rw [upd_same]
          unfold sixOf
          rw [List.map_append]
    rintro σ' H9 ⟨p9, y4, y6, y7, y8, rfl, ex9, hp9⟩
    have hT9 := ex9.tabs hT8
    generalize hsx : sixOf ss = six at hp9
    have hlx : six.length = 6 := by
      rw [← hsx]
      unfold sixOf
      rw [List.length_append, List.length_take]
      show ss.length + min (6 - ss.length) 6 = 6
      omega
    have hNx : ∀ s ∈ six, Nm s := fun s hs => by
      rw [← hsx] at hs
      rcases List.mem_append.mp hs with h1 | h1
      · exact hN s h1
      · exact fixed_nm s (List.mem_of_mem_take h1)
    have hNx18 : ∀ s ∈ six, 1 ≤ s.length ∧ s.length ≤ 8 := fun s hs => ⟨(hNx s hs).1, (hNx s hs).2.1⟩
    have hshx : SeqAt.shaped (.tuple (six.map PyData.str)) = true := sh_tstrs fun s hs => (hNx s hs).2.2.2.2
    have hjx : (jn six).length ≤ 54 := by
      have := jn_len (ps := six) fun s hs => (hNx s hs).2.1
      omega
    have hpx : partsOf (jn six) = six := parts_nm hNx
    refine ⟨_, rfl, p9, six, rfl, SqT.of hp9, by omega, hNx18, _, rfl, hT9, .inr ⟨jn six, rfl, by omega, by rw [hpx]; exact good_nm hNx (by omega), fun H10 p10 ex10 np10 hp10 => ?_⟩⟩
    rw [hpx] at hp10
    have hT10 := ex10.tabs hT9
    have hp9' := ex10.tup hT9 hp9 (by simp)
    refine ⟨_, rfl, .tuple (six.map PyData.str), .tuple (six.map PyData.str), .tup (SqT.of hp10) (dp_strs _), .tup (SqT.of hp9') (dp_strs _), hshx, hshx, _, rfl, ?_⟩
    rw [SeqAt.eqv_refl _ (SeqAt.canLay_of_shaped hshx)]
    refine iteF ?_
    -- the bad ones
    have hpA := ((ex28.trans ex9).trans ex10).tup hT2 hp2 (by simp)
    refine ⟨_, rfl, _, rfl, p, _, rfl, .inr (SqT.of hpA), fun l1 nl1 => ?_⟩
    have e11 : Ext tb [] H10 (upd H10 l1 (.lst (ss.map V.str))) := Ext.new hT10 nl1
    have hT11 := e11.tabs hT10
    refine ⟨_, rfl, _, _, rfl, rfl, line_of (by show (jn ss).length + 1 ≤ 100000; omega), _, rfl, _, _, rfl, rfl, line_of (by show 1 + (jn ss).length ≤ 100000; omega), ?_⟩
    refine ⟨_, rfl, p9, six, rfl, e11.sqT hT10 (SqT.of hp9') (by simp), by omega, hNx18, _, _, rfl, rfl, line_of (by show (jn six).length + 2 ≤ 100000; omega), ?_⟩
    refine ⟨_, rfl, by show 1 ≤ sizeLine; decide, fun t12 nt12 => ?_⟩
    have e12 : Ext tb [] H10 _ := e11.trans (Ext.new (o := .tup [.str "z"]) hT11 nt12)
    have hT12 := e12.tabs hT10
    refine ⟨p9, t12, six.map V.str, [.str "z"], rfl, rfl, e12.sqT hT10 (SqT.of hp9') (by simp), SqT.of upd_same, line_of (by rw [List.length_map]; show six.length + 1 ≤ 100000; omega), fun z => ?_, (fun _ z => by cases z), fun _ _ t13 nt13 => ?_⟩
    · have := congrArg List.length z
      rw [List.length_map, hlx] at this
      cases this
    have e13 := e12.trans (Ext.new (ch := []) (o := .tup (six.map V.str ++ [.str "z"])) hT12 nt13)
    have hT13 := e13.tabs hT10
    refine ⟨t13, six ++ [("z" : Str)], rfl, ?_, by rw [List.length_append]; show six.length + 1 ≤ 10; omega, fun s hs => ?_, ?_⟩
    · rw [List.map_append]
      exact SqT.of upd_same
    · rcases List.mem_append.mp hs with h1 | h1
      · exact hNx18 s h1
      · rw [List.mem_singleton.mp h1]
        decide +kernel
    refine fun t14 nt14 => ?_
    have e14 := e13.trans (Ext.new (ch := []) (o := .dK []) hT13 nt14)
    have hT14 := e14.tabs hT10
    refine ⟨by show 18 ≤ sizeLine; decide, fun t15 nt15 => ?_⟩
    have hp14 := e14.tup hT10 hpA (by simp)
    have hl14 := (((Ext.new (ch := []) (o := .tup [.str "z"]) hT11 nt12).trans (Ext.new (ch := []) (o := .tup (six.map V.str ++ [.str "z"])) hT12 nt13)).trans (Ext.new (ch := []) (o := .dK []) hT13 nt14)).lst hT11 upd_same (by simp)
    have ht14 : (upd (upd (upd (upd H10 l1 (.lst (ss.map V.str))) t12 (.tup [.str "z"])) t13 (.tup (six.map V.str ++ [.str "z"]))) t14 (.dK [])) t14 = some (.dK []) := upd_same
    generalize (upd (upd (upd (upd H10 l1 (.lst (ss.map V.str))) t12 (.tup [.str "z"])) t13 (.tup (six.map V.str ++ [.str "z"]))) t14 (.dK [])) = H14 at *
    have hb0 : ∀ x ∈ [V.non, .bl true, .int 7, .ref p, .ref l1, .str "/", .str (jn ss ++ "/"), .str ("/" ++ jn ss), .str (jn six ++ "/a"), .str (jn (six ++ [("z" : Str)])), .str "a//b", .str "a/B", .str "a/b1", .str "a /b", .str "a\n", .str "a/abcdefghi", .str " ", .ref t14], BadT K tb H14 x := by
      have hj1 : jn ss ++ "/" = if ss = [] then ("/" : Str) else jn (ss ++ [("" : Str)]) := by
        split
        · rename_i e
          subst e
          decide +kernel
        · rename_i e
          rw [jn_snoc "" e]
          exact TL.ext_tl (by rw [TL.tl_append, TL.tl_append, TL.tl_append]; show _ = _ ++ []; rw [List.append_nil] <;> rfl)
      have hj2 : ("/" : Str) ++ jn ss = if ss = [] then ("/" : Str) else jn (("" : Str) :: ss) := by
        split
        · rename_i e
          subst e
          decide +kernel
        · rename_i e
          rw [jn_cons "" e]
          exact TL.ext_tl (by rw [TL.tl_append, TL.tl_append, TL.tl_append] <;> rfl)
      have hne : six ≠ [] := fun z => by rw [z] at hlx; cases hlx
      have hj3 : jn six ++ "/a" = jn (six ++ [("a" : Str)]) := by
        rw [jn_snoc "a" hne]
        exact TL.ext_tl (by
          rw [TL.tl_append, TL.tl_append, TL.tl_append, List.append_assoc]
          congr 1)
      have hsl : goodP (partsOf "/") = false := by decide +kernel
      have n47 : ∀ s ∈ ss, 47 ∉ TL.tl s := fun s hs => (hN s hs).2.2.1
      have n47x : ∀ s ∈ six, 47 ∉ TL.tl s := fun s hs => (hNx s hs).2.2.1
      have long : ∀ z : Str, 47 ∉ TL.tl z → 1 ≤ z.length → z.length ≤ 8 → (jn (six ++ [z])).length ≤ 1000 ∧ goodP (partsOf (jn (six ++ [z]))) = false := fun z hz h1 h8 => by
        have hx : ∀ s ∈ six ++ [z], 47 ∉ TL.tl s := fun s hs => by
          rcases List.mem_append.mp hs with h | h
          · exact n47x s h
          · rw [List.mem_singleton.mp h]
            exact hz
        have hx18 : ∀ s ∈ six ++ [z], 1 ≤ s.length ∧ s.length ≤ 8 := fun s hs => by
          rcases List.mem_append.mp hs with h | h
          · exact hNx18 s h
          · rw [List.mem_singleton.mp h]
            exact ⟨h1, h8⟩
        have hp := jn_pos (ps := six ++ [z]) (by simp) fun s hs => (hx18 s hs).1
        have hl := jn_len (ps := six ++ [z]) fun s hs => (hx18 s hs).2
        have hl7 : (six ++ [z]).length = 7 := by rw [List.length_append, hlx] <;> rfl
        refine ⟨by omega, ?_⟩
        rw [parts_jn (by simp) hx (by omega)]
        exact good_long (by omega)
      have nt : ∀ (a : Addr) (o : HO), H14 a = some o → (∀ ps, o ≠ .tbl ps) → ∀ b, V.ref a = V.ref b → b ∉ tb := fun a o h1 h2 b e => by
        cases e
        exact ne_tab hT14 h1 h2
      have emp : isNm "" = false := by decide +kernel
      have e47 : 47 ∉ TL.tl ("" : Str) := by decide +kernel
      intro x hx
      simp only [List.mem_cons, List.not_mem_nil, or_false] at hx
      rcases hx with rfl | rfl | rfl | rfl | rfl | rfl | rfl | rfl | rfl | rfl | rfl | rfl | rfl | rfl | rfl | rfl | rfl | rfl
      · exact ⟨.inl ⟨_, .base .non, by decide +kernel⟩, fun a z => by cases z⟩
      · exact ⟨.inl ⟨_, .base (.bl _), by decide +kernel⟩, fun a z => by cases z⟩
      · exact ⟨.inl ⟨_, .base (.int _), by decide +kernel⟩, fun a z => by cases z⟩
      · exact ⟨.inl ⟨_, .base (.tup hp14), by decide +kernel⟩, nt _ _ hp14 fun ps z => by cases z⟩
      · exact ⟨.inl ⟨_, .base (.lst hl14), by decide +kernel⟩, nt _ _ hl14 fun ps z => by cases z⟩
      · exact bad_str (by decide +kernel) hsl
      · rw [hj1]
        split
        · exact bad_str (by decide +kernel) hsl
        · rename_i e
          have hx : ∀ s ∈ ss ++ [("" : Str)], 47 ∉ TL.tl s := fun s hs => by
            rcases List.mem_append.mp hs with h | h
            · exact n47 s h
            · rw [List.mem_singleton.mp h]
              exact e47
          have hl : (jn (ss ++ [("" : Str)])).length = (jn ss).length + 1 := by
            rw [jn_snoc "" e, TL.len_tl, TL.tl_append, TL.tl_append, List.length_append, List.length_append, ← TL.len_tl] <;> rfl
          refine bad_str (by omega) ?_
          rw [parts_jn (by simp) hx (by omega)]
          exact good_false (s := "") (by simp) emp
      · rw [hj2]
        split
        · exact bad_str (by decide +kernel) hsl
        · rename_i e
          have hx : ∀ s ∈ ("" : Str) :: ss, 47 ∉ TL.tl s := fun s hs => by
            rcases List.mem_cons.mp hs with h | h
            · rw [h]
              exact e47
            · exact n47 s h
          have hl : (jn (("" : Str) :: ss)).length = 1 + (jn ss).length := by
            rw [jn_cons "" e, TL.len_tl, TL.tl_append, TL.tl_append, List.length_append, List.length_append, ← TL.len_tl, ← TL.len_tl, ← TL.len_tl]
            show 0 + 1 + (jn ss).length = _
            omega
          refine bad_str (by omega) ?_
          rw [parts_jn (by simp) hx (by omega)]
          exact good_false (s := "") (by simp) emp
      · rw [hj3]
        obtain ⟨h1, h2⟩ := long "a" (by decide +kernel) (by decide +kernel) (by decide +kernel)
        exact bad_str h1 h2
      · obtain ⟨h1, h2⟩ := long "z" (by decide +kernel) (by decide +kernel) (by decide +kernel)
        exact bad_str h1 h2
      · exact bad_str (by decide +kernel) (by decide +kernel)
      · exact bad_str (by decide +kernel) (by decide +kernel)
      · exact bad_str (by decide +kernel) (by decide +kernel)
      · exact bad_str (by decide +kernel) (by decide +kernel)
      · exact bad_str (by decide +kernel) (by decide +kernel)
      · exact bad_str (by decide +kernel) (by decide +kernel)
      · exact bad_str (by decide +kernel) (by decide +kernel)
      · exact ⟨.inl ⟨_, .base (.dK ht14), by decide +kernel⟩, nt _ _ ht14 fun ps z => by cases z⟩
    generalize hbl : [V.non, .bl true, .int 7, .ref p, .ref l1, .str "/", .str (jn ss ++ "/"), .str ("/" ++ jn ss), .str (jn six ++ "/a"), .str (jn (six ++ [("z" : Str)])), .str "a//b", .str "a/B", .str "a/b1", .str "a /b", .str "a\n", .str "a/abcdefghi", .str " ", .ref t14] = bl at hb0
    have hl18 : bl.length = 18 := by rw [← hbl] <;> rfl
    have e15 : Ext tb [] H14 (upd H14 t15 (.lst bl)) := Ext.new hT14 nt15
    have hT15 := e15.tabs hT14
    have hB : (upd H14 t15 (.lst bl)) t15 = some (.lst bl) := upd_same
    subst hbl
    refine ⟨_, rfl, t15, rfl, ⟨_, SqL.of upd_same⟩, fun D nD => ?_⟩
    refine lc_list (K := K) (a := t15) (xs := [V.non, .bl true, .int 7, .ref p, .ref l1, .str "/", .str (jn ss ++ "/"), .str ("/" ++ jn ss), .str (jn six ++ "/a"), .str (jn (six ++ [("z" : Str)])), .str "a//b", .str "a/B", .str "a/b1", .str "a /b", .str "a\n", .str "a/abcdefghi", .str " ", .ref t14]) (fun i H16 => Ext tb [] (upd H14 t15 (.lst [V.non, .bl true, .int 7, .ref p, .ref l1, .str "/", .str (jn ss ++ "/"), .str ("/" ++ jn ss), .str (jn six ++ "/a"), .str (jn (six ++ [("z" : Str)])), .str "a//b", .str "a/B", .str "a/b1", .str "a /b", .str "a\n", .str "a/abcdefghi", .str " ", .ref t14])) H16 ∧ H16 D = some (.lst ((List.replicate i true).map V.bl)) ∧ i ≤ 18) ⟨Ext.new hT15 nD, upd_same, Nat.zero_le _⟩ (fun i H16 _ h => h.1.sqL hT15 (SqL.of hB) (by simp)) ?_ ?_
    · rintro i x H16 hx ⟨ex16, hD16, hi18⟩
      have hi : i < 18 := (List.getElem?_eq_some_iff.mp hx).1
      have hbx := ((hb0 x (List.mem_of_getElem? hx)).ext e15 hT14).ext ex16 hT15
      refine ⟨rfl, _, rfl, x, rfl, ex16.tabs hT15, hbx.1, fun H17 ex17 => ?_⟩
      have hD17 := ex17.lst (ex16.tabs hT15) hD16 (by simp)
      refine ⟨_, hD17, line_lt (by rw [List.length_map, List.length_replicate]; omega), Ext.own hT15 (ex16.trans ex17) nD, ?_, by omega⟩
      rw [upd_same, List.replicate_succ', List.map_append] <;> rfl
    · rintro H16 ⟨ex16, hD16, _⟩
      refine ⟨D, _, rfl, SqL.of hD16, ?_⟩
      exact q _
end
end K02

set_option Elab.async false
set_option linter.all false
set_option maxRecDepth 100000
set_option maxHeartbeats 4000000
namespace K02
open PySem PySem.Spec PyProof.Rows L2 HK
/-! ### the end -/
theorem all_mk {l : PySem.W.OpenLaw} {w : World} {K : PySem.W.Frag} {h : Heap} {mg : Str → Option Value} {fa : Addr} {q : Program} (X : K.In h) (G : h.Ns mainGlobals mg) (hfa : mg "law" = some (.ref fa)) (tabs : TabAt K mg h q)
    {f_is_name : Addr} {oc_is_name : Value} {od_is_name an_is_name : Option Addr} {kV_is_name dc_is_name pm_is_name ct_is_name : Value} {sl_is_name : Array (Option Value)}
    {cc_is_name pt_is_name : Addr} {ec_is_name : Value} {ed_is_name : Option Addr} {ev_is_name : Array Value} {es_is_name : Array (Option Value)}
    {f_is_path : Addr} {oc_is_path : Value} {od_is_path an_is_path : Option Addr} {kV_is_path dc_is_path pm_is_path ct_is_path : Value} {sl_is_path : Array (Option Value)}
    {cc_is_path pt_is_path : Addr} {ec_is_path : Value} {ed_is_path : Option Addr} {ev_is_path : Array Value} {es_is_path : Array (Option Value)}
    {f_written_path : Addr} {oc_written_path : Value} {od_written_path an_written_path : Option Addr} {kV_written_path dc_written_path pm_written_path ct_written_path : Value} {sl_written_path : Array (Option Value)}
    {cd_written_path : Value}
    {f_read_path : Addr} {oc_read_path : Value} {od_read_path an_read_path : Option Addr} {kV_read_path dc_read_path pm_read_path ct_read_path : Value} {sl_read_path : Array (Option Value)}
    {cd_read_path : Value}
    {f_l_mixed : Addr} {oc_l_mixed : Value} {od_l_mixed an_l_mixed : Option Addr} {kV_l_mixed dc_l_mixed pm_l_mixed ct_l_mixed : Value} {sl_l_mixed : Array (Option Value)}
    {cd_l_mixed : Value}
    {f_l_draws : Addr} {oc_l_draws : Value} {od_l_draws an_l_draws : Option Addr} {kV_l_draws dc_l_draws pm_l_draws ct_l_draws : Value} {sl_l_draws : Array (Option Value)}
    {cd_l_draws : Value}
    {f_l_next : Addr} {oc_l_next : Value} {od_l_next an_l_next : Option Addr} {kV_l_next dc_l_next pm_l_next ct_l_next : Value} {sl_l_next : Array (Option Value)}
    {cd_l_next : Value}
    {f_l_name : Addr} {oc_l_name : Value} {od_l_name an_l_name : Option Addr} {kV_l_name dc_l_name pm_l_name ct_l_name : Value} {sl_l_name : Array (Option Value)}
    {cd_l_name : Value}
    {f_l_long_path : Addr} {oc_l_long_path : Value} {od_l_long_path an_l_long_path : Option Addr} {kV_l_long_path dc_l_long_path pm_l_long_path ct_l_long_path : Value} {sl_l_long_path : Array (Option Value)}
    {cd_l_long_path : Value}
    {f_l_refused : Addr} {oc_l_refused : Value} {od_l_refused an_l_refused : Option Addr} {kV_l_refused dc_l_refused pm_l_refused ct_l_refused : Value} {sl_l_refused : Array (Option Value)}
    {cd_l_refused : Value}
    {f_l_text : Addr} {oc_l_text : Value} {od_l_text an_l_text : Option Addr} {kV_l_text dc_l_text pm_l_text ct_l_text : Value} {sl_l_text : Array (Option Value)}
    {cd_l_text : Value}
    {f_law : Addr} {oc_law : Value} {od_law an_law : Option Addr} {kV_law dc_law pm_law ct_law : Value} {sl_law : Array (Option Value)}
    {cd_law : Value}
    {C_NoName fI_NoName cc_NoName cda_NoName : Addr} {xoc_NoName xkV_NoName xdc_NoName xpm_NoName xct_NoName xcl_NoName xel_NoName : Value} {xod_NoName xan_NoName xcd_NoName xed_NoName : Option Addr} {xsl_NoName xcs_NoName xes_NoName : Array (Option Value)} {xvs_NoName : Array Value} {xfi_NoName : Str} {xtk_NoName : Tok}
    {t_LETTERS : Tok}
    {t_LONGEST_NAME : Tok}
    {t_LONGEST_PATH : Tok}
    (a_is_name : PySem.W.nsIn K mainGlobals "is_name" = some (some (.ref f_is_name))) (l_is_name : K.lookup f_is_name = some ⟨oc_is_name, od_is_name, .func (PySem.W.fnOf "is_name" "is_name" (defArgs s_is_name) (defBody s_is_name) (defScope s_is_name) .none kV_is_name dc_is_name pm_is_name an_is_name (.ref cc_is_name) ct_is_name), sl_is_name⟩) (c_is_name : PySem.W.codeIn K (.ref cc_is_name) "is_name" = true) (k_is_name : PySem.W.keepIn K (.ref f_is_name) = true)
    (e_is_name : K.lookup cc_is_name = some ⟨ec_is_name, ed_is_name, .fields ev_is_name, es_is_name⟩) (p_is_name : ev_is_name[11]? = some (.ref pt_is_name)) (o_is_name : K.lookup pt_is_name = none) (r_is_name : ((recsOf q).any fun e => e.name == ("is_name" : Str)) = true)
    (a_is_path : PySem.W.nsIn K mainGlobals "is_path" = some (some (.ref f_is_path))) (l_is_path : K.lookup f_is_path = some ⟨oc_is_path, od_is_path, .func (PySem.W.fnOf "is_path" "is_path" (defArgs s_is_path) (defBody s_is_path) (defScope s_is_path) .none kV_is_path dc_is_path pm_is_path an_is_path (.ref cc_is_path) ct_is_path), sl_is_path⟩) (c_is_path : PySem.W.codeIn K (.ref cc_is_path) "is_path" = true) (k_is_path : PySem.W.keepIn K (.ref f_is_path) = true)
    (e_is_path : K.lookup cc_is_path = some ⟨ec_is_path, ed_is_path, .fields ev_is_path, es_is_path⟩) (p_is_path : ev_is_path[11]? = some (.ref pt_is_path)) (o_is_path : K.lookup pt_is_path = none) (r_is_path : ((recsOf q).any fun e => e.name == ("is_path" : Str)) = true)
    (a_written_path : PySem.W.nsIn K mainGlobals "written_path" = some (some (.ref f_written_path))) (l_written_path : K.lookup f_written_path = some ⟨oc_written_path, od_written_path, .func (PySem.W.fnOf "written_path" "written_path" (defArgs s_written_path) (defBody s_written_path) (defScope s_written_path) .none kV_written_path dc_written_path pm_written_path an_written_path cd_written_path ct_written_path), sl_written_path⟩) (c_written_path : PySem.W.codeIn K cd_written_path "written_path" = true) (k_written_path : PySem.W.keepIn K (.ref f_written_path) = true)
    (a_read_path : PySem.W.nsIn K mainGlobals "read_path" = some (some (.ref f_read_path))) (l_read_path : K.lookup f_read_path = some ⟨oc_read_path, od_read_path, .func (PySem.W.fnOf "read_path" "read_path" (defArgs s_read_path) (defBody s_read_path) (defScope s_read_path) .none kV_read_path dc_read_path pm_read_path an_read_path cd_read_path ct_read_path), sl_read_path⟩) (c_read_path : PySem.W.codeIn K cd_read_path "read_path" = true) (k_read_path : PySem.W.keepIn K (.ref f_read_path) = true)
    (a_l_mixed : PySem.W.nsIn K mainGlobals "_law_mixed" = some (some (.ref f_l_mixed))) (l_l_mixed : K.lookup f_l_mixed = some ⟨oc_l_mixed, od_l_mixed, .func (PySem.W.fnOf "_law_mixed" "_law_mixed" (defArgs s_l_mixed) (defBody s_l_mixed) (defScope s_l_mixed) .none kV_l_mixed dc_l_mixed pm_l_mixed an_l_mixed cd_l_mixed ct_l_mixed), sl_l_mixed⟩) (c_l_mixed : PySem.W.codeIn K cd_l_mixed "_law_mixed" = true) (k_l_mixed : PySem.W.keepIn K (.ref f_l_mixed) = true)
    (a_l_draws : PySem.W.nsIn K mainGlobals "_law_draws" = some (some (.ref f_l_draws))) (l_l_draws : K.lookup f_l_draws = some ⟨oc_l_draws, od_l_draws, .func (PySem.W.fnOf "_law_draws" "_law_draws" (defArgs s_l_draws) (defBody s_l_draws) (defScope s_l_draws) .none kV_l_draws dc_l_draws pm_l_draws an_l_draws cd_l_draws ct_l_draws), sl_l_draws⟩) (c_l_draws : PySem.W.codeIn K cd_l_draws "_law_draws" = true) (k_l_draws : PySem.W.keepIn K (.ref f_l_draws) = true)
    (a_l_next : PySem.W.nsIn K mainGlobals "_law_next" = some (some (.ref f_l_next))) (l_l_next : K.lookup f_l_next = some ⟨oc_l_next, od_l_next, .func (PySem.W.fnOf "_law_next" "_law_next" (defArgs s_l_next) (defBody s_l_next) (defScope s_l_next) .none kV_l_next dc_l_next pm_l_next an_l_next cd_l_next ct_l_next), sl_l_next⟩) (c_l_next : PySem.W.codeIn K cd_l_next "_law_next" = true) (k_l_next : PySem.W.keepIn K (.ref f_l_next) = true)
    (a_l_name : PySem.W.nsIn K mainGlobals "_law_name" = some (some (.ref f_l_name))) (l_l_name : K.lookup f_l_name = some ⟨oc_l_name, od_l_name, .func (PySem.W.fnOf "_law_name" "_law_name" (defArgs s_l_name) (defBody s_l_name) (defScope s_l_name) .none kV_l_name dc_l_name pm_l_name an_l_name cd_l_name ct_l_name), sl_l_name⟩) (c_l_name : PySem.W.codeIn K cd_l_name "_law_name" = true) (k_l_name : PySem.W.keepIn K (.ref f_l_name) = true)
    (a_l_long_path : PySem.W.nsIn K mainGlobals "_law_long_path" = some (some (.ref f_l_long_path))) (l_l_long_path : K.lookup f_l_long_path = some ⟨oc_l_long_path, od_l_long_path, .func (PySem.W.fnOf "_law_long_path" "_law_long_path" (defArgs s_l_long_path) (defBody s_l_long_path) (defScope s_l_long_path) .none kV_l_long_path dc_l_long_path pm_l_long_path an_l_long_path cd_l_long_path ct_l_long_path), sl_l_long_path⟩) (c_l_long_path : PySem.W.codeIn K cd_l_long_path "_law_long_path" = true) (k_l_long_path : PySem.W.keepIn K (.ref f_l_long_path) = true)
    (a_l_refused : PySem.W.nsIn K mainGlobals "_law_refused" = some (some (.ref f_l_refused))) (l_l_refused : K.lookup f_l_refused = some ⟨oc_l_refused, od_l_refused, .func (PySem.W.fnOf "_law_refused" "_law_refused" (defArgs s_l_refused) (defBody s_l_refused) (defScope s_l_refused) .none kV_l_refused dc_l_refused pm_l_refused an_l_refused cd_l_refused ct_l_refused), sl_l_refused⟩) (c_l_refused : PySem.W.codeIn K cd_l_refused "_law_refused" = true) (k_l_refused : PySem.W.keepIn K (.ref f_l_refused) = true)
    (a_l_text : PySem.W.nsIn K mainGlobals "_law_text" = some (some (.ref f_l_text))) (l_l_text : K.lookup f_l_text = some ⟨oc_l_text, od_l_text, .func (PySem.W.fnOf "_law_text" "_law_text" (defArgs s_l_text) (defBody s_l_text) (defScope s_l_text) .none kV_l_text dc_l_text pm_l_text an_l_text cd_l_text ct_l_text), sl_l_text⟩) (c_l_text : PySem.W.codeIn K cd_l_text "_law_text" = true) (k_l_text : PySem.W.keepIn K (.ref f_l_text) = true)
    (a_law : PySem.W.nsIn K mainGlobals "law" = some (some (.ref f_law))) (l_law : K.lookup f_law = some ⟨oc_law, od_law, .func (PySem.W.fnOf "law" "law" (defArgs s_law) (defBody s_law) (defScope s_law) .none kV_law dc_law pm_law an_law cd_law ct_law), sl_law⟩) (c_law : PySem.W.codeIn K cd_law "law" = true) (k_law : PySem.W.keepIn K (.ref f_law) = true)
    (xm_NoName : PySem.W.nsIn K mainGlobals "NoName" = some (some (.ref C_NoName))) (xq_NoName : PySem.W.excInitIn K C_NoName exBases "ValueError.__new__" = true) (xk_NoName : PySem.W.keepIn K (.ref C_NoName) = true) (xs_NoName : PySem.W.subIn K (.ref C_NoName) (.type "BaseException") = some true) (xt_NoName : PySem.W.typeIn K (.ref C_NoName) = some (.type "type")) (xi_NoName : PySem.W.isClsIn K C_NoName = true) (xf_NoName : PySem.W.subIn K (.ref C_NoName) (.ref C_NoName) = some true) (xv_NoName : PySem.W.subIn K (.ref C_NoName) (.type "ValueError") = some true) (xu_NoName : PySem.W.ks_superIn K C_NoName C_NoName "__init__" = some (some (.builtin "ValueError.__init__"))) (xr_NoName : PySem.W.mroIn K C_NoName (.ref C_NoName) = some true) (xg_NoName : PySem.W.findIn K (.ref C_NoName) "__init__" = some (some (.ref fI_NoName))) (xh_NoName : PySem.W.typeIn K (.ref fI_NoName) = some (.type "function")) (xl_NoName : K.lookup fI_NoName = some ⟨xoc_NoName, xod_NoName, .func (PySem.W.ksFn "__init__" "NoName.__init__" (defArgs s_NoName_init) (defBody s_NoName_init) (defScope s_NoName_init) .none xkV_NoName xdc_NoName xpm_NoName xan_NoName (.ref cda_NoName) xct_NoName cc_NoName), xsl_NoName⟩) (xc_NoName : PySem.W.codeIn K (.ref cda_NoName) "NoName.__init__" = true) (xd_NoName : K.lookup cda_NoName = some ⟨xcl_NoName, xcd_NoName, .fields xvs_NoName, xcs_NoName⟩) (xw_NoName : xvs_NoName[2]? = some (.str xfi_NoName xtk_NoName)) (xy_NoName : ((l.prog.main.file : Str) == xfi_NoName) = true) (xe_NoName : K.lookup cc_NoName = some ⟨xel_NoName, xed_NoName, .cell (some (.ref C_NoName)), xes_NoName⟩)
    (y_op : PySem.W.nsIn K cStatics "thirdparty.any" = some none) (y_super : PySem.W.nsIn K mainGlobals "super" = some none) (y_ps : (l.prog.main.scope.names.lookup ("super" : Str)).isSome = false)
    (z_abs : PySem.W.nsIn K mainGlobals "abs" = some none)
    (z_all : PySem.W.nsIn K mainGlobals "all" = some none)
    (z_isinstance : PySem.W.nsIn K mainGlobals "isinstance" = some none)
    (z_len : PySem.W.nsIn K mainGlobals "len" = some none)
    (z_list : PySem.W.nsIn K mainGlobals "list" = some none)
    (z_min : PySem.W.nsIn K mainGlobals "min" = some none)
    (z_range : PySem.W.nsIn K mainGlobals "range" = some none)
    (z_str : PySem.W.nsIn K mainGlobals "str" = some none)
    (z_tuple : PySem.W.nsIn K mainGlobals "tuple" = some none)
    (z_LETTERS : PySem.W.nsIn K mainGlobals "LETTERS" = some (some (.str letters t_LETTERS)))
    (z_LONGEST_NAME : PySem.W.nsIn K mainGlobals "LONGEST_NAME" = some (some (.int 8 t_LONGEST_NAME)))
    (z_LONGEST_PATH : PySem.W.nsIn K mainGlobals "LONGEST_PATH" = some (some (.int 6 t_LONGEST_PATH))) :
    LamX.LawAtS l w K CX0 6 63 "_law_script" mg fa h := by
  have F_is_name := fnAt_mk (st := s_is_name) (ps := ["one"]) (PySem.W.mg_of X G a_is_name) l_is_name c_is_name k_is_name (fun us hl => match us, hl with | [_], _ => rfl)
  have B_is_name := tabs "is_name" f_is_name cc_is_name pt_is_name _ _ _ _ _ _ r_is_name (PySem.W.mg_of X G a_is_name) l_is_name rfl rfl e_is_name p_is_name
  have F_is_path := fnAt_mk (st := s_is_path) (ps := ["one"]) (PySem.W.mg_of X G a_is_path) l_is_path c_is_path k_is_path (fun us hl => match us, hl with | [_], _ => rfl)
  have B_is_path := tabs "is_path" f_is_path cc_is_path pt_is_path _ _ _ _ _ _ r_is_path (PySem.W.mg_of X G a_is_path) l_is_path rfl rfl e_is_path p_is_path
  have F_written_path := fnAt_mk (st := s_written_path) (ps := ["path"]) (PySem.W.mg_of X G a_written_path) l_written_path c_written_path k_written_path (fun us hl => match us, hl with | [_], _ => rfl)
  have F_read_path := fnAt_mk (st := s_read_path) (ps := ["text"]) (PySem.W.mg_of X G a_read_path) l_read_path c_read_path k_read_path (fun us hl => match us, hl with | [_], _ => rfl)
  have F_l_mixed := fnAt_mk (st := s_l_mixed) (ps := ["_law_cell", "_law_k"]) (PySem.W.mg_of X G a_l_mixed) l_l_mixed c_l_mixed k_l_mixed (fun us hl => match us, hl with | [_, _], _ => rfl)
  have F_l_draws := fnAt_mk (st := s_l_draws) (ps := ["_law_script"]) (PySem.W.mg_of X G a_l_draws) l_l_draws c_l_draws k_l_draws (fun us hl => match us, hl with | [_], _ => rfl)
  have F_l_next := fnAt_mk (st := s_l_next) (ps := ["_law_drawn"]) (PySem.W.mg_of X G a_l_next) l_l_next c_l_next k_l_next (fun us hl => match us, hl with | [_], _ => rfl)
  have F_l_name := fnAt_mk (st := s_l_name) (ps := ["_law_number"]) (PySem.W.mg_of X G a_l_name) l_l_name c_l_name k_l_name (fun us hl => match us, hl with | [_], _ => rfl)
  have F_l_long_path := fnAt_mk (st := s_l_long_path) (ps := ["_law_drawn"]) (PySem.W.mg_of X G a_l_long_path) l_l_long_path c_l_long_path k_l_long_path (fun us hl => match us, hl with | [_], _ => rfl)
  have F_l_refused := fnAt_mk (st := s_l_refused) (ps := ["_law_one"]) (PySem.W.mg_of X G a_l_refused) l_l_refused c_l_refused k_l_refused (fun us hl => match us, hl with | [_], _ => rfl)
  have F_l_text := fnAt_mk (st := s_l_text) (ps := ["_law_path"]) (PySem.W.mg_of X G a_l_text) l_l_text c_l_text k_l_text (fun us hl => match us, hl with | [_], _ => rfl)
  have F_law := fnAt_mk (st := s_law) (ps := ["_law_script"]) (PySem.W.mg_of X G a_law) l_law c_law k_law (fun us hl => match us, hl with | [_], _ => rfl)
  have x_NoName : ExcI l.prog K mg "NoName" C_NoName := by
    obtain ⟨p2, p3, sh⟩ := sh_NoName
    exact ⟨PySem.W.mg_of X G xm_NoName, xq_NoName, xk_NoName, xs_NoName, xt_NoName, xi_NoName, xf_NoName, xv_NoName, xu_NoName, xr_NoName, y_op, PySem.W.mg_none_of X G y_super, y_ps, fI_NoName, xg_NoName, xh_NoName, _, _, s_NoName_init, p2, p3, _, _, _, _, _, _, _, _, _, _, _, _, _, _, _, _, _, _, sh, xl_NoName, xc_NoName, xd_NoName, xw_NoName, xy_NoName, xe_NoName⟩
  have T : Txt K mg := ⟨PySem.W.mg_none_of X G z_abs, PySem.W.mg_none_of X G z_all, PySem.W.mg_none_of X G z_isinstance, PySem.W.mg_none_of X G z_len, PySem.W.mg_none_of X G z_list, PySem.W.mg_none_of X G z_min, PySem.W.mg_none_of X G z_range, PySem.W.mg_none_of X G z_str, PySem.W.mg_none_of X G z_tuple, ⟨_, PySem.W.mg_of X G z_LETTERS, ⟨_, rfl⟩⟩, ⟨_, PySem.W.mg_of X G z_LONGEST_NAME, ⟨_, rfl⟩⟩, ⟨_, PySem.W.mg_of X G z_LONGEST_PATH, ⟨_, rfl⟩⟩⟩
  refine law_at (cs := [(cc_is_name, pt_is_name), (cc_is_path, pt_is_path)]) (sp := spLaw K [pt_is_name, pt_is_path]) (q := q) hfa F_law ?_ (fun kV doc pm an ct s u => .of_eq rfl) (fun H a ns h1 _ h3 h4 => ⟨a, ns, rfl, h4, h1, h3, fun _ => rfl⟩) (fun base _ _ TB => ?_)
  · intro p hp
    simp only [List.mem_cons, List.not_mem_nil, or_false] at hp
    rcases hp with rfl | rfl
    · exact ⟨B_is_name.1, B_is_name.2, o_is_name⟩
    · exact ⟨B_is_path.1, B_is_path.2, o_is_path⟩
  · have C1 := ok_is_name (P := l.prog) (w := w) (tb := [pt_is_name, pt_is_path]) T (TB (cc_is_name, pt_is_name) (by simp)) (by simp) F_is_name
    have C2 := ok_is_path (P := l.prog) (w := w) (tb := [pt_is_name, pt_is_path]) T (TB (cc_is_path, pt_is_path) (by simp)) (by simp) F_is_path C1
    have C3 := ok_written_path (P := l.prog) (w := w) (base := base) F_written_path
    have C4 := ok_read_path T x_NoName F_read_path C2
    have C5 := ok_l_mixed (P := l.prog) (w := w) (base := base) F_l_mixed
    have C6 := ok_l_draws (tb := [pt_is_name, pt_is_path]) T F_l_draws C5
    have C7 := ok_l_next (P := l.prog) (w := w) (base := base) (tb := [pt_is_name, pt_is_path]) F_l_next
    have C8 := ok_l_name (P := l.prog) (w := w) (base := base) (tb := [pt_is_name, pt_is_path]) F_l_name
    have C9 := ok_l_long_path T F_l_long_path C7 C8
    have C10 := ok_l_refused x_NoName F_l_refused C4
    have C11 := ok_l_text (P := l.prog) (w := w) (base := base) F_l_text
    exact ok_law T C6 C9 C11 C3 C4 C10
end K02
open PySem PySem.W PyProof.Rows
set_option maxRecDepth 100000 in
set_option maxHeartbeats 0 in
theorem PySem.Challenge.cw_snapshelf_k02_paths_holds : PySem.Challenge.rw_snapshelf_k02_paths.Holds := by
  w_on; o_law; k_head; (case hw => w_witness2)
  k_fill
  refine HK.walk_tabs (l := PySem.Challenge.rw_snapshelf_k02_paths) (n := 63) (k := 6) (x := "_law_script") (CX := fun _ => L2.CX0) rfl (by decide) rfl ⟨rfl, by decide, by decide⟩ (fun w h Y => PySem.W.kIn_of Y) ?F (fun _ _ _ _ _ h => h)
  case F =>
    intro w mg fa h Y KX G hmg tabs
    refine' K02.all_mk KX G hmg tabs ?a_is_name ?l_is_name ?c_is_name ?k_is_name ?e_is_name ?p_is_name ?o_is_name ?r_is_name ?a_is_path ?l_is_path ?c_is_path ?k_is_path ?e_is_path ?p_is_path ?o_is_path ?r_is_path ?a_written_path ?l_written_path ?c_written_path ?k_written_path ?a_read_path ?l_read_path ?c_read_path ?k_read_path ?a_l_mixed ?l_l_mixed ?c_l_mixed ?k_l_mixed ?a_l_draws ?l_l_draws ?c_l_draws ?k_l_draws ?a_l_next ?l_l_next ?c_l_next ?k_l_next ?a_l_name ?l_l_name ?c_l_name ?k_l_name ?a_l_long_path ?l_l_long_path ?c_l_long_path ?k_l_long_path ?a_l_refused ?l_l_refused ?c_l_refused ?k_l_refused ?a_l_text ?l_l_text ?c_l_text ?k_l_text ?a_law ?l_law ?c_law ?k_law ?xm_NoName ?xq_NoName ?xk_NoName ?xs_NoName ?xt_NoName ?xi_NoName ?xf_NoName ?xv_NoName ?xu_NoName ?xr_NoName ?xg_NoName ?xh_NoName ?xl_NoName ?xc_NoName ?xd_NoName ?xw_NoName ?xy_NoName ?xe_NoName ?y_op ?y_super ?y_ps ?z_abs ?z_all ?z_isinstance ?z_len ?z_list ?z_min ?z_range ?z_str ?z_tuple ?z_LETTERS ?z_LONGEST_NAME ?z_LONGEST_PATH
    (case a_is_name => k_is)
    (case l_is_name => k_is)
    (case c_is_name => k_is)
    (case k_is_name => k_is)
    (case e_is_name => k_is)
    (case p_is_name => rfl)
    (case o_is_name => first | k_is | rfl | decide +kernel)
    (case r_is_name => decide +kernel)
    (case a_is_path => k_is)
    (case l_is_path => k_is)
    (case c_is_path => k_is)
    (case k_is_path => k_is)
    (case e_is_path => k_is)
    (case p_is_path => rfl)
    (case o_is_path => first | k_is | rfl | decide +kernel)
    (case r_is_path => decide +kernel)
    (case a_written_path => k_is)
    (case l_written_path => k_is)
    (case c_written_path => k_is)
    (case k_written_path => k_is)
    (case a_read_path => k_is)
    (case l_read_path => k_is)
    (case c_read_path => k_is)
    (case k_read_path => k_is)
    (case a_l_mixed => k_is)
    (case l_l_mixed => k_is)
    (case c_l_mixed => k_is)
    (case k_l_mixed => k_is)
    (case a_l_draws => k_is)
    (case l_l_draws => k_is)
    (case c_l_draws => k_is)
    (case k_l_draws => k_is)
    (case a_l_next => k_is)
    (case l_l_next => k_is)
    (case c_l_next => k_is)
    (case k_l_next => k_is)
    (case a_l_name => k_is)
    (case l_l_name => k_is)
    (case c_l_name => k_is)
    (case k_l_name => k_is)
    (case a_l_long_path => k_is)
    (case l_l_long_path => k_is)
    (case c_l_long_path => k_is)
    (case k_l_long_path => k_is)
    (case a_l_refused => k_is)
    (case l_l_refused => k_is)
    (case c_l_refused => k_is)
    (case k_l_refused => k_is)
    (case a_l_text => k_is)
    (case l_l_text => k_is)
    (case c_l_text => k_is)
    (case k_l_text => k_is)
    (case a_law => k_is)
    (case l_law => k_is)
    (case c_law => k_is)
    (case k_law => k_is)
    (case xm_NoName => k_is)
    (case xq_NoName => first | kx_is | kernel_rfl)
    (case xk_NoName => k_is)
    (case xs_NoName => k_is)
    (case xt_NoName => k_is)
    (case xi_NoName => k_is)
    (case xf_NoName => first | rfl | k_is)
    (case xv_NoName => k_is)
    (case xu_NoName => first | ks_is | kernel_rfl)
    (case xr_NoName => first | k_is | rfl)
    (case xg_NoName => k_is)
    (case xh_NoName => k_is)
    (case xl_NoName => first | k_is | rfl)
    (case xc_NoName => k_is)
    (case xd_NoName => first | k_is | rfl)
    (case xw_NoName => rfl)
    (case xy_NoName => first | rfl | decide +kernel)
    (case xe_NoName => first | k_is | rfl)
    (case y_op => k_is)
    (case y_super => k_is)
    (case y_ps => first | rfl | decide +kernel)
    (case z_abs => k_is)
    (case z_all => k_is)
    (case z_isinstance => k_is)
    (case z_len => k_is)
    (case z_list => k_is)
    (case z_min => k_is)
    (case z_range => k_is)
    (case z_str => k_is)
    (case z_tuple => k_is)
    (case z_LETTERS => k_is)
    (case z_LONGEST_NAME => k_is)
    (case z_LONGEST_PATH => k_is)

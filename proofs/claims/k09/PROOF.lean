import PyProof.Rows.All
import Wide.All
import OpenK.AllK
import Wide.FinOn
import HandS.GenList
import HandS.AnyAll
import HandS.EndOwn
import HandS.ForMost
import HandS.ForExc
import HandS.IsInst
import HandS.TupAny
import HandS.Wide
import HandS.Style
import HandS.Small
import HandS.Flow
import HandS.Replace
import HandS.Codes
import HandS.TupMul
import KE.KExcSuper
import HandS.Zip
import KE.KExcLine
import PySem.Challenge.RW_snapshelf_k09_what_is_a_deed
set_option Elab.async false
set_option linter.all false
set_option maxRecDepth 100000
set_option maxHeartbeats 2000000
namespace GX
open PySem PySem.Spec PyProof.Rows L2 GenW

/-- the frame of a generator expression that is woken by a builtin of this def -/
def gcx (X : Cx) (cenv : Env) (N : List Str) (s4 : Shared) (H4 : Hp) (fp : List Addr) (pn : List (Addr × Obj)) : Cx :=
  { prog := X.prog, w := X.w, K := X.K, mg := X.mg, base := X.base, A := X.A.in1.in1.deeper cenv, N := N, s_0 := s4, H_0 := H4, env := cenv, outer := X.stack, stack := cenv :: X.stack, ex := fp, fn := fun _ => false, calm := true, pn := pn, xe := fun _ _ => False }

theorem clo_nil {cells : List (Str × Addr)} : ∀ {names : List (Str × NameKind)}, (∀ y ∈ names, y.2 ≠ .free) → cloFrom cells names [] = []
  | [], _ => rfl
  | (n, k) :: r, h => by
    unfold cloFrom
    have hk : ¬ (k == NameKind.free) = true := by
      have := h (n, k) List.mem_cons_self
      simpa using this
    rw [if_neg hk]
    exact clo_nil fun y hy => h y (List.mem_cons_of_mem _ hy)

/-- the scope of a generator expression that captures nothing -/
structure GScp (scope : Scope) : Prop where
  kind : scope.kind = .function
  co : scope.isCoroutine = false
  cell : ∀ y ∈ scope.names, y.2 ≠ .cell
  free : ∀ y ∈ scope.names, y.2 ≠ .free
  dot : scope.names.lookup (".0" : Str) = some NameKind.local

def Slp (s s' : Shared) : Prop := s'.os = s.os ∧ AllBare s'.gens ∧ ∀ b o, s.heap.get? b = some o → s'.heap.get? b = some o
def tau0 (N : List Str) : L2.St := N.map fun _ => none

/-- what is known where the generator stands at turn i -/
def At (Xg : Cx) (fp : List Addr) (tn : Nat → Heap → Prop) (i : Nat) (H : Hp) (s : Shared) : Prop :=
  Inv Xg [] (tau0 Xg.N) H s ∧ tn i s.heap ∧ ∀ b ∈ fp, H b = none
theorem At.slp {Xg : Cx} {fp : List Addr} {tn : Nat → Heap → Prop} {i : Nat} {H : Hp} {s s' : Shared} (hk : ∀ i h h', tn i h → (∀ b ∈ fp, ∀ o, h.get? b = some o → h'.get? b = some o) → tn i h') (h : At Xg fp tn i H s) (z : Slp s s') : At Xg fp tn i H s' := by
  obtain ⟨I, st, fr⟩ := h
  exact ⟨I.call' (ch := []) z.1 (Un.kept z.2.2) (I.hok.kept z.2.2) z.2.1 (fun b hb => by simp at hb), hk _ _ _ st fun b _ o e => z.2.2 b o e, fr⟩
theorem inv_forget {X : Cx} {pins : List (Addr × Obj)} {σ : L2.St} {H : Hp} {s : Shared} (I : Inv X pins σ H s) : Inv X pins (tau0 X.N) H s :=
  I.weak (by rw [I.len]; simp [tau0]) fun i v e => by
    unfold tau0 at e
    rw [List.getElem?_map] at e
    cases q : X.N[i]? with
    | none => rw [q] at e; cases e
    | some y => rw [q] at e; cases e

def RX (Xg : Cx) (fp : List Addr) (Endp : Hp → Prop) : GenEnd := fun n s₀ r s => ((r = .ok (.ret .none) ∨ r = .ok .next) ∧ ∃ H, Inv Xg [] (tau0 Xg.N) H s ∧ Endp H) ∨ ∃ e, r = .error e ∧ False
def YX (Xg : Cx) (fp : List Addr) (tn : Nat → Heap → Prop) (len : Nat) (W : Nat → Hp → Prop) (Yp : Nat → V → Hp → Prop) : Protocol := fun n s₀ v s kap =>
  ∃ i y H, n + 1 + i = len ∧ RelV y v ∧ At Xg fp tn (i + 1) H s ∧ Yp i y H ∧ (W (i + 1) H → ∀ s', Slp s s' → kap (.send .none) s')

section
variable {X : Cx} {scope : Scope} {cenv : Env} {N : List Str} {s4 : Shared} {H4 : Hp} {fp : List Addr} {pn : List (Addr × Obj)} {tg elt iter : Expr} {pos : Pos} {it : Addr} {tn : Nat → Heap → Prop} {J : It} {len : Nat} {W : Nat → Hp → Prop} {Yp : Nat → V → Hp → Prop} {Endp : Hp → Prop} {g : TG} {te : TE}

theorem seg_gx (hco : cenv.scope.isCoroutine = false) (T : Turn X.prog X.w X.K tg J fp it tn) (hfp : ∀ H, (∀ b ∈ fp, H b = none) → ∀ b ∈ fp, FpOk (gcx X cenv N s4 H4 fp pn) [] H b)
    (hg : PG (gcx X cenv N s4 H4 fp pn) tg g) (he : PE (gcx X cenv N s4 H4 fp pn) elt te)
    (hW : ∀ i H, W i H → i ≤ len ∧ ((J.stop i H ∧ Endp H) ∨ (i < len ∧ J.go i H ∧ ∀ x H', J.yld i H x H' → g x (tau0 N) H' fun τ2 H2 => te τ2 H2 fun y H3 => Yp i y H3))) :
    ∀ (k i : Nat) (s₀ s : Shared) (H : Hp), len - i = k → At (gcx X cenv N s4 H4 fp pn) fp tn i H s → W i H →
      Seg (model X.prog X.w) X.A.in1.in1 (RX (gcx X cenv N s4 H4 fp pn) fp Endp) (YX (gcx X cenv N s4 H4 fp pn) fp tn len W Yp) (len - i) s₀
        (.compLoop (.GeneratorExp elt [⟨tg, iter, [], 0⟩] scope pos) 0 (.ref it) .none cenv)
        ((model X.prog X.w).den (.compLoop (.GeneratorExp elt [⟨tg, iter, [], 0⟩] scope pos) 0 (.ref it) .none cenv)) [] s := by
  have hov : X.A.in1.in1.over (.compLoop (.GeneratorExp elt [⟨tg, iter, [], 0⟩] scope pos) 0 (.ref it) .none cenv) [] = (gcx X cenv N s4 H4 fp pn).A := rfl
  intro k
  induction k with
  | zero =>
    intro i s₀ s H hk hA w
    obtain ⟨hil, hc⟩ := hW i H w
    obtain ⟨stop, hE⟩ : J.stop i H ∧ Endp H := by
      rcases hc with hc | ⟨hlt, _⟩
      · exact hc
      · omega
    obtain ⟨I, st, fr⟩ := hA
    show Seg _ X.A.in1.in1 _ _ _ s₀ _ ((compTurn (.GeneratorExp elt [⟨tg, iter, [], 0⟩] scope pos) 0 (.ref it) .none cenv).onRaise (leaving cenv)) [] s
    rw [compTurn_gen, Sem.onRaise_eq_wrap]
    refine seg_bind_wrap (wpAny_standAt ?_)
    refine seg_bind_wrap ?_
    rw [hov]
    refine thn (T.done (gcx X cenv N s4 H4 fp pn) rfl rfl rfl rfl i [] s (tau0 N) H _ I (hfp H fr) st stop) fun r s1 ⟨hr, I1⟩ => ?_
    subst hr
    exact seg_end (.ok .next) (.inl ⟨.inr rfl, H, I1, hE⟩)
  | succ k ih =>
    intro i s₀ s H hk hA w
    obtain ⟨hil, hc⟩ := hW i H w
    obtain ⟨I, st, fr⟩ := hA
    show Seg _ X.A.in1.in1 _ _ _ s₀ _ ((compTurn (.GeneratorExp elt [⟨tg, iter, [], 0⟩] scope pos) 0 (.ref it) .none cenv).onRaise (leaving cenv)) [] s
    rw [compTurn_gen, Sem.onRaise_eq_wrap]
    refine seg_bind_wrap (wpAny_standAt ?_)
    refine seg_bind_wrap ?_
    rw [hov]
    rcases hc with ⟨stop, hE⟩ | ⟨hlt, go, step⟩
    · refine thn (T.done (gcx X cenv N s4 H4 fp pn) rfl rfl rfl rfl i [] s (tau0 N) H _ I (hfp H fr) st stop) fun r s1 ⟨hr, I1⟩ => ?_
      subst hr
      exact seg_end (.ok .next) (.inl ⟨.inr rfl, H, I1, hE⟩)
    · refine thn (T.item (gcx X cenv N s4 H4 fp pn) rfl rfl rfl rfl i [] s (tau0 N) H _ I (hfp H fr) st go) fun r s1 ⟨u, hr, h1⟩ => ?_
      subst hr
      refine seg_bind_wrap ?_
      rw [hov]
      refine thn h1 fun _ s2 ⟨x, H', I2, r2, y2, st2, fr2⟩ => ?_
      have I2' := I2.pinned (hfp H' fr2) (T.obj _ _ st2)
      refine seg_bind_wrap ?_
      rw [hov]
      refine wpAny_mono (hg.run _ s2 _ H' x u _ I2' r2 (step x H' y2)) (fun _ s3 ⟨τ3, H3, I3, q3⟩ => ?_) fun _ _ e => (show False from e).elim
      refine seg_bind_wrap (wpAny_of_eq (a := true) (by first | rfl | exact List.forIn_nil ..) ?_)
      simp only [if_true]
      have hy : ∀ v, yieldOut cenv v = yieldValue v := fun v => by simp only [yieldOut, hco, Bool.false_eq_true, if_false]
      simp only [hy]
      rw [Sem.bind_eq_wrap', Sem.bind_eq_wrap', Sem.wrap_wrap, Sem.wrap_wrap]
      refine seg_wrap ?_
      rw [hov]
      refine wpAny_mono (he.run _ s3 τ3 H3 _ I3 q3) (fun v s5 h5 => ?_) fun _ _ e => (show False from e).elim
      obtain ⟨y, H5, I5, r5, q5⟩ := h5
      have A5 : At (gcx X cenv N s4 H4 fp pn) fp tn (i + 1) H5 s5 := by
        refine ⟨inv_forget (I5.unpinned (pins := [])), T.keep _ _ _ st2 fun b hb o e => (I5.pin (b, o) (List.mem_append_right _ (List.mem_append_right _ (mem_pinsAt hb e)))).1, fun b hb => ?_⟩
        obtain ⟨o, e, d⟩ := T.obj _ _ st2 b hb
        exact (I5.pin (b, o) (List.mem_append_right _ (List.mem_append_right _ (mem_pinsAt hb e)))).2.1
      have hl : len - i = (len - (i + 1)) + 1 := by omega
      rw [hl]
      refine seg_at (seg_yield rfl rfl rfl ⟨i, y, H5, by omega, r5, A5, q5, fun w1 s'' hz => ?_⟩)
      exact seg_again rfl (ih (i + 1) s'' s'' H5 (by omega) (A5.slp T.keep hz) w1)

theorem seg_gs (hco : cenv.scope.isCoroutine = false) (T : Turn X.prog X.w X.K tg J fp it tn) (hfp : ∀ H, (∀ b ∈ fp, H b = none) → ∀ b ∈ fp, FpOk (gcx X cenv N s4 H4 fp pn) [] H b)
    (hg : PG (gcx X cenv N s4 H4 fp pn) tg g) (he : PE (gcx X cenv N s4 H4 fp pn) elt te)
    (hW : ∀ i H, W i H → i ≤ len ∧ ((J.stop i H ∧ Endp H) ∨ (i < len ∧ J.go i H ∧ ∀ x H', J.yld i H x H' → g x (tau0 N) H' fun τ2 H2 => te τ2 H2 fun y H3 => Yp i y H3)))
    (s₀ s : Shared) (H : Hp) (hA : At (gcx X cenv N s4 H4 fp pn) fp tn 0 H s) (w : W 0 H) :
      Seg (model X.prog X.w) X.A.in1.in1 (RX (gcx X cenv N s4 H4 fp pn) fp Endp) (YX (gcx X cenv N s4 H4 fp pn) fp tn len W Yp) len s₀
        (.compStart (.GeneratorExp elt [⟨tg, iter, [], 0⟩] scope pos) 0 (.ref it) .none cenv)
        ((model X.prog X.w).den (.compStart (.GeneratorExp elt [⟨tg, iter, [], 0⟩] scope pos) 0 (.ref it) .none cenv)) [] s := by
  have loop := seg_gx (iter := iter) (scope := scope) (pos := pos) hco T hfp hg he hW len 0 s₀ s H (Nat.sub_zero _) hA w
  rw [Nat.sub_zero] at loop
  show Seg _ X.A.in1.in1 _ _ _ s₀ _ ((compStart (.GeneratorExp elt [⟨tg, iter, [], 0⟩] scope pos) 0 (.ref it) .none cenv).onRaise (leaving cenv)) [] s
  unfold compStart
  rw [Sem.onRaise_eq_wrap]
  show Seg _ X.A.in1.in1 _ _ _ s₀ _ ((ask >>= _).wrap _ _ _ _) [] s
  refine seg_bind_wrap (wpAny_askSetting ?_)
  split
  · exact seg_again rfl loop
  · first
      | exact seg_bind_wrap (wpAny_rule (seg_bind_wrap (wpAny_standAt (seg_bind_wrap (T.self _ 0 s _ _ hA.2.1 (seg_again rfl loop))))))
      | (refine seg_bind_wrap (wpAny_rule ?_); show Seg _ X.A.in1.in1 _ _ _ s₀ _ ((standAt iter.pos >>= _).wrap _ _ _ _) [] s; exact seg_bind_wrap (wpAny_standAt (seg_bind_wrap (T.self _ 0 s _ _ hA.2.1 (seg_again rfl loop)))))
end

/-- the generator at a stands ready, with so many turns at most -/
def Goer (X Xg : Cx) (fp : List Addr) (tn : Nat → Heap → Prop) (len : Nat) (W : Nat → Hp → Prop) (Yp : Nat → V → Hp → Prop) (Endp : Hp → Prop) (a : Addr) (gn : Nat) (m : Nat) (s : Shared) : Prop :=
  s.heap.IsGen a gn ∧ s.heap.NoLimit ∧ ∃ gs, s.gens[gn]? = some gs ∧ gs.Goes (model X.prog X.w) X.A.in1.in1 (RX Xg fp Endp) (YX Xg fp tn len W Yp) m (.send .none) (s.setGen gn .running)

section
variable {X Xg : Cx} {fp : List Addr} {tn : Nat → Heap → Prop} {len : Nat} {W : Nat → Hp → Prop} {Yp : Nat → V → Hp → Prop} {Endp : Hp → Prop} {a : Addr} {gn : Nat}
/-- one turn of what walks it -/
theorem next_gx {m : Nat} {s : Shared} {Q : Option Value → Shared → Prop} {E : Value → Shared → Prop} (hh : X.A.handled = none) (hd : X.A.depth < recursionLimit) (hpin : ∀ H s, Inv Xg [] (tau0 Xg.N) H s → s.heap.IsGen a gn ∧ s.heap.NoLimit)
    (G : Goer X Xg fp tn len W Yp Endp a gn m s)
    (hstop : ∀ H s1, Inv Xg [] (tau0 Xg.N) H s1 → Endp H → Q none s1)
    (hyld : ∀ i y H v s1, RelV y v → Inv Xg [] (tau0 Xg.N) H s1 → Yp i y H → (W (i + 1) H → ∃ m', m = m' + 1 ∧ Goer X Xg fp tn len W Yp Endp a gn m' s1) → Q (some v) s1) :
    wpAny (model X.prog X.w) X.A.in1 (pyNext (.ref a)) Q E s := by
  obtain ⟨hg, hl, gs, hgs, hgo⟩ := G
  have hgl : gn < s.gens.size := (Array.getElem?_eq_some_iff.mp hgs).1
  have fromSet : ∀ {H : Hp} {s1 : Shared} {x : GenState}, x.bare = true → Inv Xg [] (tau0 Xg.N) H s1 → Inv Xg [] (tau0 Xg.N) H (s1.setGen gn x) := fun {H s1 x} hx I =>
    I.call' (s' := s1.setGen gn x) (ch := []) rfl (Un.kept fun _ _ e => e) I.hok (allBare_setGen I.bare hx) (fun b hb => by simp at hb)
  refine wpAny_gsz (n := gn + 1) hgl ?_
  refine next_genG (F := fun n s₀ s₁ => ∃ H, Inv Xg [] (tau0 Xg.N) H s₁ ∧ Endp H) (Er := fun _ _ => False) (A := X.A.in1) (g := gn) hh hl hd hg hgs ?_ (fun v s₁ gs' hbare hv => ?_) (fun s₁ hp h' hk => ?_) (fun e s₁ he => he.elim)
    (Y := YX Xg fp tn len W Yp) (n := m)
  · exact hgo
  · obtain ⟨i, y, H, h1, h2, h3, h4, h5⟩ := hv
    intro hsz
    have hsz1 : gn < s₁.gens.size := by
      have q : (s₁.setGen gn gs').gens.size = s₁.gens.size := setGen_size _ _ _
      have hsz' : gn + 1 ≤ (s₁.setGen gn gs').gens.size := hsz
      omega
    refine hyld i y H v _ h2 (fromSet hbare h3.1) h4 fun w => ?_
    have h6 := h5 w ((s₁.setGen gn gs').setGen gn .running) ⟨rfl, allBare_setGen (s := s₁.setGen gn gs') (allBare_setGen h3.1.bare hbare) rfl, fun _ _ e => e⟩
    cases m with
    | zero => exact h6.elim
    | succ m' =>
      refine ⟨m', rfl, (hpin _ _ h3.1).1, (hpin _ _ h3.1).2, gs', setGen_at hsz1, ?_⟩
      exact h6
  · obtain ⟨H, I1, hE⟩ := hp
    intro hsz
    have I2 := fromSet (x := .finished) rfl I1
    exact hstop H _ (I2.call' (s' := { s₁.setGen gn .finished with heap := h' }) (ch := []) rfl (Un.kept hk) (I2.hok.kept hk) I2.bare (fun b hb => by simp at hb)) hE

theorem all_gx {R : Result → Shared → Prop} (hh : X.A.handled = none) (hd : X.A.depth < recursionLimit) (hpin : ∀ H s, Inv Xg [] (tau0 Xg.N) H s → s.heap.IsGen a gn ∧ s.heap.NoLimit)
    (hT : ∀ H s1, Inv Xg [] (tau0 Xg.N) H s1 → Endp H → R (.ok (.ret (.bool true))) s1)
    (hY : ∀ i y H, Yp i y H → ∃ b, y = .bl b ∧ (b = true → W (i + 1) H) ∧ (b = false → ∀ s1, Inv Xg [] (tau0 Xg.N) H s1 → R (.ok (.ret (.bool false))) s1)) :
    ∀ (m : Nat) (s : Shared), Goer X Xg fp tn len W Yp Endp a gn m s → codeAny (model X.prog X.w) X.A (.builtin "all.loop" ⟨[.ref a], []⟩) R s := by
  intro m
  induction m with
  | zero =>
    intro s G
    refine codeAny_builtin F.entry_all_loop ?_
    rw [Around.under_plainId F.plain_all_loop _]
    show wpAny _ X.A.in1 (pyNext (.ref a) >>= _) _ _ s
    refine wpAny_bind (next_gx hh hd hpin G (fun H s1 I1 hE => ?_) fun i y H v s1 rv I1 hy hw => ?_)
    · exact wpAny_bind (wpAny_rule (wpAny_pure (hT H s1 I1 hE)))
    · obtain ⟨b, rfl, h1, h2⟩ := hY i y H hy
      cases rv
      refine wpAny_bind (wpAny_holding (wpAny_truthy_bool ?_))
      refine wpAny_bind (wpAny_letGo ?_)
      cases b with
      | true =>
        obtain ⟨m', e, _⟩ := hw (h1 rfl)
        cases e
      | false =>
        simp only [Bool.false_eq_true, if_false]
        exact wpAny_bind (wpAny_rule (wpAny_pure (h2 rfl s1 I1)))
  | succ m ih =>
    intro s G
    refine codeAny_builtin F.entry_all_loop ?_
    rw [Around.under_plainId F.plain_all_loop _]
    show wpAny _ X.A.in1 (pyNext (.ref a) >>= _) _ _ s
    refine wpAny_bind (next_gx hh hd hpin G (fun H s1 I1 hE => ?_) fun i y H v s1 rv I1 hy hw => ?_)
    · exact wpAny_bind (wpAny_rule (wpAny_pure (hT H s1 I1 hE)))
    · obtain ⟨b, rfl, h1, h2⟩ := hY i y H hy
      cases rv
      refine wpAny_bind (wpAny_holding (wpAny_truthy_bool ?_))
      refine wpAny_bind (wpAny_letGo ?_)
      cases b with
      | true =>
        obtain ⟨m', e, G'⟩ := hw (h1 rfl)
        obtain rfl : m = m' := by omega
        simp only [if_true]
        exact wpAny_pure ⟨plainId_quiet F.plain_all_loop _, ih _ G'⟩
      | false =>
        simp only [Bool.false_eq_true, if_false]
        exact wpAny_bind (wpAny_rule (wpAny_pure (h2 rfl s1 I1)))
end

/-! ### the making -/
section
variable {X : Cx} {scope : Scope} {N : List Str} {tg elt iter : Expr} {gpos : Pos} {wi : TI} {g : TG} {te : TE} {c P : Addr} {k : Nat}
/-- any context that a generator expression with this scope may have, woken from X -/
def IsG (X : Cx) (scope : Scope) (N : List Str) (Xg : Cx) : Prop := ∃ cl C code s4 H4 fp pn, Xg = gcx X (genEnv scope cl C code builtinsNs X.env) N s4 H4 fp pn
theorem room_g (hr : Room (k + 1) X.A) (env : Env) : Room k (X.A.in1.in1.deeper env) :=
  ⟨hr.hd, by have := hr.dp; show X.A.depth + 1 + 3 * k + 5 < _; omega, by have := hr.un; show X.A.units + 1 + 1 + 3 + 16 * k + 200 < _; omega⟩
theorem IsG.room {Xg : Cx} (h : IsG X scope N Xg) (hr : Room (k + 1) X.A) : Room k Xg.A := by
  obtain ⟨cl, C, code, s4, H4, fp, pn, rfl⟩ := h
  exact room_g hr _

/-- a generator that is made and ready -/
structure Ready (X : Cx) (scope : Scope) (N : List Str) (tg elt iter : Expr) (gpos : Pos) (pins : List (Addr × Obj)) (σ : L2.St) (J : It) (H2 : Hp) (a : Addr) (gn : Nat) (it : Addr) (fp : List Addr) (tn : Nat → Heap → Prop) (Xg : Cx) (cenv : Env) (s5 : Shared) : Prop where
  isg : IsG X scope N Xg
  isx : ∃ s4 pn, Xg = gcx X cenv N s4 H2 fp pn
  co : cenv.scope.isCoroutine = false
  turn : Turn X.prog X.w X.K tg J fp it tn
  fpok : ∀ H, (∀ b ∈ fp, H b = none) → ∀ b ∈ fp, FpOk Xg [] H b
  at0 : At Xg fp tn 0 H2 s5
  gen : s5.gens[gn]? = some (.fresh (.compStart (.GeneratorExp elt [⟨tg, iter, [], 0⟩] scope gpos) 0 (.ref it) .none cenv))
  pin : ∀ H s, Inv Xg [] (tau0 Xg.N) H s → s.heap.IsGen a gn ∧ s.heap.NoLimit
  back : ∀ H' s', Inv Xg [] (tau0 Xg.N) H' s' → Inv X pins σ H' s'

theorem gen_made {pins : List (Addr × Obj)} {σ : L2.St} {H : Hp} {s : Shared} {Q' : Value → Shared → Prop} {R : It → Hp → Prop} (hr : Room k X.A) (TB : LamX.TabB X.base X.mg c P) (hcode : X.env.code = .ref c) (S : GScp scope) (hi : PI X tg iter wi)
    (hs : ∀ v, genFold iter X.env v = pure v) (I : Inv X pins σ H s) (h : wi σ H fun J H1 => GxR.TabG H1 P ∧ ∀ H2, GxR.Tabbed P H1 H2 → R J H2)
    (hQ : ∀ J H2 a s5 gn it fp tn Xg cenv, R J H2 → Ready X scope N tg elt iter gpos pins σ J H2 a gn it fp tn Xg cenv s5 → Q' (.ref a) s5) :
    wpAny (model X.prog X.w) X.A (eval (.GeneratorExp elt [⟨tg, iter, [], 0⟩] scope gpos) X.env) Q' X.xe s := by
  refine wpAny_GeneratorExp_make S.co (closure_ok (fun y hy e => absurd e (S.free y hy))) S.cell S.dot S.kind (by have := hr.dp; omega) ?_ hs
  refine thn (hi.run pins s σ H _ I h) fun xv s1 h1 => thn h1 fun itv s2 h2 => ?_
  obtain ⟨it, fp, tn, J, H1, rfl, I2, T, st2, f2, ⟨ps, hP, ht⟩, q1⟩ := h2
  refine ⟨I2.nolimit, ?_⟩
  have hPs : s2.heap.get? P = some { cls := .none, data := .fields ps } := I2.hok P _ hP
  have hPlt : P < s2.heap.objs.size := Heap.lt_size hPs
  have cd : PySem.W.CodeHd s2.heap c P := TB.code.keeps fun b u e => I2.bk b u e
  have cont : ∀ (code : Value) (h3 : Heap) (tk : Nat) (ps' : Array Value), Heap.ExtBut P s2.heap h3 → s2.heap.objs.size ≤ h3.objs.size → h3.get? P = some { cls := .none, data := .fields ps' } → (∃ more, ps' = ps ++ more) → TriplesOk ps'.toList →
      wpAny (model X.prog X.w) X.A (builtinsFor X.env.globals X.env.builtins) (fun bi s₄ =>
        ∀ h', h'.Ns s₄.heap.objs.size (fun y => if y = ".0" then some (.ref it) else none) → Heap.SameBut s₄.heap.objs.size (s₄.heap.push { cls := .type "frame", data := .dict #[] }) h' →
          Q' (.ref h'.objs.size) { s₄ with
            gens := s₄.gens.push (.fresh (.compStart (.GeneratorExp elt [⟨tg, iter, [], 0⟩] scope gpos) 0 (.ref it) .none (genEnv scope (cloFrom X.env.cells scope.names []) s₄.heap.objs.size code bi X.env))),
            toks := s₄.toks + 1 + 1 + 1,
            heap := h'.push { cls := .type "generator", data := .fields #[.int s₄.gens.size 0, .str "<genexpr>" (s₄.toks + 1), .str (X.env.qual ++ "<genexpr>") (s₄.toks + 1 + 1)] } }) X.xe { s2 with heap := h3, toks := tk } := by
    intro code h3 tk ps' hx hsz hP3 hmore ht3
    obtain ⟨bm, ob, e1, e2, e3, e4, e5, e6, e7, e8⟩ := TB.bm
    refine wpAny_builtinsFor (m := X.mg) (by rw [I2.ok.glob]; exact (I2.mod.glob.keeps I2.bk).extBut hx TB.gP) e1 e2 (hx _ _ e4 (I2.bk _ _ e5)) e6 e7 e8 ?_
    rw [clo_nil S.free]
    obtain ⟨more, em⟩ := hmore
    subst em
    have J4 : Inv X pins σ (upd H1 P (.tbl (ps ++ more))) { s2 with heap := h3, toks := tk } := GxR.inv_tab (g' := s2.gens) (d' := s2.drawn) I2 hP (fun b o hb e => hx b o hb e) hP3 I2.bare
    have fpP : ∀ b ∈ fp, b ≠ P := fun b hb z => by
      have := (f2 b hb).1
      rw [z, hP] at this
      cases this
    have st3 : tn 0 h3 := T.keep _ _ _ st2 fun b hb o e => hx b o (fpP b hb) e
    have f4 : ∀ b ∈ fp, upd H1 P (.tbl (ps ++ more)) b = none := fun b hb => by rw [upd_ne (fpP b hb)]; exact (f2 b hb).1
    have fplt : ∀ b ∈ fp, b < h3.objs.size := fun b hb => by
      obtain ⟨o, e, _⟩ := T.obj _ _ st3 b hb
      exact Heap.lt_size e
    have fpst : ∀ b ∈ fp, b ∉ frs X.stack := fun b hb hm => by
      rcases List.mem_cons.mp (J4.stkSub b hm) with z | z
      · exact (f2 b hb).2.1 z
      · exact (f2 b hb).2.2.1 z
    intro h' hn' hs'
    show Q' (.ref h'.objs.size) _
    have hsz' : h'.objs.size = h3.objs.size + 1 := by rw [hs'.1]; exact Heap.size_push ..
    generalize hgo : ({ cls := .type "generator", data := .fields #[.int s2.gens.size 0, .str "<genexpr>" (tk + 1), .str (X.env.qual ++ "<genexpr>") (tk + 1 + 1)] } : Obj) = go
    have keep1 : ∀ b o, h3.get? b = some o → h'.get? b = some o := fun b o e => hs'.extBut b o (Nat.ne_of_lt (Heap.lt_size e)) (Heap.get?_push_of_some _ e)
    have keep5 : ∀ b o, h3.get? b = some o → (h'.push go).get? b = some o := fun b o e => Heap.get?_push_of_some _ (keep1 b o e)
    have hgoat : (h'.push go).get? h'.objs.size = some go := by
      subst hgo
      exact Heap.get?_push_size _ rfl
    have ngo : ∀ v, go.data ≠ .cell v := fun v z => by
      subst hgo
      cases z
    have nC : ∀ b, b < h3.objs.size → b ≠ h3.objs.size := fun b hb => Nat.ne_of_lt hb
    refine hQ J _ h'.objs.size _ s2.gens.size it fp tn (gcx X (genEnv scope [] h3.objs.size code builtinsNs X.env) N { s2 with heap := h3, toks := tk } (upd H1 P (.tbl (ps ++ more))) fp [(h'.objs.size, go)]) (genEnv scope [] h3.objs.size code builtinsNs X.env)
      (q1 _ ⟨⟨ps ++ more, upd_same, ht3⟩, fun b hb => upd_ne hb⟩) ⟨⟨_, _, _, _, _, _, _, rfl⟩, ⟨_, _, rfl⟩, S.co, T, ?_, ?_, ?_, ?_, ?_⟩
    · intro H5 hn b hb
      refine ⟨hn b hb, nC b (fplt b hb), fpst b hb, .inl hb, fun y cc e => ?_, fun p hp => ?_⟩
      · cases (show ([] : List (Str × Addr)).lookup y = some cc from e)
      · rw [List.append_nil] at hp
        rw [List.mem_singleton.mp hp]
        show h'.objs.size ≠ b
        exact Nat.ne_of_gt (Nat.lt_of_lt_of_le (fplt b hb) (show h3.objs.size ≤ h'.objs.size by omega))
    · refine ⟨⟨⟨J4.ok.mod, S.kind, J4.ok.glob, rfl, Nat.le_refl _, fun y z cc e => ?_, fun y hy => ?_, fun y cc e => ?_, fun _ => hr.hd, ?_, .inr ⟨rfl, rfl⟩, fun b hb => ⟨nC b (fplt b hb), fun y cc e => ?_⟩, J4.bs, Nat.le_trans J4.ok.bsz J4.sz, fun b o e hb => ?_, fpst, J4.stack, J4.stkFree⟩,
        rfl, AllBare.push J4.bare rfl, Un.kept keep5, ⟨_, hn'.push go, fun i y v e1 e2 e3 => ?_⟩, fun y cc e => ?_, ?_, fun y cc e => ?_, fun p hp => ?_, J4.hok.kept keep5, ?_⟩, ?_, f4⟩
      · cases (show ([] : List (Str × Addr)).lookup y = some cc from e)
      · rcases hy with hy | hy
        · exact absurd rfl (S.cell _ (PySem.mem_of_lookup (show scope.names.lookup y = some .cell from hy)))
        · exact absurd rfl (S.free _ (PySem.mem_of_lookup (show scope.names.lookup y = some .free from hy)))
      · cases e
      · exact Around.frames_deeper J4.ok.frames
      · cases (show ([] : List (Str × Addr)).lookup y = some cc from e)
      · have h1 := (J4.ok.bs b o e).1
        rcases (f2 b hb).2.2.2.1 with z | z
        · exact J4.ok.noex b o e z
        · exact absurd (Nat.lt_of_lt_of_le (Heap.lt_size h1) z) (Nat.lt_irrefl _)
      · have e2' : (tau0 N)[i]? = some (some v) := e2
        unfold tau0 at e2'
        rw [List.getElem?_map] at e2'
        cases q : N[i]? with
        | none => rw [q] at e2'; cases e2'
        | some y => rw [q] at e2'; cases e2'
      · cases (show ([] : List (Str × Addr)).lookup y = some cc from e)
      · exact J4.hok.fresh (Nat.le_refl _)
      · cases (show ([] : List (Str × Addr)).lookup y = some cc from e)
      · rw [List.append_nil] at hp
        rw [List.mem_singleton.mp hp]
        have hge : h3.objs.size ≤ h'.objs.size := by omega
        refine ⟨hgoat, J4.hok.fresh hge, Nat.ne_of_gt (show h3.objs.size < h'.objs.size by omega), fun hm => ?_, ngo⟩
        rcases List.mem_cons.mp (J4.stkSub _ hm) with z | z
        · exact absurd (Nat.lt_of_lt_of_le J4.lt (by rw [← z]; exact hge)) (Nat.lt_irrefl _)
        · exact J4.nofs hge z
      · show (tau0 N).length = N.length
        unfold tau0
        rw [List.length_map]
      · exact T.keep _ _ _ st3 fun b _ o e => keep5 b o e
    · show (s2.gens.push _)[s2.gens.size]? = _
      exact Array.getElem?_push_size ..
    · intro H5 s6 I6
      refine ⟨?_, I6.nolimit⟩
      have e6 := (I6.pin (h'.objs.size, go) (List.mem_append_left _ (List.mem_singleton.mpr rfl))).1
      refine ⟨go, .str "<genexpr>" (tk + 1), .str (X.env.qual ++ "<genexpr>") (tk + 1 + 1), e6, ?_, ?_, ?_⟩ <;> (subst hgo; rfl)
    · intro H5 s6 I6
      exact J4.call' (ch := fp) I6.os I6.base I6.hok I6.bare fun b hb => ⟨(f2 b hb).2.2.2.1, (f2 b hb).2.1, (f2 b hb).2.2.2.2.1, (f2 b hb).2.2.2.2.2⟩
  cases hf : codeAmong gpos ps.toList with
  | none =>
    refine wpAny_genexprCodeX hcode (cd.code hPs ht) (cd.tab hPs) hf fun c' h' tk hx hge hlt hco' _ htab' _ => ?_
    obtain ⟨o1, vs, f1, tf, fl, tg, inF, tx, tt, op, _, _, _, _, _, _, _, _, _, htr, _⟩ := hco'
    exact cont _ h' tk _ hx (Nat.le_trans hge (Nat.le_of_lt hlt)) htab'.2 ⟨_, rfl⟩ htr
  | some cv =>
    refine wpAny_genexprCode_hit hcode (cd.code hPs ht) hf ?_
    exact cont cv s2.heap s2.toks ps (Heap.ExtBut.refl _ _) (Nat.le_refl _) hPs ⟨#[], by simp⟩ ht

/-! ### all(elt for x in it) -/
def tAllG (P : Addr) (N : List Str) (wi : TI) (g : TG) (te : TE) : TE := fun σ H Q => wi σ H fun J H1 => GxR.TabG H1 P ∧ ∀ H2, GxR.Tabbed P H1 H2 →
  ∃ (len : Nat) (W : Nat → Hp → Prop), W 0 H2 ∧ ∀ i H, W i H → i ≤ len ∧ ((J.stop i H ∧ Q (.bl true) H) ∨ (i < len ∧ J.go i H ∧ ∀ x H', J.yld i H x H' → g x (tau0 N) H' fun τ2 H2 => te τ2 H2 fun y H3 => ∃ b, y = .bl b ∧ if b = true then W (i + 1) H3 else Q (.bl false) H3))
theorem pe_allG {p pos : Pos} (hr : Room k X.A) (hg : Gl X "all") (hm : X.mg "all" = none) (TB : LamX.TabB X.base X.mg c P) (hcode : X.env.code = .ref c) (S : GScp scope) (hi : PI X tg iter wi)
    (hel : ∀ Xg, IsG X scope N Xg → PG Xg tg g ∧ PE Xg elt te) (hs : ∀ v, genFold iter X.env v = pure v := by intro _; rfl)
    (he : starEach [.GeneratorExp elt [⟨tg, iter, [], 0⟩] scope gpos] X.env = (false, eval (.GeneratorExp elt [⟨tg, iter, [], 0⟩] scope gpos) X.env) :: starEach [] X.env := by rfl) :
    PE X (.Call (.Name "all" p) [.GeneratorExp elt [⟨tg, iter, [], 0⟩] scope gpos] [] pos) (tAllG P N wi g te) := by
  refine ⟨fun pins s σ H Q I h => ?_⟩
  refine wpAny_Call_Name_kw (ld_blt I hg hm (show bootBuiltins "all" = some (.builtin "all") by decide +kernel) ?_)
  refine PyProof.Rows.callWith_builtin1 ?_ he (by rfl)
  rw [he]
  show wpAny _ _ (spliced ((false, eval (.GeneratorExp elt [⟨tg, iter, [], 0⟩] scope gpos) X.env) :: backTo pos (starEach [] X.env))) _ _ s
  refine Calls.spliced_cons (gen_made (N := N) hr TB hcode S hi hs I h fun J H2 a s5 gn it fp tn Xg cenv hR RD => ?_)
  obtain ⟨len, W, w0, hW⟩ := hR
  refine Calls.spliced_nil ?_
  obtain ⟨hPG, hPE⟩ := hel Xg RD.isg
  obtain ⟨s4, pn, rfl⟩ := RD.isx
  have seg := fun (s₀ s : Shared) (H : Hp) => seg_gs (iter := iter) (scope := scope) (pos := gpos) (len := len) (W := W) (Endp := fun H => Q (.bl true) H) (Yp := fun i y H3 => ∃ b, y = .bl b ∧ if b = true then W (i + 1) H3 else Q (.bl false) H3)
    RD.co RD.turn RD.fpok hPG hPE hW s₀ s H
  refine call_function_tree F.kind_all F.plain_all F.entry_all (F.args_all1 _) ?_
  unfold Builtin.«all»
  refine wpAny_bind (m := oneArg "all" _) (wpAny_pure ?_)
  refine wpAny_bind (wpAny_pyIter_gen (RD.pin _ _ RD.at0.1).1 ?_)
  refine wpAny_pure ⟨plainId_quiet F.plain_all_loop _, ?_⟩
  refine all_gx (Xg := gcx X cenv N s4 H2 fp pn) hr.hd (by have := hr.dp; omega) RD.pin (fun H' s' I' hE => ?_) (fun i y H' hy => ?_) len s5 ⟨(RD.pin _ _ RD.at0.1).1, (RD.pin _ _ RD.at0.1).2, _, RD.gen, rfl, seg _ _ _ (RD.at0.slp RD.turn.keep ⟨rfl, allBare_setGen RD.at0.1.bare rfl, fun _ _ e => e⟩) w0⟩
  · exact ⟨.bl true, H', RD.back H' s' I', rfl, hE⟩
  · obtain ⟨b, rfl, hb⟩ := hy
    refine ⟨b, rfl, fun e => ?_, fun e s1 I1 => ?_⟩
    · rw [if_pos e] at hb
      exact hb
    · subst e
      rw [if_neg Bool.false_ne_true] at hb
      exact ⟨.bl false, H', RD.back H' s1 I1, rfl, hb⟩
end
end GX

set_option Elab.async false
set_option linter.all false
set_option maxRecDepth 100000
set_option maxHeartbeats 2000000
namespace HK
open PySem PySem.Spec PyProof.Rows L2

/-! ### constants of the module -/
def GloE (mg : Str → Option Value) (x : Str) (v : V) : Prop := ∃ u, mg x = some u ∧ RelV v u
theorem pe_glo {X : Cx} {x : Str} {v : V} {pos : Pos} (hg : Gl X x) (h : GloE X.mg x v) (hd : (x == ("__debug__" : Str)) = false := by decide) : PE X (.Name x pos) (tC v) := by
  obtain ⟨u, h1, h2⟩ := h
  exact pe_glob hg h1 h2 hd

/-! ### defs -/
/-- a def of the text, at f, its code object's value cd -/
structure FnAt (K : PySem.W.Frag) (mg : Str → Option Value) (x : Str) (st : Stmt) (ps : List Str) (f : Addr) (cd : Value) : Prop where
  ex : ∃ (oc : Value) (od : Option Addr) (kV doc pm : Value) (an : Option Addr) (ct : Value) (osl : Array (Option Value)),
    K.lookup f = some ⟨oc, od, .func (PySem.W.fnOf x x (defArgs st) (defBody st) (defScope st) .none kV doc pm an cd ct), osl⟩ ∧ PySem.W.codeIn K cd x = true ∧
    Binds K (PySem.W.fnOf x x (defArgs st) (defBody st) (defScope st) .none kV doc pm an cd ct) ps []
  kp : PySem.W.keepIn K (.ref f) = true
  mgf : mg x = some (.ref f)
/-- a def that may be called by its name -/
def CalE (P : Program) (w : World) (K : PySem.W.Frag) (mg : Str → Option Value) (base : Heap) (CX : CXT) (k : Nat) (x : Str) (sp : Sp) : Prop :=
  ∃ (f : Addr) (fd : FuncData) (ps : List Str), FnOk P w K mg base CX k f fd ps sp ∧ mg x = some (.ref f) ∧ PySem.W.keepIn K (.ref f) = true ∧ Binds K fd ps []
section
variable {P : Program} {w : World} {K : PySem.W.Frag} {mg : Str → Option Value} {base : Heap} {x : Str} {st : Stmt} {f : Addr} {cd : Value} {N ps : List Str} {k : Nat} {sp : Sp}
theorem FnAt.cal (F : FnAt K mg x st ps f cd) (S : FnScope N ps (defScope st)) (len : ∀ vs H Q E, sp vs H Q E → vs.length = ps.length)
    (hbody : ∀ (A : Around) (outer : List Env) (s : Shared) (H : Hp) (vs : List V) (Q : VK) (E : XK), Room k (A.deeper (envOfC x (defScope st) s.heap.objs.size f cd)) → sp vs H Q E →
      ∃ t, PSs (cxOf CX0 P w K mg base N x (defScope st) f cd A outer s H E).nox (defBody st) t ∧ t { nx := fun _ H' => Q .non H', rt := Q } (start N vs) H) : CalE P w K mg base CX0 (k + 1) x sp := by
  obtain ⟨oc, od, kV, doc, pm, an, ct, osl, lk, hcd, hb⟩ := F.ex
  refine ⟨f, _, ps, fn_of lk hcd S len fun A outer s H vs Q E hr hsp => ?_, F.mgf, F.kp, hb⟩
  obtain ⟨t, h, q⟩ := hbody A outer s H vs Q E hr hsp
  exact ⟨t, h.nox, q⟩
/-- .. of a def that may raise -/
theorem FnAt.calX (F : FnAt K mg x st ps f cd) (S : FnScope N ps (defScope st)) (len : ∀ vs H Q E, sp vs H Q E → vs.length = ps.length)
    (hbody : ∀ (A : Around) (outer : List Env) (s : Shared) (H : Hp) (vs : List V) (Q : VK) (E : XK), Room k (A.deeper (envOfC x (defScope st) s.heap.objs.size f cd)) → sp vs H Q E →
      ∃ t, PSs (cxOf (L2.CX P w) P w K mg base N x (defScope st) f cd A outer s H E) (defBody st) t ∧ t { nx := fun _ H' => Q .non H', rt := Q } (start N vs) H) : CalE P w K mg base (L2.CX P w) (k + 1) x sp := by
  obtain ⟨oc, od, kV, doc, pm, an, ct, osl, lk, hcd, hb⟩ := F.ex
  exact ⟨f, _, ps, fn_of lk hcd S len fun A outer s H vs Q E hr hsp => hbody A outer s H vs Q E hr hsp, F.mgf, F.kp, hb⟩
theorem CalE.mono {CX : CXT} {j : Nat} (c : CalE P w K mg base CX j x sp) (h : j ≤ k) : CalE P w K mg base CX k x sp := by
  obtain ⟨f, fd, ps, F, r⟩ := c
  exact ⟨f, fd, ps, F.mono h, r⟩
/-- the law itself, by its body -/
def FnG (P : Program) (w : World) (K : PySem.W.Frag) (mg : Str → Option Value) (base : Heap) (CX : CXT) (k : Nat) (x : Str) (st : Stmt) (ps : List Str) (f : Addr) (cd : Value) (sp : Sp) : Prop :=
  ∀ (oc : Value) (od : Option Addr) (kV doc pm : Value) (an : Option Addr) (ct : Value) (osl : Array (Option Value)), K.lookup f = some ⟨oc, od, .func (PySem.W.fnOf x x (defArgs st) (defBody st) (defScope st) .none kV doc pm an cd ct), osl⟩ → PySem.W.codeIn K cd x = true →
    FnOk P w K mg base CX k f (PySem.W.fnOf x x (defArgs st) (defBody st) (defScope st) .none kV doc pm an cd ct) ps sp
theorem law_of (S : FnScope N ps (defScope st)) (len : ∀ vs H Q E, sp vs H Q E → vs.length = ps.length)
    (hbody : ∀ (A : Around) (outer : List Env) (s : Shared) (H : Hp) (vs : List V) (Q : VK) (E : XK), Room k (A.deeper (envOfC x (defScope st) s.heap.objs.size f cd)) → sp vs H Q E →
      ∃ t, PSs (cxOf CX0 P w K mg base N x (defScope st) f cd A outer s H E).nox (defBody st) t ∧ t { nx := fun _ H' => Q .non H', rt := Q } (start N vs) H) : FnG P w K mg base CX0 (k + 1) x st ps f cd sp := by
  intro oc od kV doc pm an ct osl lk hcd
  refine fn_of lk hcd S len fun A outer s H vs Q E hr hsp => ?_
  obtain ⟨t, h, q⟩ := hbody A outer s H vs Q E hr hsp
  exact ⟨t, h.nox, q⟩
theorem fnAt_mk {oc : Value} {od : Option Addr} {kV doc pm : Value} {an : Option Addr} {ct : Value} {osl : Array (Option Value)} (m : mg x = some (.ref f)) (l : K.lookup f = some ⟨oc, od, .func (PySem.W.fnOf x x (defArgs st) (defBody st) (defScope st) .none kV doc pm an cd ct), osl⟩)
    (c : PySem.W.codeIn K cd x = true) (kp : PySem.W.keepIn K (.ref f) = true)
    (h : ∀ us : List Value, us.length = ps.length → bindArgs (PySem.W.fnOf x x (defArgs st) (defBody st) (defScope st) .none kV doc pm an cd ct) ⟨us, []⟩ = pure (ps.zip us)) : FnAt K mg x st ps f cd :=
  ⟨⟨oc, od, kV, doc, pm, an, ct, osl, l, c, .all h⟩, kp, m⟩
end
def tCal (sp : Sp) (E : L2.St → XK) (t : TA) : TE := fun σ H Q => t σ H fun vs H1 => sp vs H1 Q (E σ)
section
variable {X : Cx} {k : Nat} {x : Str} {sp : Sp} {p pos : Pos} {e : Expr} {es : List Expr} {t : TA}
theorem pe_cal (c : CalE X.prog X.w X.K X.mg X.base CX0 k x sp) (hr : Room k X.A) (hg : Gl X x) (ha : PA X (e :: es) t) (hdb : (x == ("__debug__" : Str)) = false := by decide)
    (he : starEach (e :: es) X.env = (false, eval e X.env) :: starEach es X.env := by rfl) (hpl : (backTo pos (starEach es X.env)).any (·.1) = false := by rfl) :
    PE X (.Call (.Name x p) (e :: es) [] pos) (tCal sp (fun _ => E0) t) := by
  obtain ⟨f, fd, ps, F, hm, kp, b⟩ := c
  exact pe_callS F hr hg hm kp b (fun _ _ _ _ _ _ _ h => h.elim) ha hdb he hpl
/-- a def that may raise, where it doesn't -/
theorem pe_calL (c : CalE X.prog X.w X.K X.mg X.base (L2.CX X.prog X.w) k x sp) (hr : Room k X.A) (hg : Gl X x) (ha : PA X (e :: es) t) (hdb : (x == ("__debug__" : Str)) = false := by decide)
    (he : starEach (e :: es) X.env = (false, eval e X.env) :: starEach es X.env := by rfl) (hpl : (backTo pos (starEach es X.env)).any (·.1) = false := by rfl) :
    PE X (.Call (.Name x p) (e :: es) [] pos) (tCal sp (fun _ => E0) t) := by
  obtain ⟨f, fd, ps, F, hm, kp, b⟩ := c
  exact pe_callS F hr hg hm kp b (fun _ _ _ _ _ _ _ h => by
    obtain ⟨_, _, _, _, _, _, _, _, _, _, _, _, z⟩ := h
    exact z.elim) ha hdb he hpl
/-- .. in a try, or in a def that lets it out: W is wished of it -/
theorem pe_calS {W : WX} (c : CalE X.prog X.w X.K X.mg X.base (L2.CX X.prog X.w) k x sp) (hr : Room k X.A) (hg : Gl X x) (tk : Takes X W) (ha : PA X (e :: es) t) (hdb : (x == ("__debug__" : Str)) = false := by decide)
    (he : starEach (e :: es) X.env = (false, eval e X.env) :: starEach es X.env := by rfl) (hpl : (backTo pos (starEach es X.env)).any (·.1) = false := by rfl) :
    PE X (.Call (.Name x p) (e :: es) [] pos) (tCal sp (WE W) t) := by
  obtain ⟨f, fd, ps, F, hm, kp, b⟩ := c
  exact pe_callS F hr hg hm kp b (fun σ => passAt tk σ) ha hdb he hpl
/-- f() -/
theorem pe_cal0 (c : CalE X.prog X.w X.K X.mg X.base CX0 k x sp) (hr : Room k X.A) (hg : Gl X x) (hdb : (x == ("__debug__" : Str)) = false := by decide) : PE X (.Call (.Name x p) [] [] pos) (tCal sp (fun _ => E0) tNil) := by
  obtain ⟨f, fd, ps, F, hm, kp, b⟩ := c
  have h := pe_call0 (p := p) (pos := pos) F hr hg hm kp b .nil (pass0 (X := X)) hdb
  exact h
end

/-! ### own errors without __init__ -/
def exBases : List Value := [.type "ValueError", .type "Exception", .type "BaseException", .type "object"]
structure ExcE (K : PySem.W.Frag) (mg : Str → Option Value) (x : Str) (C : Addr) : Prop where
  m : mg x = some (.ref C)
  q : PySem.W.excIn K C exBases "ValueError.__new__" = true
  kp : PySem.W.keepIn K (.ref C) = true
  sb : PySem.W.subIn K (.ref C) (.type "BaseException") = some true
  ty : PySem.W.typeIn K (.ref C) = some (.type "type")
  is : PySem.W.isClsIn K C = true
  self : PySem.W.subIn K (.ref C) (.ref C) = some true
theorem exm_self {K : PySem.W.Frag} {S : Addr} (h1 : PySem.W.subIn K (.ref S) (.type "BaseException") = some true) (h2 : PySem.W.isClsIn K S = true) (h3 : PySem.W.typeIn K (.ref S) = some (.type "type")) (h4 : PySem.W.subIn K (.ref S) (.ref S) = some true) :
    PySem.W.exmOne K (.ref S) (.ref S) = some true := by
  have e1 : (PySem.W.subIn K (.ref S) (.type "BaseException") == some true) = true := by rw [h1] <;> rfl
  have e2 : ((PySem.W.clsIn K S).isSome && PySem.W.typeIn K (.ref S) == some (.type "type")) = true := by
    have h2' : (PySem.W.clsIn K S).isSome = true := h2
    rw [h2', h3] <;> rfl
  show (if (PySem.W.subIn K (.ref S) (.type "BaseException") == some true) = true then (if ((PySem.W.clsIn K S).isSome && PySem.W.typeIn K (.ref S) == some (.type "type")) = true then PySem.W.subIn K (.ref S) (.ref S) else none) else none) = some true
  rw [if_pos e1, if_pos e2]
  exact h4
theorem ExcE.ex {K : PySem.W.Frag} {mg : Str → Option Value} {x : Str} {C : Addr} (h : ExcE K mg x C) : PySem.W.exmOne K (.ref C) (.ref C) = some true := exm_self h.sb h.is h.ty h.self
theorem pmk_own0 {X : Cx} {C : Addr} {x : Str} {p pos : Pos} (h : ExcE X.K X.mg x C) (hg : Gl X x) (hdb : (x == ("__debug__" : Str)) = false := by decide) :
    PMk X (.Call (.Name x p) [] [] pos) (fun _ H Q => Q (.ref C) none H) := by
  intro pins s σ H Q I hq
  refine wpAny_Call_Name_kw (ld_glob I hg h.m ?_ hdb)
  refine PySem.W.callWith_K0 I.kIn h.kp ?_
  show wpAny _ _ (call (.ref C) []) _ _ _
  obtain ⟨bm, N, nm, qn, bs, hdct, sn, sub, ab, col, dd, k0, k1, k2, k3, k5, mN, hC, hN, hni, T⟩ := exc_obj I.kIn h.q
  refine wpAny_call_exc_subT PySem.F.excBase_ValueError T hC hN hni (fun h' e hm => ?_) (Nat.zero_le _)
  exact mk_of I hm (raises_own h.sb h.ty) hq (I.hok.gone hm.new)

/-! ### heaps: the tables tb may grow, what stands at ch may change, all else that was tracked stands -/
def Tabs (tb : List Addr) (H : Hp) : Prop := ∀ b ∈ tb, GxR.TabG H b
structure Ext (tb ch : List Addr) (H H' : Hp) : Prop where
  keep : ∀ b o, b ∉ tb → b ∉ ch → H b = some o → H' b = some o
  tabs : Tabs tb H → Tabs tb H'
section
variable {tb ch : List Addr} {H H1 H2 H3 : Hp} {a b p : Addr} {o : HO} {K : PySem.W.Frag} {xs : List V}
theorem Ext.refl : Ext tb ch H H := ⟨fun _ _ _ _ h => h, fun h => h⟩
theorem Ext.trans (h : Ext tb ch H H1) (g : Ext tb ch H1 H2) : Ext tb ch H H2 := ⟨fun b o h1 h2 e => g.keep b o h1 h2 (h.keep b o h1 h2 e), fun t => g.tabs (h.tabs t)⟩
theorem Ext.wide {ch' : List Addr} (h : Ext tb ch H H1) (w : ∀ b ∈ ch, b ∈ ch') : Ext tb ch' H H1 := ⟨fun b o h1 h2 e => h.keep b o h1 (fun z => h2 (w b z)) e, h.tabs⟩
theorem Ext.of0 {ch' : List Addr} (h : Ext tb [] H H1) : Ext tb ch' H H1 := h.wide fun _ z => (by cases z)
theorem Tabs.ne (t : Tabs tb H) (h : H p = none) : p ∉ tb := fun z => by
  obtain ⟨ps, e, _⟩ := t p z
  rw [h] at e
  cases e
theorem TabG.upd {c : Addr} (h : GxR.TabG H c) (hp : p ≠ c) : GxR.TabG (upd H p o) c := by
  obtain ⟨ps, e, q⟩ := h
  exact ⟨ps, by rw [upd_ne (Ne.symm hp)]; exact e, q⟩
theorem Tabs.upd (t : Tabs tb H) (hp : p ∉ tb) : Tabs tb (upd H p o) := fun b hb => TabG.upd (t b hb) fun z => hp (by rw [z]; exact hb)
/-- a new object -/
theorem Ext.new (t : Tabs tb H) (h : H p = none) : Ext tb ch H (upd H p o) :=
  ⟨fun b u _ _ e => by rw [upd_ne (ne_of_none e h)]; exact e, fun _ => t.upd (t.ne h)⟩
/-- what stands at a changed place is changed -/
theorem Ext.mut (hp : p ∈ ch) (nt : p ∉ tb) : Ext tb ch H (upd H p o) :=
  ⟨fun b u _ h2 e => by rw [upd_ne (fun z => h2 (by rw [z]; exact hp))]; exact e, fun t => t.upd nt⟩
/-- what came new may be changed -/
theorem Ext.own (t : Tabs tb H) (h : Ext tb ch H H1) (hp : H p = none) : Ext tb ch H (upd H1 p o) :=
  ⟨fun b u h1 h2 e => by rw [upd_ne (ne_of_none e hp)]; exact h.keep b u h1 h2 e, fun _ => (h.tabs t).upd (t.ne hp)⟩
theorem Ext.tabbed (h : GxR.Tabbed p H H1) (hp : p ∈ tb) : Ext tb ch H H1 :=
  ⟨fun b u h1 _ e => by rw [h.2 b (fun z => h1 (by rw [z]; exact hp))]; exact e, fun t b hb => by
    by_cases e : b = p
    · rw [e]
      exact h.1
    · obtain ⟨ps, e1, e2⟩ := t b hb
      exact ⟨ps, by rw [h.2 b e]; exact e1, e2⟩⟩
theorem Ext.free (h : Ext tb ch H H1) (t : Tabs tb H) (hp : H1 p = none) (hc : p ∉ ch) : H p = none := by
  cases e : H p with
  | none => rfl
  | some u =>
    by_cases hb : p ∈ tb
    · exact absurd hp (fun z => by
        obtain ⟨ps, e1, _⟩ := h.tabs t p hb
        rw [z] at e1
        cases e1)
    · rw [h.keep p u hb hc e] at hp
      cases hp
theorem ne_tab (t : Tabs tb H) (e : H a = some o) (ho : ∀ ps, o ≠ .tbl ps) : a ∉ tb := fun z => by
  obtain ⟨ps, e1, _⟩ := t a z
  rw [e] at e1
  exact ho ps (Option.some.inj e1)
theorem Ext.rd (h : Ext tb ch H H1) (t : Tabs tb H) {u : HO} (hu : (∃ xs, u = .lst xs) ∨ ∃ xs, u = .tup xs) (r : Rd H a u) (hc : a ∉ ch) : Rd H1 a u := by
  rcases r with r | ⟨oo, r⟩
  · exact .inl (h.keep _ _ (ne_tab t r fun ps z => by rcases hu with ⟨xs, rfl⟩ | ⟨xs, rfl⟩ <;> cases z) hc r)
  · exact .inr ⟨oo, h.keep _ _ (ne_tab t r fun ps z => by cases z) hc r⟩
theorem Ext.sqL (h : Ext tb ch H H1) (t : Tabs tb H) (s : SqL K H a xs) (hc : a ∉ ch) : SqL K H1 a xs := by
  rcases s with s | s
  · exact .inl (h.rd t (.inl ⟨_, rfl⟩) s hc)
  · exact .inr s
theorem Ext.sqT (h : Ext tb ch H H1) (t : Tabs tb H) (s : SqT K H a xs) (hc : a ∉ ch) : SqT K H1 a xs := by
  rcases s with s | s
  · exact .inl (h.rd t (.inr ⟨_, rfl⟩) s hc)
  · exact .inr s
theorem Ext.lst (h : Ext tb ch H H1) (t : Tabs tb H) (e : H a = some (.lst xs)) (hc : a ∉ ch) : H1 a = some (.lst xs) := h.keep _ _ (ne_tab t e fun ps z => by cases z) hc e
theorem Ext.tup (h : Ext tb ch H H1) (t : Tabs tb H) (e : H a = some (.tup xs)) (hc : a ∉ ch) : H1 a = some (.tup xs) := h.keep _ _ (ne_tab t e fun ps z => by cases z) hc e
theorem Ext.dK {kvs : List (Key × V)} (h : Ext tb ch H H1) (t : Tabs tb H) (e : H a = some (.dK kvs)) (hc : a ∉ ch) : H1 a = some (.dK kvs) := h.keep _ _ (ne_tab t e fun ps z => by cases z) hc e
end

/-! ### the end: a law whose defs have tables -/
/-- what is known of a def's code object and its table -/
def TabAt (K : PySem.W.Frag) (mg : Str → Option Value) (h : Heap) (q : Program) : Prop := ∀ (nm : Str) (f c P : Addr) (o : Obj) (fd : FuncData) (e : Value) (dd : Option Addr) (vs : Array Value) (sl : Array (Option Value)),
  ((recsOf q).any fun e => e.name == nm) = true → mg nm = some (.ref f) → K.lookup f = some o → o.data = .func fd → fd.code = .ref c → K.lookup c = some ⟨e, dd, .fields vs, sl⟩ → vs[11]? = some (.ref P) →
  PySem.W.CodeHd h c P ∧ h.get? P = some { cls := .none, data := .fields #[] }
theorem walk_tabs {l : PySem.W.OpenLaw} {n k : Nat} {q : Program} {loose : List Str} {XP : (Str → Option Value) → Heap → Prop} {YP : World → Heap → Prop} {d : DefRec} {K : Params → PySem.W.Frag} {CX : World → CXT} {x : Str}
    (hn : l.most = some n) (hn2 : n ≤ sizeLine) (hdf : d.params.defaults = []) (hr : Room k callerA) (hY : ∀ (w : World) (h : Heap), YP w h → (K w.params).In h)
    (F : ∀ (w : World) (mg : Str → Option Value) (fa : Addr) (h : Heap), YP w h → (K w.params).In h → h.Ns mainGlobals mg → mg d.name = some (.ref fa) → TabAt (K w.params) mg h q → LamX.LawAtS l w (K w.params) (CX w) k n x mg fa h)
    (hCX : ∀ (w : World) (H : Hp) (s : Shared) (e : Value) (s' : Shared), CX w [] H s (fun _ _ _ => False) e s' → False) :
    PySem.W.WalkO q loose XP YP l.row.toRowW d [] (fun f vs => PySem.call f vs) := by
  refine Att.attach_callB hn hdf fun w s₀ s₁ mg mb fa o pm cd doc a vs ns G Y ho hd hcd hmg hobj hints hlen hbits hg => ?_
  have KX := hY w _ Y
  have tabs : TabAt (K w.params) mg s₁.heap q := fun nm f c P o1 fd1 e dd vs1 sl hrec hm k1 k2 k3 k4 k5 => by
    obtain ⟨dL, hm1, hn1⟩ := List.any_eq_true.mp hrec
    have hn2 : dL.name = nm := beq_iff_eq.mp hn1
    obtain ⟨a', o', fd', c', P', h1, h2, h3, h4, h5, h6⟩ := G.T.tab dL hm1
    rw [hn2, hm] at h1
    cases h1
    have g1 := KX _ _ k1
    rw [g1] at h2
    cases h2
    rw [k2] at h3
    cases h3
    rw [k3] at h4
    cases h4
    have hd := PySem.W.CodeHd.of h5 h6
    obtain ⟨⟨oc, vc, e1, _, e3, e4⟩, hP⟩ := h6
    have g2 := KX _ _ k4
    rw [g2] at e1
    cases e1
    cases e3
    rw [k5] at e4
    cases e4
    exact ⟨hd, hP⟩
  obtain ⟨fd, cs, sp, hT, nT, C, hb, hsp, hF⟩ := F w mg fa _ Y KX G.T.g hmg tabs
  exact LamX.law_callTs KX G.T.g G.T.b G.T.builtins G.T.nolimit hg hT nT C G.T.bmain hobj hints (Nat.le_trans hlen hn2) hr hF hb (fun H hH hS => hsp H a ns hlen hbits hH hS) fun H e s' => hCX w H s₁ e s'

/-! ### isinstance; all over a generator expression -/
theorem isi {K : PySem.W.Frag} {H : Hp} {x : V} {t n : String} {b : Bool} {Q : VK} (ty : TyX K H x (.type t)) (hk : kitB t n = some b) (q : Q (.bl b) H) : rIsi K [x, .ty n] H Q :=
  ⟨x, .ty n, .type t, .type n, b, rfl, .ty n, ty, kit_ty hk, q⟩
def trV {α : Type} (f : α → Bool) (l : List α) (i : Nat) : Bool := match l[i]? with
  | some b => f b
  | none => false
theorem trV_some {α : Type} {f : α → Bool} {l : List α} {i : Nat} {b : α} (h : l[i]? = some b) : trV f l i = f b := by
  unfold trV
  rw [h]
theorem all_trV {α : Type} (f : α → Bool) (l : List α) : (List.range l.length).all (trV f l) = l.all f := by
  rw [Bool.eq_iff_iff, List.all_eq_true, List.all_eq_true]
  constructor
  · intro h b hb
    obtain ⟨j, hj, e⟩ := List.getElem_of_mem hb
    have q := h j (List.mem_range.mpr hj)
    rw [trV_some (List.getElem?_eq_getElem hj), e] at q
    exact q
  · intro h j hj
    have hj' := List.mem_range.mp hj
    rw [trV_some (List.getElem?_eq_getElem hj')]
    exact h _ (List.getElem_mem hj')
theorem allG_by {J : It} {N : List Str} {g : TG} {te : TE} {Q : VK} {H2 : Hp} (len : Nat) (pb : Nat → Bool) (Pv : Hp → Prop) (h0 : Pv H2) (hstop : ∀ H, Pv H → J.stop len H) (hgo : ∀ i H, i < len → Pv H → J.go i H)
    (hstep : ∀ i H x H', i < len → Pv H → J.yld i H x H' → ∀ R : VK, (∀ H3, Pv H3 → R (.bl (pb i)) H3) → g x (GX.tau0 N) H' fun τ2 H2 => te τ2 H2 R)
    (hq : ∀ H b, Pv H → b = (List.range len).all pb → Q (.bl b) H) :
    ∃ (len : Nat) (W : Nat → Hp → Prop), W 0 H2 ∧ ∀ i H, W i H → i ≤ len ∧ ((J.stop i H ∧ Q (.bl true) H) ∨ (i < len ∧ J.go i H ∧ ∀ x H', J.yld i H x H' → g x (GX.tau0 N) H' fun τ2 H2 => te τ2 H2 fun y H3 => ∃ b, y = .bl b ∧ if b = true then W (i + 1) H3 else Q (.bl false) H3)) := by
  refine ⟨len, fun i H => i ≤ len ∧ Pv H ∧ ∀ j, j < i → pb j = true, ⟨Nat.zero_le _, h0, fun j hj => absurd hj (Nat.not_lt_zero _)⟩, ?_⟩
  rintro i H ⟨hi, hp, hj⟩
  refine ⟨hi, ?_⟩
  by_cases e : i < len
  · refine .inr ⟨e, hgo i H e hp, fun x H' hy => hstep i H x H' e hp hy _ fun H3 hp3 => ⟨pb i, rfl, ?_⟩⟩
    cases hb : pb i with
    | true =>
      refine iteT ⟨e, hp3, fun j hj' => ?_⟩
      rcases Nat.lt_or_ge j i with z | z
      · exact hj j z
      · have : j = i := by omega
        rw [this]
        exact hb
    | false =>
      refine iteF (hq H3 false hp3 ?_)
      symm
      rw [List.all_eq_false]
      exact ⟨i, List.mem_range.mpr e, by rw [hb]; exact Bool.false_ne_true⟩
  · have : i = len := by omega
    subst this
    refine .inl ⟨hstop H hp, hq H true hp ?_⟩
    symm
    rw [List.all_eq_true]
    exact fun j hj' => hj j (List.mem_range.mp hj')
theorem line_of {n : Nat} (h : n ≤ 100000) : n ≤ sizeLine := Nat.le_trans h (by decide)
theorem line_lt {n : Nat} (h : n ≤ 100000) : n < sizeLine := Nat.lt_of_le_of_lt h (by decide)

/-! ### data of ints, of texts -/
theorem dp_ints {K : PySem.W.Frag} {H : Hp} : ∀ ns : List Int, DpAll K H (ns.map V.int) (ns.map PyData.int)
  | [] => .nil
  | n :: r => .cons (.int n) (dp_ints r)
theorem dp_strs {K : PySem.W.Frag} {H : Hp} : ∀ ns : List Str, DpAll K H (ns.map V.str) (ns.map PyData.str)
  | [] => .nil
  | n :: r => .cons (.str n) (dp_strs r)
theorem canAll_ints : ∀ ns : List Int, PyData.canLayAll0 (ns.map PyData.int) = true
  | [] => rfl
  | n :: r => by
    show (PyData.canLay0 (.int n) && PyData.canLayAll0 (r.map PyData.int)) = true
    rw [canAll_ints r] <;> rfl
theorem depAll_ints : ∀ ns : List Int, PyData.depthAll (ns.map PyData.int) = 0
  | [] => rfl
  | n :: r => by
    show max (PyData.depth (.int n)) (PyData.depthAll (r.map PyData.int)) = 0
    rw [depAll_ints r] <;> rfl
theorem sh_ints (ns : List Int) : SeqAt.shaped (.list (ns.map PyData.int)) = true := by
  have h1 : PyData.canLay0 (.list (ns.map PyData.int)) = true := canAll_ints ns
  have h2 : PyData.depth (.list (ns.map PyData.int)) = 1 := by
    show PyData.depthAll (ns.map PyData.int) + 1 = 1
    rw [depAll_ints]
  unfold SeqAt.shaped
  rw [h1, h2] <;> rfl
theorem canAll_strs : ∀ ns : List Str, (∀ s ∈ ns, PyData.canLay0 (.str s) = true) → PyData.canLayAll0 (ns.map PyData.str) = true
  | [], _ => rfl
  | n :: r, h => by
    show (PyData.canLay0 (.str n) && PyData.canLayAll0 (r.map PyData.str)) = true
    rw [canAll_strs r fun s hs => h s (List.mem_cons_of_mem _ hs), h n (List.mem_cons_self ..)] <;> rfl
theorem depAll_strs : ∀ ns : List Str, PyData.depthAll (ns.map PyData.str) = 0
  | [] => rfl
  | n :: r => by
    show max (PyData.depth (.str n)) (PyData.depthAll (r.map PyData.str)) = 0
    rw [depAll_strs r] <;> rfl
theorem sh_tstrs {ns : List Str} (h : ∀ s ∈ ns, PyData.canLay0 (.str s) = true) : SeqAt.shaped (.tuple (ns.map PyData.str)) = true := by
  have h1 : PyData.canLay0 (.tuple (ns.map PyData.str)) = true := canAll_strs ns h
  have h2 : PyData.depth (.tuple (ns.map PyData.str)) = 1 := by
    show PyData.depthAll (ns.map PyData.str) + 1 = 1
    rw [depAll_strs]
  unfold SeqAt.shaped
  rw [h1, h2] <;> rfl

/-! ### the layer's rules, the written part told (a comprehension's frame has another context) -/
section
variable {X : Cx} {K : PySem.W.Frag} {tg : Expr} {e : Expr} {te : TE}
theorem q_isi (h : X.K = K) : CallR X (.builtin "isinstance") (rIsi K) := h ▸ call_isi
def rLenK (K : PySem.W.Frag) : List V → Hp → VK → Prop := fun xs H Q => ∃ x n, xs = [x] ∧ LenV K x H n ∧ Q (.int n) H
theorem q_len (h : X.K = K) : CallR X (.builtin "len") (rLenK K) := h ▸ call_len
def rTupK (K : PySem.W.Frag) : List V → Hp → VK → Prop := fun xs H Q => ∃ p ys, xs = [.ref p] ∧ ((SqL K H p ys ∧ ∀ l, H l = none → Q (.ref l) (upd H l (.tup ys))) ∨ (SqT K H p ys ∧ Q (.ref p) H))
theorem q_tup (h : X.K = K) : CallR X (.type "tuple") (rTupK K) := h ▸ call_tuple_of
def rLstK (K : PySem.W.Frag) : List V → Hp → VK → Prop := fun xs H Q => ∃ p ys, xs = [.ref p] ∧ (SqL K H p ys ∨ SqT K H p ys) ∧ ∀ l, H l = none → Q (.ref l) (upd H l (.lst ys))
theorem q_lst (h : X.K = K) : CallR X (.type "list") (rLstK K) := h ▸ call_list_of
theorem q_all (h : X.K = K) (hc : X.calm = true) : CallR X (.builtin "all") (rAll K) := h ▸ cr_all hc
theorem q_any (h : X.K = K) (hc : X.calm = true) : CallR X (.builtin "any") (rAny K) := h ▸ cr_any hc
theorem q_sum (h : X.K = K) (hc : X.calm = true) : CallR X (.builtin "sum") (rSum K) := h ▸ cr_sum hc
theorem q_ixL (h : X.K = K) : IxR X (rIxL K) := h ▸ ix_list
theorem q_ixT (h : X.K = K) : IxR X (rIxT K) := h ▸ ix_tup
theorem q_slL (h : X.K = K) : SlR X (rSlL K) := h ▸ sl_list
theorem q_slT (h : X.K = K) : SlR X (rSlA K) := h ▸ sl_tupA
theorem q_in (h : X.K = K) : OpR X (compareOp .In) (rIn K false) := h ▸ op_in_seq
theorem q_nin (h : X.K = K) : OpR X (compareOp .NotIn) (rIn K true) := h ▸ op_notIn_seq
theorem q_eqD (h : X.K = K) (hu : X.A.units + 64 < cLine) : OpR X (compareOp .Eq) (rEqD K) := h ▸ op_eqD hu
theorem q_neD (h : X.K = K) (hu : X.A.units + 64 < cLine) : OpR X (compareOp .NotEq) (rNeD K) := h ▸ op_neD hu
theorem q_catT (h : X.K = K) : OpR X (binaryOp .Add) (rCatA K) := h ▸ op_catA
theorem q_piL (h : X.K = K) (hl : PE X e te) : PI X tg e (iList K te) := h ▸ pi_list hl
theorem q_piT (h : X.K = K) (hl : PE X e te) : PI X tg e (iTup K te) := h ▸ pi_tup hl
theorem q_bm {T id : String} {name : Str} {o : Expr} {es : List Expr} {to : TE} {t : TA} {r : V → List V → Hp → VK → Prop} {apos cpos : Pos} (h : X.K = K) (pa : PlainAttrs T) (slot : Slot T name id) (hty : typeOf (.builtin id) = pure (.type "method_descriptor")) (hm : MtR X id r) (ho : PE X o to) (ha : PA X (e :: es) t)
    (hbase : attributeBase o name X.env (eval o X.env) = eval o X.env := by rfl)
    (hfew : ((backTo cpos (starEach (e :: es) X.env)).all (fun x => !x.1) && (backToKw cpos (keywordEach [] X.env)).all (fun x => x.1.isSome)
      && decide ((e :: es).length + ([] : List Keyword).length + (if ([] : List Keyword).isEmpty then 0 else 1) < 30)) = true := by rfl)
    (hline : (apos.endLine == cpos.line) = true := by rfl) (hs : starEach (e :: es) X.env = (false, eval e X.env) :: starEach es X.env := by rfl) (hplain : (backTo cpos (starEach es X.env)).any (·.1) = false := by rfl) :
    PE X (.Call (.Attribute o name apos) (e :: es) [] cpos) (tBM K T r to t) := h ▸ pe_bm pa slot hty hm ho ha hbase hfew hline hs hplain
theorem q_join {o : Expr} {to : TE} {apos pos : Pos} (h : X.K = K) (ho : PE X o to) (he : PE X e te) (hs : starEach [e] X.env = [(false, eval e X.env)] := by rfl) (hbase : attributeBase o "join" X.env (eval o X.env) = eval o X.env := by rfl) (hline : (apos.endLine == pos.line) = true := by rfl) :
    PE X (.Call (.Attribute o "join" apos) [e] [] pos) (tM1 (fun x xs H Q => ∃ a p, ∃ ys : List Str, x = .str a ∧ xs = [.ref p] ∧ (SqL K H p (ys.map V.str) ∨ SqT K H p (ys.map V.str)) ∧
    (ys.map (·.length)).sum + ys.length * a.length ≤ 16777216 ∧ Q (.str (Txt.join a ys)) H) to te) := h ▸ pe_join ho he hs hbase hline
end

/-- what the end asks, from the promise of the law -/
theorem law_at {l : PySem.W.OpenLaw} {w : World} {K : PySem.W.Frag} {mg : Str → Option Value} {h : Heap} {q : Program} {k n : Nat} {x nm : Str} {st : Stmt} {f fa : Addr} {cd : Value} {sp : Sp} {cs : List (Addr × Addr)}
    (hf : mg nm = some (.ref fa)) (F : FnAt K mg nm st [x] f cd) (hcs : ∀ p ∈ cs, PySem.W.CodeHd h p.1 p.2 ∧ h.get? p.2 = some { cls := .none, data := .fields #[] } ∧ K.lookup p.2 = none)
    (hb : ∀ (kV doc pm : Value) (an : Option Addr) (ct : Value) (s : Shared) (u : Value), BindsTo s (PySem.W.fnOf nm nm (defArgs st) (defBody st) (defScope st) .none kV doc pm an cd ct) ⟨[u], []⟩ [(x, u)])
    (hsp : ∀ (H : Hp) (a : Addr) (ns : List Int), ns.length ≤ n → (∀ z ∈ ns, Builtin.Int.intBits z ≤ 1048576) → Tabs (cs.map (·.2)) H → SqL K H a (ns.map V.int) → sp [.ref a] H (fun v _ => v = .bl true) fun _ _ _ => False)
    (hF : ∀ base : Heap, K.In base → base.Ns mainGlobals mg → (∀ p ∈ cs, LamX.TabB base mg p.1 p.2) → FnG l.prog w K mg base CX0 k nm st [x] f cd sp) : LamX.LawAtS l w K CX0 k n x mg fa h := by
  obtain ⟨oc, od, kV, doc, pm, an, ct, osl, lk, hcd, _⟩ := F.ex
  have e := hf.symm.trans F.mgf
  cases e
  refine ⟨PySem.W.fnOf nm nm (defArgs st) (defBody st) (defScope st) .none kV doc pm an cd ct, cs, sp, fun p hp => (hcs p hp).2.1, fun p hp => (hcs p hp).2.2, fun p hp => (hcs p hp).1, hb kV doc pm an ct, fun H a ns h1 h2 h3 h4 => ?_, fun base hK hN hT => hF base hK hN hT oc od kV doc pm an ct osl lk hcd⟩
  refine hsp H a ns h1 h2 (fun b hb => ?_) h4
  obtain ⟨p, hp, e⟩ := List.mem_map.mp hb
  rw [← e]
  refine ⟨#[], h3 p hp, ?_⟩
  first
    | trivial
    | simp [TriplesOk]
end HK

set_option Elab.async false
set_option linter.all false
set_option maxRecDepth 100000
set_option maxHeartbeats 2000000
/-! a tuple's slice with a step other than 1: t[a:b:c] -/
namespace SL
open PySem PySem.Spec PyProof.Rows L2 HT
/-- the items of xs[lo:hi:st] -/
def pick {α : Type} (xs : List α) (lo hi : Option Int) (st : Int) : List α :=
  (List.range (Builtin.Slice.slicePlaces (Builtin.Slice.sliceAdjust lo hi st (xs.length : Int)).1 (Builtin.Slice.sliceAdjust lo hi st (xs.length : Int)).2 st)).filterMap fun (m : Nat) => xs[((Builtin.Slice.sliceAdjust lo hi st (xs.length : Int)).1 + (m : Int) * st).toNat]?
section
variable {prog : Program} {w : World} {A : Around} {E : Value → Shared → Prop} {s : Shared}
theorem applied {sl : Addr} {vl vu vs : Value} {lo hi : Option Int} {st : Int} {n : Nat} {Q : Int × Int × Nat → Shared → Prop} (hs : s.heap.IsSliceOf sl vl vu vs) (pl : IsPart vl lo) (pu : IsPart vu hi) (ps : IsPart vs (some st)) (h0 : st ≠ 0)
    (h : Q ((Builtin.Slice.sliceAdjust lo hi st (n : Int)).1, st, Builtin.Slice.slicePlaces (Builtin.Slice.sliceAdjust lo hi st (n : Int)).1 (Builtin.Slice.sliceAdjust lo hi st (n : Int)).2 st) s) : wpAny (model prog w) A (Builtin.Slice.sliceApplied (.ref sl) (pure (n : Int))) Q E s := by
  obtain ⟨os, hos, hcs, hds⟩ := id hs
  unfold Builtin.Slice.sliceApplied Builtin.Slice.sliceFields
  refine wpAny_bind (wpAny_bind (wpAny_field hos hds (x := vl) rfl (wpAny_bind (wpAny_field hos hds (x := vu) rfl (wpAny_bind (wpAny_field hos hds (x := vs) rfl (wpAny_pure ?_)))))))
  refine wpAny_bind (slicePart_ ps ?_)
  show wpAny _ _ (if (st == 0) = true then _ else _) _ _ s
  rw [if_neg (by simpa using h0)]
  refine wpAny_bind (slicePart_ pl (wpAny_bind (slicePart_ pu (wpAny_bind (wpAny_pure ?_)))))
  exact wpAny_pure h
theorem pick_size (xs : List Value) (lo hi : Option Int) (st : Int) : (pick xs lo hi st).length ≤ Builtin.Slice.slicePlaces (Builtin.Slice.sliceAdjust lo hi st (xs.length : Int)).1 (Builtin.Slice.sliceAdjust lo hi st (xs.length : Int)).2 st := by
  unfold pick
  refine Nat.le_trans (List.length_filterMap_le _ _) ?_
  rw [List.length_range]
  exact Nat.le_refl _
theorem getItem_step {t sl : Addr} {items : Array Value} {vl vu vs : Value} {lo hi : Option Int} {st : Int} {Q : Value → Shared → Prop} (ht : IsTup s.heap t items) (hs : s.heap.IsSliceOf sl vl vu vs) (pl : IsPart vl lo) (pu : IsPart vu hi) (ps : IsPart vs (some st)) (h0 : st ≠ 0) (h1 : st ≠ 1)
    (hz : (pick items.toList lo hi st).length ≤ sizeLine)
    (h : Q (.ref s.heap.objs.size) { s with heap := s.heap.push { cls := .type "tuple", data := .seq (pick items.toList lo hi st).toArray } }) : wpAny (model prog w) A (getItem (.ref t) (.ref sl)) Q E s := by
  have htake : sizeOk (.seq (pick items.toList lo hi st).toArray) := by
    show (pick items.toList lo hi st).toArray.size ≤ sizeLine
    rw [List.size_toArray]
    exact hz
  obtain ⟨os, hos, hcs, hds⟩ := id hs
  have hTs : s.TypeIs (.ref sl) "slice" := ⟨os, hos, hcs⟩
  unfold getItem
  try with_reducible refine wpAny_holding ?_
  first | refine wpAny_bind (wpAny_pure ?_) | skip
  refine wpAny_bind (wpAny_sequenceKey ht.typeIs (by decide) ?_)
  refine wpAny_bind (wpAny_callSpecial?_slot (name := Str.ofString "__getitem__") ht.typeIs PyProof.Rows.slot_tuple_getitem
    (wpAny_call_entry PyProof.Rows.slot_tuple_getitem ht.typeIs entry_tuple_getitem ?_ (args_tuple_getitem _ _)))
  show wpAny _ _ (Builtin.Tuple.tupleItemsOf (.ref t) >>= _) _ _ s
  refine wpAny_bind (tupleItemsOf_ ht ?_)
  refine wpAny_bind (wpAny_typeOf hTs ?_)
  rw [if_pos (by decide)]
  refine wpAny_bind (applied hs pl pu ps h0 ?_)
  have hno : ¬ (((Builtin.Slice.sliceAdjust lo hi st (items.size : Int)).1 == 0 && st == 1 && Builtin.Slice.slicePlaces (Builtin.Slice.sliceAdjust lo hi st (items.size : Int)).1 (Builtin.Slice.sliceAdjust lo hi st (items.size : Int)).2 st == items.size) = true) := by
    intro q
    rw [Bool.and_eq_true, Bool.and_eq_true] at q
    exact h1 (eq_of_beq q.1.2)
  show wpAny _ _ (if ((Builtin.Slice.sliceAdjust lo hi st (items.size : Int)).1 == 0 && st == 1 && Builtin.Slice.slicePlaces (Builtin.Slice.sliceAdjust lo hi st (items.size : Int)).1 (Builtin.Slice.sliceAdjust lo hi st (items.size : Int)).2 st == items.size) = true then _ else _) _ _ s
  rw [if_neg hno]
  have e : ((List.range (Builtin.Slice.slicePlaces (Builtin.Slice.sliceAdjust lo hi st (items.size : Int)).1 (Builtin.Slice.sliceAdjust lo hi st (items.size : Int)).2 st)).filterMap fun (m : Nat) => items[((Builtin.Slice.sliceAdjust lo hi st (items.size : Int)).1 + (m : Int) * st).toNat]?) = pick items.toList lo hi st := by
    unfold pick
    rw [Array.length_toList]
    congr 1
    funext m
    rw [Array.getElem?_toList]
  rw [e]
  first
    | exact wpAny_bind (m := Builtin.Tuple.tupleExact _) (wpAny_newObj_type (wpAny_pure ⟨_, rfl, wpAny_pure h⟩) htake)
    | exact wpAny_bind (m := Builtin.Tuple.tupleExact _) (wpAny_newObj_type (wpAny_bind (wpAny_pure (wpAny_pure ⟨_, rfl, wpAny_pure h⟩))) htake)
    | exact wpAny_bind (wpAny_bind (m := Builtin.Tuple.tupleExact _) (wpAny_newObj_type (wpAny_pure (wpAny_pure ⟨_, rfl, wpAny_pure h⟩)) htake))
    | exact wpAny_bind (wpAny_bind (m := Builtin.Tuple.tupleExact _) (wpAny_newObj_type (wpAny_pure ⟨_, rfl, wpAny_pure h⟩) htake))
end
theorem fm_get {xs : List V} {us : List Value} (r : Vals xs us) (f : Nat → Nat) : ∀ l : List Nat, Vals (l.filterMap fun m => xs[f m]?) (l.filterMap fun m => us[f m]?)
  | [] => .nil
  | m :: t => by
    have ih := fm_get r f t
    rw [List.filterMap_cons, List.filterMap_cons]
    cases e : xs[f m]? with
    | none =>
      rw [r.none_of e]
      exact ih
    | some x =>
      obtain ⟨u, hu, hx⟩ := r.get e
      rw [hu]
      exact .cons hx ih
theorem pick_vals {xs : List V} {us : List Value} (r : Vals xs us) (lo hi : Option Int) (st : Int) : Vals (pick xs lo hi st) (pick us lo hi st) := by
  unfold pick
  rw [← r.length]
  exact fm_get r _ _
def tStep (K : PySem.W.Frag) (te : TE) (tl th ts : TO) : TE := fun σ H Q => te σ H fun x H1 => tl σ H1 fun l H2 => th σ H2 fun u H3 => ts σ H3 fun o H4 => ∃ a xs st, x = .ref a ∧ o = some st ∧ st ≠ 0 ∧ st ≠ 1 ∧ SqT K H4 a xs ∧ (pick xs l u st).length ≤ sizeLine ∧
  ∀ p, H4 p = none → Q (.ref p) (upd H4 p (.tup (pick xs l u st)))
theorem pe_step {X : Cx} {K : PySem.W.Frag} {e : Expr} {te : TE} {lo hi : Option Expr} {sx : Expr} {tl th ts : TO} {p3 pos : Pos} (hK : X.K = K) (he : PE X e te) (hl : PO X lo tl) (hu : PO X hi th) (hst : PO X (some sx) ts) : PE X (.Subscript e (.Slice lo hi (some sx) p3) pos) (tStep K te tl th ts) := by
  subst hK
  refine ⟨fun pins s σ H Q I h => ?_⟩
  refine Subscript_ (thn (he.run pins s σ H _ I h) fun v s1 ⟨x, H1, I1, r1, q1⟩ => ?_)
  refine wpAny_Slice (thn (hl.run pins s1 σ H1 _ I1 q1) fun vl s2 ⟨l, H2, I2, pl, q2⟩ => thn (hu.run pins s2 σ H2 _ I2 q2) fun vu s3 ⟨u, H3, I3, pu, q3⟩ => ?_)
  refine thn (hst.run pins s3 σ H3 _ I3 q3) fun vs s4 ⟨o, H4, I4, ps, q4⟩ => ?_
  obtain ⟨a, xs, st, ex, eo, h0, h1, hx, hz, q⟩ := q4
  subst ex eo
  cases r1
  have I5 : Inv X pins σ H4 { s4 with heap := s4.heap.push { cls := .type "slice", data := .fields #[vl, vu, vs] } } := I4.kept (t' := s4.toks) fun b ob q => Heap.get?_push_of_some _ q
  obtain ⟨its, r, ht, hzz⟩ := I5.tuple hx
  show wpAny (model X.prog X.w) X.A (subscriptTail e (.Slice lo hi (some sx) p3) (.ref a) (.ref s4.heap.objs.size)) (EP X pins σ Q) X.xe { s4 with heap := s4.heap.push { cls := .type "slice", data := .fields #[vl, vu, vs] } }
  refine tail_any (ops := [.ref a, .ref s4.heap.objs.size]) ht.typeIs PyProof.Rows.slot_tuple_getitem.lookup ?_ (by with_unfolding_all rfl)
  have rp := pick_vals r l u st
  have e1 : its.toArray.toList = its := by simp
  refine getItem_step ht (Heap.IsSliceOf.new _ vl vu vs) pl pu ps h0 h1 (by rw [e1, ← rp.length]; exact hz) ?_
  rw [e1]
  refine ⟨.ref _, _, I5.laid (t' := s4.toks) (o := .tup (pick xs l u st)) (fun b ob q => Heap.get?_push_of_some _ q) (Nat.le_refl _) ?_, rfl, q _ (I5.hok.fresh (Nat.le_refl _))⟩
  exact ⟨hz, _, rp, ⟨_, Heap.get?_push_size _ rfl, rfl, _, rfl⟩⟩
end SL

set_option Elab.async false
set_option linter.all false
set_option maxRecDepth 100000
set_option maxHeartbeats 2000000
/-! data, and what is evaluated to some data -/
namespace DT
open PySem PySem.Spec PyProof.Rows L2 HK
/-- the kind's name -/
def tyN : PyData → String
  | .none => "NoneType"
  | .bool _ => "bool"
  | .int _ => "int"
  | .str _ => "str"
  | .list _ => "list"
  | .tuple _ => "tuple"
  | .dict _ => "dict"
def isTup : PyData → Bool
  | .tuple _ => true
  | _ => false
def isLst : PyData → Bool
  | .list _ => true
  | _ => false
def isStr : PyData → Bool
  | .str _ => true
  | _ => false
def isBl : PyData → Bool
  | .bool _ => true
  | _ => false
def isIntB : PyData → Bool
  | .int _ => true
  | .bool _ => true
  | _ => false
theorem kit_tup : ∀ d : PyData, kitB (tyN d) "tuple" = some (isTup d)
  | .none => show kitB "NoneType" "tuple" = some false by decide +kernel
  | .bool _ => show kitB "bool" "tuple" = some false by decide +kernel
  | .int _ => show kitB "int" "tuple" = some false by decide +kernel
  | .str _ => show kitB "str" "tuple" = some false by decide +kernel
  | .list _ => show kitB "list" "tuple" = some false by decide +kernel
  | .tuple _ => show kitB "tuple" "tuple" = some true by decide +kernel
  | .dict _ => show kitB "dict" "tuple" = some false by decide +kernel
theorem kit_lst : ∀ d : PyData, kitB (tyN d) "list" = some (isLst d)
  | .none => show kitB "NoneType" "list" = some false by decide +kernel
  | .bool _ => show kitB "bool" "list" = some false by decide +kernel
  | .int _ => show kitB "int" "list" = some false by decide +kernel
  | .str _ => show kitB "str" "list" = some false by decide +kernel
  | .list _ => show kitB "list" "list" = some true by decide +kernel
  | .tuple _ => show kitB "tuple" "list" = some false by decide +kernel
  | .dict _ => show kitB "dict" "list" = some false by decide +kernel
theorem kit_str : ∀ d : PyData, kitB (tyN d) "str" = some (isStr d)
  | .none => show kitB "NoneType" "str" = some false by decide +kernel
  | .bool _ => show kitB "bool" "str" = some false by decide +kernel
  | .int _ => show kitB "int" "str" = some false by decide +kernel
  | .str _ => show kitB "str" "str" = some true by decide +kernel
  | .list _ => show kitB "list" "str" = some false by decide +kernel
  | .tuple _ => show kitB "tuple" "str" = some false by decide +kernel
  | .dict _ => show kitB "dict" "str" = some false by decide +kernel
theorem kit_bool : ∀ d : PyData, kitB (tyN d) "bool" = some (isBl d)
  | .none => show kitB "NoneType" "bool" = some false by decide +kernel
  | .bool _ => show kitB "bool" "bool" = some true by decide +kernel
  | .int _ => show kitB "int" "bool" = some false by decide +kernel
  | .str _ => show kitB "str" "bool" = some false by decide +kernel
  | .list _ => show kitB "list" "bool" = some false by decide +kernel
  | .tuple _ => show kitB "tuple" "bool" = some false by decide +kernel
  | .dict _ => show kitB "dict" "bool" = some false by decide +kernel
theorem kit_int : ∀ d : PyData, kitB (tyN d) "int" = some (isIntB d)
  | .none => show kitB "NoneType" "int" = some false by decide +kernel
  | .bool _ => show kitB "bool" "int" = some true by decide +kernel
  | .int _ => show kitB "int" "int" = some true by decide +kernel
  | .str _ => show kitB "str" "int" = some false by decide +kernel
  | .list _ => show kitB "list" "int" = some false by decide +kernel
  | .tuple _ => show kitB "tuple" "int" = some false by decide +kernel
  | .dict _ => show kitB "dict" "int" = some false by decide +kernel
theorem ite_f {b : Bool} {A B : Prop} (e : b = false) (h : B) : if b = true then A else B := by
  subst e
  exact iteF h
theorem ite_t {b : Bool} {A B : Prop} (e : b = true) (h : A) : if b = true then A else B := by
  subst e
  exact iteT h
theorem ite_nf {b : Bool} {A B : Prop} (e : b = false) (h : A) : if (!b) = true then A else B := by
  subst e
  exact iteT h
theorem ite_nt {b : Bool} {A B : Prop} (e : b = true) (h : B) : if (!b) = true then A else B := by
  subst e
  exact iteF h
section
variable {K : PySem.W.Frag} {tb : List Addr} {H H' : Hp} {v : V} {d : PyData}
theorem ty_L {a : Addr} {xs : List V} (h : SqL K H a xs) : TyX K H (.ref a) (.type "list") := by
  rcases h with (h | ⟨o, h⟩) | ⟨o, its, n, h1, h2, _⟩
  · exact .base (.lst h)
  · exact .base (.frz h)
  · exact .kList h1 h2
theorem ty_T {a : Addr} {xs : List V} (h : SqT K H a xs) : TyX K H (.ref a) (.type "tuple") := by
  rcases h with (h | ⟨o, h⟩) | ⟨o, its, n, h1, h2, _⟩
  · exact .base (.tup h)
  · exact .fTuple h
  · exact .kTuple h1 h2
theorem Dp_ty (h : Dp K H v d) : TyX K H v (.type (tyN d)) := by
  cases h with
  | non => exact .base .non
  | bl b => exact .base (.bl b)
  | int i => exact .base (.int i)
  | str x => exact .base (.str x)
  | lst h _ => exact ty_L h
  | tup h _ => exact ty_T h
mutual
theorem Dp_ext (e : Ext tb [] H H') (hT : Tabs tb H) : ∀ (d : PyData) {v : V}, Dp K H v d → Dp K H' v d
  | .none, _, .non => .non
  | .bool b, _, .bl _ => .bl b
  | .int i, _, .int _ => .int i
  | .str s, _, .str _ => .str s
  | .list ds, _, .lst h a => .lst (e.sqL hT h (by simp)) (DpAll_ext e hT ds a)
  | .tuple ds, _, .tup h a => .tup (e.sqT hT h (by simp)) (DpAll_ext e hT ds a)
theorem DpAll_ext (e : Ext tb [] H H') (hT : Tabs tb H) : ∀ (ds : List PyData) {vs : List V}, DpAll K H vs ds → DpAll K H' vs ds
  | [], _, .nil => .nil
  | d :: ds, _, .cons h t => .cons (Dp_ext e hT d h) (DpAll_ext e hT ds t)
end
theorem DpAll_len : ∀ {vs : List V} {ds : List PyData}, DpAll K H vs ds → vs.length = ds.length
  | _, _, .nil => rfl
  | _, _, .cons _ t => by rw [List.length_cons, List.length_cons, DpAll_len t]
theorem DpAll_get : ∀ {vs : List V} {ds : List PyData} {i : Nat} {v : V}, DpAll K H vs ds → vs[i]? = some v → ∃ d, ds[i]? = some d ∧ Dp K H v d
  | _, _, _, _, .nil, e => by simp at e
  | _, _, 0, _, .cons h _, e => by
    simp at e
    subst e
    exact ⟨_, rfl, h⟩
  | _, _, i + 1, v, .cons _ t, e => by
    obtain ⟨d, h1, h2⟩ := DpAll_get (i := i) (v := v) t (by simpa using e)
    exact ⟨d, by simpa using h1, h2⟩
theorem DpAll_ints : ∀ {vs : List V} {ns : List Int}, DpAll K H vs (ns.map PyData.int) → vs = ns.map V.int
  | _, [], .nil => rfl
  | _, n :: r, .cons (.int _) t => by rw [DpAll_ints t] <;> rfl
theorem DpAll_two {vs : List V} {ds : List PyData} (h : DpAll K H vs ds) (hl : vs.length = 2) : ∃ x0 x1 d0 d1, vs = [x0, x1] ∧ ds = [d0, d1] ∧ Dp K H x0 d0 ∧ Dp K H x1 d1 := by
  cases h with
  | nil => cases hl
  | cons k0 h =>
    cases h with
    | nil => cases hl
    | cons k1 h =>
      cases h with
      | nil => exact ⟨_, _, _, _, rfl, rfl, k0, k1⟩
      | cons _ _ => simp at hl
/-- data, or some dict -/
def AnyD (K : PySem.W.Frag) (H : Hp) (v : V) (d : PyData) : Prop := Dp K H v d ∨ ∃ a kvs, v = .ref a ∧ H a = some (.dK kvs) ∧ d = .dict []
theorem AnyD_ty (h : AnyD K H v d) : TyX K H v (.type (tyN d)) := by
  rcases h with h | ⟨a, kvs, rfl, h, rfl⟩
  · exact Dp_ty h
  · exact .base (.dK h)
theorem AnyD_ext (e : Ext tb [] H H') (hT : Tabs tb H) (h : AnyD K H v d) : AnyD K H' v d := by
  rcases h with h | ⟨a, kvs, h1, h2, h3⟩
  · exact .inl (Dp_ext e hT d h)
  · exact .inr ⟨a, kvs, h1, e.dK hT h2 (by simp), h3⟩
theorem AnyD_tup {ds : List PyData} (h : AnyD K H v (.tuple ds)) : ∃ a vs, v = .ref a ∧ SqT K H a vs ∧ DpAll K H vs ds := by
  rcases h with h | ⟨a, kvs, h1, h2, h3⟩
  · cases h with
    | tup h1 h2 => exact ⟨_, _, rfl, h1, h2⟩
  · cases h3
end
/-! ### what evaluates to a value of which G holds, the tables tb growing -/
section
variable {K : PySem.W.Frag} {tb : List Addr} {σ : L2.St} {H : Hp}
def Gv (tb : List Addr) (te : TE) (σ : L2.St) (H : Hp) (G : Hp → V → Prop) : Prop := ∀ H1, Ext tb [] H H1 → ∀ Q : VK, (∀ v H2, Ext tb [] H1 H2 → G H2 v → Q v H2) → te σ H1 Q
def Ga (tb : List Addr) (ta : TA) (σ : L2.St) (H : Hp) (G : Hp → List V → Prop) : Prop := ∀ H1, Ext tb [] H H1 → ∀ Q : List V → Hp → Prop, (∀ vs H2, Ext tb [] H1 H2 → G H2 vs → Q vs H2) → ta σ H1 Q
abbrev GI (P : Int → Prop) : Hp → V → Prop := fun _ v => ∃ i, v = .int i ∧ P i
abbrev GD (K : PySem.W.Frag) : Hp → V → Prop := fun H v => ∃ d, Dp K H v d
abbrev GAny (K : PySem.W.Frag) : Hp → V → Prop := fun H v => ∃ d, AnyD K H v d
theorem Gv.imp {te : TE} {G G' : Hp → V → Prop} (h : Gv tb te σ H G) (w : ∀ H v, G H v → G' H v) : Gv tb te σ H G' := fun H1 e Q q => h H1 e Q fun v H2 e2 g => q v H2 e2 (w H2 v g)
theorem Gv.any {te : TE} (h : Gv tb te σ H (GD K)) : Gv tb te σ H (GAny K) := h.imp fun _ _ ⟨d, g⟩ => ⟨d, .inl g⟩
theorem Gv.int {te : TE} {P : Int → Prop} (h : Gv tb te σ H (GI P)) : Gv tb te σ H (GD K) := h.imp fun _ _ ⟨i, e, _⟩ => ⟨.int i, e ▸ .int i⟩
theorem gv_var {i : Nat} {v : V} {G : Hp → V → Prop} (h : σ[i]? = some (some v)) (g : ∀ H1, Ext tb [] H H1 → G H1 v) : Gv tb (tVar i) σ H G := fun H1 e Q q => ⟨v, h, q v H1 Ext.refl (g H1 e)⟩
theorem gv_c {v : V} {G : Hp → V → Prop} (g : ∀ H1, G H1 v) : Gv tb (tC v) σ H G := fun H1 _ Q q => q v H1 Ext.refl (g H1)
theorem gv_ci {i : Int} : Gv tb (tC (.int i)) σ H (GD K) := gv_c fun _ => ⟨_, .int i⟩
theorem gv_cn : Gv tb (tC .non) σ H (GD K) := gv_c fun _ => ⟨_, .non⟩
theorem gv_cb {b : Bool} : Gv tb (tC (.bl b)) σ H (GD K) := gv_c fun _ => ⟨_, .bl b⟩
theorem gv_cs {s : Str} : Gv tb (tC (.str s)) σ H (GD K) := gv_c fun _ => ⟨_, .str s⟩
theorem gv_d {i : Nat} {v : V} {d : PyData} (hT : Tabs tb H) (h : σ[i]? = some (some v)) (g : Dp K H v d) : Gv tb (tVar i) σ H (GD K) := gv_var h fun H1 e => ⟨d, Dp_ext e hT d g⟩
theorem gv_i {i : Nat} {n : Int} {P : Int → Prop} (h : σ[i]? = some (some (.int n))) (g : P n) : Gv tb (tVar i) σ H (GI P) := gv_var h fun _ _ => ⟨n, rfl, g⟩
theorem ga_nil {G : Hp → List V → Prop} (g : ∀ H1, G H1 []) : Ga tb tNil σ H G := fun H1 _ Q q => q [] H1 Ext.refl (g H1)
/-- items that are data, n of them -/
abbrev GDs (K : PySem.W.Frag) (n : Nat) : Hp → List V → Prop := fun H vs => vs.length = n ∧ ∃ ds, DpAll K H vs ds
theorem ga_nilD : Ga tb tNil σ H (GDs K 0) := ga_nil fun _ => ⟨rfl, [], .nil⟩
theorem ga_consD {te : TE} {ta : TA} {n : Nat} (hT : Tabs tb H) (h : Gv tb te σ H (GD K)) (t : Ga tb ta σ H (GDs K n)) : Ga tb (tCons te ta) σ H (GDs K (n + 1)) := fun H1 e Q q =>
  h H1 e _ fun v H2 e2 ⟨d, hd⟩ => t H2 (e.trans e2) _ fun vs H3 e3 ⟨hl, ds, hds⟩ => q (v :: vs) H3 (e2.trans e3) ⟨by rw [List.length_cons, hl], d :: ds, .cons (Dp_ext e3 ((e.trans e2).tabs hT) d hd) hds⟩
abbrev GAs (K : PySem.W.Frag) (n : Nat) : Hp → List V → Prop := fun H vs => vs.length = n ∧ ∀ v ∈ vs, ∃ d, AnyD K H v d
theorem ga_nilA : Ga tb tNil σ H (GAs K 0) := ga_nil fun _ => ⟨rfl, fun v hv => by cases hv⟩
theorem ga_consA {te : TE} {ta : TA} {n : Nat} (hT : Tabs tb H) (h : Gv tb te σ H (GAny K)) (t : Ga tb ta σ H (GAs K n)) : Ga tb (tCons te ta) σ H (GAs K (n + 1)) := fun H1 e Q q =>
  h H1 e _ fun v H2 e2 ⟨d, hd⟩ => t H2 (e.trans e2) _ fun vs H3 e3 ⟨hl, hds⟩ => q (v :: vs) H3 (e2.trans e3) ⟨by rw [List.length_cons, hl], fun x hx => by
    rcases List.mem_cons.mp hx with rfl | hx
    · exact ⟨d, AnyD_ext e3 ((e.trans e2).tabs hT) hd⟩
    · exact hds x hx⟩
theorem gv_tup {ta : TA} {n : Nat} (hT : Tabs tb H) (hn : n ≤ 100000) (h : Ga tb ta σ H (GDs K n)) : Gv tb (tTup ta) σ H (GD K) := fun H1 e Q q =>
  h H1 e _ fun vs H2 e2 ⟨hl, ds, hds⟩ => ⟨by rw [hl]; exact line_of hn, fun p np => by
    have e3 : Ext tb [] H2 (upd H2 p (.tup vs)) := Ext.new ((e.trans e2).tabs hT) np
    exact q _ _ (e2.trans e3) ⟨.tuple ds, .tup (SqT.of upd_same) (DpAll_ext e3 ((e.trans e2).tabs hT) ds hds)⟩⟩
theorem gv_lst {ta : TA} {n : Nat} (hT : Tabs tb H) (hn : n ≤ 100000) (h : Ga tb ta σ H (GDs K n)) : Gv tb (tLst ta) σ H (GD K) := fun H1 e Q q =>
  h H1 e _ fun vs H2 e2 ⟨hl, ds, hds⟩ => ⟨by rw [hl]; exact line_of hn, fun p np => by
    have e3 : Ext tb [] H2 (upd H2 p (.lst vs)) := Ext.new ((e.trans e2).tabs hT) np
    exact q _ _ (e2.trans e3) ⟨.list ds, .lst (SqL.of upd_same) (DpAll_ext e3 ((e.trans e2).tabs hT) ds hds)⟩⟩
theorem gv_op {ta te : TE} {g : Int → Int → Int} {P P1 P2 : Int → Prop} (ha : Gv tb ta σ H (GI P1)) (hb : Gv tb te σ H (GI P2)) (hp : ∀ i j, P1 i → P2 j → P (g i j)) : Gv tb (tOp (rI0 fun i j => .int (g i j)) ta te) σ H (GI P) := fun H1 e Q q =>
  ha H1 e _ fun _ H2 e2 ⟨i, ei, hi⟩ => hb H2 (e.trans e2) _ fun _ H3 e3 ⟨j, ej, hj⟩ => ⟨i, j, ei, ej, q _ H3 (e2.trans e3) ⟨_, rfl, hp i j hi hj⟩⟩
theorem gv_opC {ta te : TE} {C : Int → Int → Prop} {g : Int → Int → Int} {P P1 P2 : Int → Prop} (ha : Gv tb ta σ H (GI P1)) (hb : Gv tb te σ H (GI P2)) (hc : ∀ i j, P1 i → P2 j → C i j) (hp : ∀ i j, P1 i → P2 j → P (g i j)) : Gv tb (tOp (rI C fun i j => .int (g i j)) ta te) σ H (GI P) := fun H1 e Q q =>
  ha H1 e _ fun _ H2 e2 ⟨i, ei, hi⟩ => hb H2 (e.trans e2) _ fun _ H3 e3 ⟨j, ej, hj⟩ => ⟨i, j, ei, ej, hc i j hi hj, q _ H3 (e2.trans e3) ⟨_, rfl, hp i j hi hj⟩⟩
theorem gv_k {n : Int} {P : Int → Prop} (h : P n) : Gv tb (tC (.int n)) σ H (GI P) := gv_c fun _ => ⟨n, rfl, h⟩
end
/-! ### tuples joined, cut: somewhere there is such a tuple -/
section
variable {K : PySem.W.Frag} {tb : List Addr} {H : Hp} {a b : Addr} {xs ys : List V} {Q : VK}
theorem cat_rd (hT : Tabs tb H) (hx : SqT K H a xs) (hy : SqT K H b ys) (hz : xs.length + ys.length ≤ 100000) (q : ∀ p H', Ext tb [] H H' → SqT K H' p (xs ++ ys) → Q (.ref p) H') : rCatA K (.ref a) (.ref b) H Q := by
  refine ⟨a, b, xs, ys, rfl, rfl, hx, hy, line_of hz, fun e => ?_, fun _ e => ?_, fun _ _ p np => ?_⟩
  · subst e
    exact q b H Ext.refl hy
  · subst e
    refine q a H Ext.refl ?_
    rw [List.append_nil]
    exact hx
  · exact q p _ (Ext.new hT np) (SqT.of upd_same)
theorem cut_rd {lo hi : Option Int} (hT : Tabs tb H) (hx : SqT K H a xs) (q : ∀ p H', Ext tb [] H H' → SqT K H' p (cutV xs lo hi) → Q (.ref p) H') : rSlA K (.ref a) lo hi H Q := by
  refine ⟨a, xs, rfl, hx, fun hw => ?_, fun _ p np => ?_⟩
  · refine q a H Ext.refl ?_
    have : cutV xs lo hi = xs := by
      unfold cutV
      rw [hw.1, hw.2, List.drop_zero, Nat.sub_zero, List.take_length]
    rw [this]
    exact hx
  · exact q p _ (Ext.new hT np) (SqT.of upd_same)
end
theorem cut_to {α : Type} (f : α → V) (l : List α) (n : Nat) (h : n ≤ l.length) : cutV (l.map f) none (some (n : Int)) = (l.take n).map f := by
  unfold cutV
  rw [HT.sIx_nat, HT.sIx_none, List.drop_zero, Nat.sub_zero, List.length_map, List.map_take, Nat.min_eq_left h]
theorem cut_from {α : Type} (f : α → V) (l : List α) (n : Nat) : cutV (l.map f) (some (n : Int)) none = (l.drop n).map f := by
  unfold cutV
  rw [HT.sIx_nat, HT.sIx_none, List.length_map, List.map_drop]
  rcases Nat.le_total n l.length with h | h
  · rw [Nat.min_eq_left h]
    exact List.take_of_length_le (by rw [List.length_drop, List.length_map]; exact Nat.le_refl _)
  · rw [Nat.min_eq_right h, Nat.sub_self, List.take_zero]
    symm
    exact List.drop_eq_nil_of_le (by rw [List.length_map]; exact h)
end DT

set_option Elab.async false
set_option linter.all false
set_option maxRecDepth 100000
set_option maxHeartbeats 2000000
/-! data with dicts anywhere in it; such a thing == a text, in a row of texts -/
namespace PySem
namespace SeqAt
open PySem.AutoSeq1 (wpAny_loadPart')
open PySem.MeetsSeq PySem.MeetsSeq2 PySem.MeetsSeq3
theorem dict_declines_str (l : Addr) (es : Array DictEntry) (ep : Nat) (dd : Option Addr) (sl : Array (Option Value)) (b : Str) (u : Tok) :
    Meets (Builtin.«dict.__eq__» ⟨[.ref l, .str b u], []⟩) (fun _ R s => s.heap.get? l = some { cls := .type "dict", dict := dd, data := .dict es ep, slots := sl } ∧ R (.ok (.ret .notImplemented)) s) :=
  .of_wp fun prog w A R s h => by obtain ⟨hp, g, d, tk, os⟩ := s; obtain ⟨hl, h⟩ := h; have f1 := F.sub_str_dict; wp_walk using wpAny_loadPart' hl, wpAny_load hl; exact ⟨_, rfl, h⟩
theorem str_declines_dict (b : Str) (u : Tok) (l : Addr) (es : Array DictEntry) (ep : Nat) (dd : Option Addr) (sl : Array (Option Value)) :
    Meets (Builtin.«str.__eq__» ⟨[.str b u, .ref l], []⟩) (fun _ R s => s.heap.get? l = some { cls := .type "dict", dict := dd, data := .dict es ep, slots := sl } ∧ R (.ok (.ret .notImplemented)) s) :=
  .of_wp fun prog w A R s h => by obtain ⟨hp, g, d, tk, os⟩ := s; obtain ⟨hl, h⟩ := h; wp_walk using wpAny_loadPart' hl, wpAny_load hl; exact ⟨_, rfl, h⟩
section
variable {A : Around} {s : Shared}
theorem Rc_dict_str {l : Addr} {es : Array DictEntry} {ep : Nat} {dd : Option Addr} {sl : Array (Option Value)} (b : Str) (u : Tok) (ho : s.heap.get? l = some { cls := .type "dict", dict := dd, data := .dict es ep, slots := sl }) (hu : A.units < cLine) : RcAt A s (.ref l) (.str b u) false := fun prog w E Q h => by
  exact rc_eq_decline_or (k := false) ⟨_, ho, rfl⟩ (typeIs_str s b u) (by decide) F.sub_str_dict F.slot_dict_eq F.slot_str_eq_refl
    (fun _ hq => call_meets F.slot_dict_eq ⟨_, ho, rfl⟩ F.entry_dict_eq (F.args_dict_eq_2 _ _) (dict_declines_str l es ep dd sl b u) ⟨ho, hq⟩)
    (fun _ hq => call_meets F.slot_str_eq_refl (typeIs_str s b u) F.entry_str_eq (F.args_str_eq_2 _ _) (str_declines_dict b u l es ep dd sl) ⟨ho, hq⟩)
    (fun _ hq => wpAny_of_eq (rfl : isSame (.ref l) (.str b u) = pure false) hq) (.inr hu) h
theorem Rc_str_dict {l : Addr} {es : Array DictEntry} {ep : Nat} {dd : Option Addr} {sl : Array (Option Value)} (b : Str) (u : Tok) (ho : s.heap.get? l = some { cls := .type "dict", dict := dd, data := .dict es ep, slots := sl }) (hu : A.units < cLine) : RcAt A s (.str b u) (.ref l) false := fun prog w E Q h => by
  exact rc_eq_decline_or (k := false) (typeIs_str s b u) ⟨_, ho, rfl⟩ (by decide) F.sub_dict_str F.slot_str_eq F.slot_dict_eq_refl
    (fun _ hq => call_meets F.slot_str_eq (typeIs_str s b u) F.entry_str_eq (F.args_str_eq_2 _ _) (str_declines_dict b u l es ep dd sl) ⟨ho, hq⟩)
    (fun _ hq => call_meets F.slot_dict_eq_refl ⟨_, ho, rfl⟩ F.entry_dict_eq (F.args_dict_eq_2 _ _) (dict_declines_str l es ep dd sl b u) ⟨ho, hq⟩)
    (fun _ hq => wpAny_of_eq (rfl : isSame (.str b u) (.ref l) = pure false) hq) (.inr hu) h
theorem Eq_str_dict {l : Addr} {es : Array DictEntry} {ep : Nat} {dd : Option Addr} {sl : Array (Option Value)} (b : Str) (u : Tok) (ho : s.heap.get? l = some { cls := .type "dict", dict := dd, data := .dict es ep, slots := sl }) (hu : A.units < cLine) : EqAt A s (.str b u) (.ref l) false := fun prog w E Q h => by
  unfold eqBool
  refine wpAny_holding ?_
  refine wpAny_ite_split (fun hab => absurd (eq_of_beq hab) nofun) (fun _ => ?_)
  exact wpAny_bind (Rc_str_dict b u ho hu prog w E _ (wpAny_truthy_bool h))
end
end SeqAt
end PySem
namespace DT
open PySem PySem.Spec PyProof.Rows L2 HK
mutual
inductive Rp (K : PySem.W.Frag) (H : Hp) : V → PyData → Prop
  | non : Rp K H .non .none
  | bl (b : Bool) : Rp K H (.bl b) (.bool b)
  | int (i : Int) : Rp K H (.int i) (.int i)
  | str (x : Str) : Rp K H (.str x) (.str x)
  | lst {a : Addr} {xs : List V} {ds : List PyData} : SqL K H a xs → RpAll K H xs ds → Rp K H (.ref a) (.list ds)
  | tup {a : Addr} {xs : List V} {ds : List PyData} : SqT K H a xs → RpAll K H xs ds → Rp K H (.ref a) (.tuple ds)
  | dct {a : Addr} {kvs : List (Key × V)} : H a = some (.dK kvs) → Rp K H (.ref a) (.dict [])
inductive RpAll (K : PySem.W.Frag) (H : Hp) : List V → List PyData → Prop
  | nil : RpAll K H [] []
  | cons {v : V} {vs : List V} {d : PyData} {ds : List PyData} : Rp K H v d → RpAll K H vs ds → RpAll K H (v :: vs) (d :: ds)
end
section
variable {K : PySem.W.Frag} {tb : List Addr} {H H' : Hp} {v : V} {d : PyData}
theorem Rp_ty (h : Rp K H v d) : TyX K H v (.type (tyN d)) := by
  cases h with
  | non => exact .base .non
  | bl b => exact .base (.bl b)
  | int i => exact .base (.int i)
  | str x => exact .base (.str x)
  | lst h _ => exact ty_L h
  | tup h _ => exact ty_T h
  | dct h => exact .base (.dK h)
mutual
theorem Rp_ext (e : Ext tb [] H H') (hT : Tabs tb H) : ∀ (d : PyData) {v : V}, Rp K H v d → Rp K H' v d
  | .none, _, .non => .non
  | .bool b, _, .bl _ => .bl b
  | .int i, _, .int _ => .int i
  | .str s, _, .str _ => .str s
  | .list ds, _, .lst h a => .lst (e.sqL hT h (by simp)) (RpAll_ext e hT ds a)
  | .tuple ds, _, .tup h a => .tup (e.sqT hT h (by simp)) (RpAll_ext e hT ds a)
  | .dict _, _, .dct h => .dct (e.dK hT h (by simp))
theorem RpAll_ext (e : Ext tb [] H H') (hT : Tabs tb H) : ∀ (ds : List PyData) {vs : List V}, RpAll K H vs ds → RpAll K H' vs ds
  | [], _, .nil => .nil
  | d :: ds, _, .cons h t => .cons (Rp_ext e hT d h) (RpAll_ext e hT ds t)
end
theorem RpAll_len : ∀ {vs : List V} {ds : List PyData}, RpAll K H vs ds → vs.length = ds.length
  | _, _, .nil => rfl
  | _, _, .cons _ t => by rw [List.length_cons, List.length_cons, RpAll_len t]
theorem RpAll_get : ∀ {vs : List V} {ds : List PyData} {i : Nat} {v : V}, RpAll K H vs ds → vs[i]? = some v → ∃ d, ds[i]? = some d ∧ Rp K H v d
  | _, _, _, _, .nil, e => by simp at e
  | _, _, 0, _, .cons h _, e => by
    simp at e
    subst e
    exact ⟨_, rfl, h⟩
  | _, _, i + 1, v, .cons _ t, e => by
    obtain ⟨d, h1, h2⟩ := RpAll_get (i := i) (v := v) t (by simpa using e)
    exact ⟨d, by simpa using h1, h2⟩
theorem RpAll_app : ∀ {xs ys : List V} {cs ds : List PyData}, RpAll K H xs cs → RpAll K H ys ds → RpAll K H (xs ++ ys) (cs ++ ds)
  | _, _, _, _, .nil, t => t
  | _, _, _, _, .cons h r, t => .cons h (RpAll_app r t)
theorem RpAll_take : ∀ {xs : List V} {cs : List PyData} (k : Nat), RpAll K H xs cs → RpAll K H (xs.take k) (cs.take k)
  | _, _, 0, _ => .nil
  | _, _, _ + 1, .nil => .nil
  | _, _, k + 1, .cons h r => .cons h (RpAll_take k r)
theorem RpAll_drop : ∀ {xs : List V} {cs : List PyData} (k : Nat), RpAll K H xs cs → RpAll K H (xs.drop k) (cs.drop k)
  | _, _, 0, h => h
  | _, _, _ + 1, .nil => .nil
  | _, _, k + 1, .cons _ r => RpAll_drop k r
theorem Rp_tup {ds : List PyData} (h : Rp K H v (.tuple ds)) : ∃ a vs, v = .ref a ∧ SqT K H a vs ∧ RpAll K H vs ds := by
  cases h with
  | tup h1 h2 => exact ⟨_, _, rfl, h1, h2⟩
theorem Rp_strs : ∀ ss : List Str, RpAll K H (ss.map V.str) (ss.map PyData.str)
  | [] => .nil
  | s :: r => .cons (.str s) (Rp_strs r)
theorem Rp_ints : ∀ ss : List Int, RpAll K H (ss.map V.int) (ss.map PyData.int)
  | [] => .nil
  | s :: r => .cons (.int s) (Rp_ints r)
end
/-! ### x == 'a', x in ('a', ..) -/
def eqS (d : PyData) (s : Str) : Bool := match d with
  | .str z => z == s
  | _ => false
section
variable {X : Cx}
theorem eq_str {pins : List (Addr × Obj)} {σ : L2.St} {H : Hp} {s : Shared} {x : V} {v : Value} {d : PyData} (I : L2.Inv X pins σ H s) (hu : X.A.units + 64 < cLine) (h : Rp X.K H x d) (r : RelV x v) (b : Str) (u : Tok) : SeqAt.EqAt X.A.in1 s (.str b u) v (eqS d b) := by
  have hu1 : X.A.in1.units < cLine := by show X.A.units + 1 < cLine; omega
  cases h with
  | non =>
    cases (show v = Value.none from r)
    exact SeqAt.EqAt.str_none b u
  | bl k =>
    cases (show v = Value.bool k from r)
    exact SeqAt.EqAt.str_bool b u k
  | int i =>
    obtain ⟨t, rfl⟩ := (show ∃ t, v = Value.int i t from r)
    exact SeqAt.EqAt.str_int b u i t
  | str z =>
    obtain ⟨t, rfl⟩ := (show ∃ t, v = Value.str z t from r)
    have e : eqS (.str z) b = (b == z) := by
      show (z == b) = (b == z)
      by_cases h : z = b
      · subst h
        rfl
      · have h1 : (z == b) = false := by simpa using h
        have h2 : (b == z) = false := by simpa using fun q => h q.symm
        rw [h1, h2]
    rw [e]
    exact SeqAt.EqAt.str_str b u z t
  | @lst a xs ds hq _ =>
    cases (show v = Value.ref a from r)
    obtain ⟨its, _, pl, _⟩ := I.list hq
    exact SeqAt.EqAt.str_list b u pl.isList hu1
  | @tup a xs ds hq _ =>
    cases (show v = Value.ref a from r)
    obtain ⟨its, _, pl, _⟩ := I.tuple hq
    exact SeqAt.EqAt.str_tuple b u pl hu1
  | @dct a kvs hq =>
    cases (show v = Value.ref a from r)
    obtain ⟨_, _, vs, _, hd⟩ := I.hok a _ hq
    obtain ⟨o, es, ep, ho, hx, hdd, _⟩ := hd
    obtain ⟨cls, dd, dat, sl⟩ := o
    obtain ⟨hc, hdn, _⟩ := hx
    simp only at hc hdd
    subst hc hdd
    exact SeqAt.Eq_str_dict b u ho hu1
def rInS (K : PySem.W.Frag) : R2 := fun x y H Q => ∃ (p : Addr) (ss : List Str) (d : PyData), y = .ref p ∧ SqT K H p (ss.map V.str) ∧ Rp K H x d ∧ Q (.bl (ss.any (eqS d))) H
theorem mem_strs {pins : List (Addr × Obj)} {σ : L2.St} {H : Hp} {s : Shared} {x : V} {v : Value} {d : PyData} (I : L2.Inv X pins σ H s) (hu : X.A.units + 64 < cLine) (h : Rp X.K H x d) (r : RelV x v) :
    ∀ {ss : List Str} {us : List Value}, Vals (ss.map V.str) us → (∀ u ∈ us, SeqAt.EqAt X.A.in1 s u v (match u with | .str b _ => eqS d b | _ => false)) ∧ us.any (fun u => match u with | .str b _ => eqS d b | _ => false) = ss.any (eqS d)
  | [], _, .nil => ⟨fun u hm => (by cases hm), rfl⟩
  | b :: ss, _, .cons (⟨t, rfl⟩) tl => by
    obtain ⟨h1, h2⟩ := mem_strs I hu h r (ss := ss) tl
    refine ⟨fun u hu' => ?_, ?_⟩
    · rcases List.mem_cons.mp hu' with rfl | hu'
      · exact eq_str I hu h r b t
      · exact h1 u hu'
    · rw [List.any_cons, List.any_cons, h2]
theorem q_inS {K : PySem.W.Frag} (hK : X.K = K) (hu : X.A.units + 64 < cLine) : OpR X (compareOp .In) (rInS K) := by
  subst hK
  intro pins s σ H x y v u Q I rx ry h
  obtain ⟨p, ss, d, rfl, hq, hd, q⟩ := h
  cases ry
  obtain ⟨its, r, pl, hz⟩ := I.tuple hq
  obtain ⟨h1, h2⟩ := mem_strs I hu hd rx (ss := ss) r
  refine SeqAt.in_tupleAt (fun u => match u with | .str b _ => eqS d b | _ => false) pl (fun w hw => h1 w (by simpa using hw)) ⟨.bl _, H, I, rfl, ?_⟩
  have e : its.toArray.any (fun u => match u with | .str b _ => eqS d b | _ => false) = ss.any (eqS d) := by
    rw [← h2]
    simp
  rw [e]
  exact q
theorem rc_str {pins : List (Addr × Obj)} {σ : L2.St} {H : Hp} {s : Shared} {x : V} {v : Value} {d : PyData} (I : L2.Inv X pins σ H s) (hu : X.A.units + 64 < cLine) (h : Rp X.K H x d) (r : RelV x v) (b : Str) (u : Tok) : SeqAt.RcAt X.A s v (.str b u) (eqS d b) := by
  have hu1 : X.A.units < cLine := by omega
  cases h with
  | non =>
    cases (show v = Value.none from r)
    exact SeqAt.RcAt.none_str b u
  | bl k =>
    cases (show v = Value.bool k from r)
    exact SeqAt.RcAt.bool_str k b u
  | int i =>
    obtain ⟨t, rfl⟩ := (show ∃ t, v = Value.int i t from r)
    exact SeqAt.RcAt.int_str i t b u
  | str z =>
    obtain ⟨t, rfl⟩ := (show ∃ t, v = Value.str z t from r)
    exact SeqAt.RcAt.str_str z t b u
  | @lst a xs ds hq _ =>
    cases (show v = Value.ref a from r)
    obtain ⟨its, _, pl, _⟩ := I.list hq
    exact SeqAt.RcAt.list_str b u pl.isList hu1
  | @tup a xs ds hq _ =>
    cases (show v = Value.ref a from r)
    obtain ⟨its, _, pl, _⟩ := I.tuple hq
    exact SeqAt.RcAt.tuple_str b u pl hu1
  | @dct a kvs hq =>
    cases (show v = Value.ref a from r)
    obtain ⟨_, _, vs, _, hd⟩ := I.hok a _ hq
    obtain ⟨o, es, ep, ho, hx, hdd, _⟩ := hd
    obtain ⟨cls, dd, dat, sl⟩ := o
    obtain ⟨hc, hdn, _⟩ := hx
    simp only at hc hdd
    subst hc hdd
    exact SeqAt.Rc_dict_str b u ho hu1
theorem q_repT {K : PySem.W.Frag} (hK : X.K = K) : OpR X (binaryOp .Mult) (rRepT K) := hK ▸ op_repT
def rEqS (K : PySem.W.Frag) : R2 := fun x y H Q => ∃ (b : Str) (d : PyData), y = .str b ∧ Rp K H x d ∧ Q (.bl (eqS d b)) H
theorem q_eqS {K : PySem.W.Frag} (hK : X.K = K) (hu : X.A.units + 64 < cLine) : OpR X (compareOp .Eq) (rEqS K) := by
  subst hK
  intro pins s σ H x y v u Q I rx ry h
  obtain ⟨b, d, rfl, hd, q⟩ := h
  obtain ⟨t, rfl⟩ := ry
  exact rc_str I hu hd rx b t X.prog X.w X.xe _ ⟨.bl _, H, I, rfl, q⟩
end
end DT

set_option Elab.async false
set_option linter.all false
set_option maxRecDepth 100000
set_option maxHeartbeats 2000000
/-! own errors whose __init__ says super().__init__(text) -/
namespace HK
open PySem PySem.Spec PyProof.Rows L2
/-- a def whose body is super().__init__(text) -/
structure SupSh (st : Stmt) (p2 p3 : Pos) : Prop where
  body : ∃ (p0 p1 p4 pc : Pos) (txt : Str) (j : Nat), defBody st = [.Expr (.Call (.Attribute (.Call (.Name "super" p0) [] [] p1) "__init__" p2) [.Constant (.str txt) j pc] [] p3) p4]
  line : (p2.endLine == p3.line) = true
  binds : ∀ (qual : Str) (kV doc pm : Value) (an : Option Addr) (cd ct : Value) (cc : Addr) (s : Shared) (u : Value), BindsTo s (PySem.W.ksFn "__init__" qual (defArgs st) (defBody st) (defScope st) .none kV doc pm an cd ct cc) ⟨[u], []⟩ [("self", u)]
  ar : ∃ ar, ((defArgs st).posonlyargs ++ (defArgs st).args).head? = some ar ∧ ar.arg = "self"
  cell : ∀ x ∈ (defScope st).names, x.2 ≠ .cell
  co : (defScope st).isCoroutine = false
  gen : (defScope st).isGenerator = false
  kind : (defScope st).kind = .function
  su : (defScope st).names.lookup ("super" : Str) = some .globalImplicit
  cl : (defScope st).names.lookup ("__class__" : Str) = some .free
  se : (defScope st).names.lookup ("self" : Str) = some .local
/-- the __init__ of the class C: super().__init__(text), over ValueError -/
structure InitS (P : Program) (K : PySem.W.Frag) (C fI : Addr) : Prop where
  i : PySem.W.findIn K (.ref C) "__init__" = some (some (.ref fI))
  ti : PySem.W.typeIn K (.ref fI) = some (.type "function")
  ex : ∃ (cc cda : Addr) (st : Stmt) (p2 p3 : Pos) (qual : Str) (oc kV doc pm ct : Value) (od an : Option Addr) (osl : Array (Option Value)) (ccl : Value) (cdd : Option Addr) (vs : Array Value) (ccs : Array (Option Value)) (file : Str) (tf : Tok)
      (cl : Value) (cld : Option Addr) (csl : Array (Option Value)),
    SupSh st p2 p3 ∧ K.lookup fI = some ⟨oc, od, .func (PySem.W.ksFn "__init__" qual (defArgs st) (defBody st) (defScope st) .none kV doc pm an (.ref cda) ct cc), osl⟩ ∧ PySem.W.codeIn K (.ref cda) qual = true ∧
    K.lookup cda = some ⟨ccl, cdd, .fields vs, ccs⟩ ∧ vs[2]? = some (.str file tf) ∧ ((P.main.file : Str) == file) = true ∧
    K.lookup cc = some ⟨cl, cld, .cell (some (.ref C)), csl⟩
structure ExcI (P : Program) (K : PySem.W.Frag) (mg : Str → Option Value) (x : Str) (C : Addr) : Prop where
  m : mg x = some (.ref C)
  q : PySem.W.excInitIn K C exBases "ValueError.__new__" = true
  kp : PySem.W.keepIn K (.ref C) = true
  sb : PySem.W.subIn K (.ref C) (.type "BaseException") = some true
  ty : PySem.W.typeIn K (.ref C) = some (.type "type")
  is : PySem.W.isClsIn K C = true
  self : PySem.W.subIn K (.ref C) (.ref C) = some true
  sv : PySem.W.subIn K (.ref C) (.type "ValueError") = some true
  su : PySem.W.ks_superIn K C C "__init__" = some (some (.builtin "ValueError.__init__"))
  mr : PySem.W.mroIn K C (.ref C) = some true
  op : PySem.W.nsIn K cStatics "thirdparty.any" = some none
  ms : mg "super" = none
  ps : (P.main.scope.names.lookup ("super" : Str)).isSome = false
  ini : ∃ fI, InitS P K C fI
theorem ExcI.ex {P : Program} {K : PySem.W.Frag} {mg : Str → Option Value} {x : Str} {C : Addr} (h : ExcI P K mg x C) : PySem.W.exmOne K (.ref C) (.ref C) = some true := exm_self h.sb h.is h.ty h.self
theorem sup_eq {o : Expr} {name : Str} {p2 p3 pc : Pos} {txt : Str} {j : Nat} {env : Env} (hline : (p2.endLine == p3.line) = true) : eval (.Call (.Attribute o name p2) [.Constant (.str txt) j pc] [] p3) env = (do
      let ov ← attributeBase o name env (eval o env)
      standAt p2.atName
      let (f, first) ← holding [ov] (getMethod ov name (do return (← importBound o env).getD true))
      callWith p3 f first (backTo p3 (starEach [.Constant (.str txt) j pc] env)) []) := by
  rw [arm_eval_Call]
  have hf : methodCallForm 1 (backTo p3 (starEach [.Constant (.str txt) j pc] env)) (backToKw p3 (keywordEach [] env)) = true := rfl
  unfold methodCall calleeOf methodCallPos
  simp only [List.length_cons, List.length_nil, Nat.zero_add, Nat.add_zero, hf, hline, Bool.not_true, Bool.false_or, if_true, pure_bind]
  rfl
theorem call_ownI {X : Cx} {pins : List (Addr × Obj)} {σ : L2.St} {H : Hp} {s : Shared} {C : Addr} {x : Str} {k : Nat} {Q : Value → Shared → Prop} (h : ExcI X.prog X.K X.mg x C) (hr : Room k X.A) (I : Inv X pins σ H s)
    (hq : ∀ (h' : Heap) (tk : Nat) (e t : Addr), (∀ b o, s.heap.get? b = some o → h'.get? b = some o) → s.heap.get? e = none → h'.get? e = some (PySem.W.excRec (.ref C) t none .none .none (.bool false)) → Q (.ref e) { s with heap := h', toks := tk }) :
    wpAny (model X.prog X.w) X.A (call (.ref C) []) Q X.xe s := by
  obtain ⟨nm, N', qn, bs, bm, hdct, sn, sub, ab, col, dd, k0, k1, k2, k3, k5, hC, hT⟩ := PySem.W.excInit_of I.kIn h.q
  obtain ⟨fI, hi⟩ := h.ini
  obtain ⟨cc, cda, st, p2, p3, qual, oc, kV, doc, pm, ct, od, an, osl, ccl, cdd, vs, ccs, file, tf, cl, cld, csl, sh, hfI, hcd, hcda, hvs, hfile, hcc⟩ := hi.ex
  obtain ⟨p0, p1, p4, pc, txt, j, hbody⟩ := sh.body
  obtain ⟨ar, har, hars⟩ := sh.ar
  have hline := sh.line
  have hbind := sh.binds qual kV doc pm an (.ref cda) ct cc
  have hcell := sh.cell
  have hco := sh.co
  have hgen := sh.gen
  have hk := sh.kind
  have hsu := sh.su
  have hcl := sh.cl
  have hse := sh.se
  obtain ⟨hp, gg, dr, tk, os⟩ := s
  have hsz : hp.objs.size ≤ hp.objs.size + 1 := Nat.le_succ _
  have k1' : ∀ b o, hp.get? b = some o → ((hp.push (PySem.W.kdv_tup [])).push (PySem.HandSPX.excO C hp.objs.size)).get? b = some o := fun b o e => Heap.get?_push_of_some _ (Heap.get?_push_of_some _ e)
  have hget : ((hp.push (PySem.W.kdv_tup [])).push (PySem.HandSPX.excO C hp.objs.size)).get? (hp.objs.size + 1) = some (PySem.HandSPX.excO C hp.objs.size) := by heap_get
  refine wpAny_call (PySem.HandSPX.call_own F.excBase_ValueError hT hC (PySem.W.looks_findIn I.kIn hi.i) (fun self => PySem.W.bind_fn I.kIn self hi.ti) (Nat.zero_le _) ?_)
  have above : hp.objs.size ≤ ((hp.push (PySem.W.kdv_tup [])).push (PySem.HandSPX.excO C hp.objs.size)).objs.size := by rw [Heap.size_push, Heap.size_push]; omega
  generalize hh1 : (hp.push (PySem.W.kdv_tup [])).push (PySem.HandSPX.excO C hp.objs.size) = h1 at k1' hget above
  have hnew : hp.get? (hp.objs.size + 1) = none := by
    cases e : hp.get? (hp.objs.size + 1) with
    | none => rfl
    | some o => exact absurd (Heap.lt_size e) (Nat.not_lt.mpr (Nat.le_succ _))
  generalize he0 : hp.objs.size + 1 = e0 at hget hnew
  have kI := I.kIn
  have glob := I.ok.mod.glob.keeps I.bk
  obtain ⟨mb, blt, hmb⟩ := I.ok.mod.blt
  have blt := blt.keeps I.bk
  have KX1 : X.K.In h1 := kI.keeps k1'
  refine ks_codeAny_call_defAt (fd := PySem.W.ksFn "__init__" qual (defArgs st) (defBody st) (defScope st) .none kV doc pm an (.ref cda) ct cc) (body := defBody st) (binds := [("self", .ref e0)])
    (by rw [make_depth]; have := hr.dp; omega) (KX1 _ _ hfI) rfl (I.nolimit.keeps k1') (PySem.W.codeRec_of KX1 hcd) rfl (hbind _ _) hcell ?_ ?_ hco hgen hk
  · intro y hy
    rw [List.mem_singleton.mp hy]
    exact hse
  intro h2 hns2 k2'
  have KX2 : X.K.In h2 := KX1.keeps k2'
  have kk2 : ∀ b o, hp.get? b = some o → h2.get? b = some o := fun b o e => k2' b o (k1' b o e)
  rw [hbody]
  refine ks_wpAt_execs_cons (ks_wpAt_Expr_any (ks_wpAt_MethodCall (pl := (do return (← importBound (.Call (.Name "super" p0) [] [] p1) (callEnv _ _ _)).getD true)) ?_ (sup_eq hline)) (by show ((defScope st).kind == .module && _) = false; rw [hk]; rfl))
  refine ks_wpAt_super_base (f := fI) (cc := cda) (ar := ar) hsu hcl (by decide) rfl (KX2 _ _ hfI) rfl har rfl (KX2 _ _ hcda) rfl hvs hfile h.ps ?_
  refine PySem.W.ks_loadName_global hk hsu (Calls.loadGlobal_builtin (glob.keeps kk2) h.ms (blt.keeps kk2) ((hmb _ (by decide)).trans PyProof.Rows.Boot.«super») ⟨rfl, ?_⟩)
  refine wpAny_loadName_free hk hcl rfl ⟨_, KX2 _ _ hcc, rfl⟩ ?_
  rw [hars]
  refine wpAny_loadName_local hk hse hns2 rfl ?_
  obtain ⟨oD, cdD, hD1, hD2⟩ : ∃ oD cdD, h2.get? C = some oD ∧ oD.data = .cls cdD := ⟨_, _, kk2 _ _ hC, rfl⟩
  refine ks_wpAny_isType_cls hD1 hD2 ⟨rfl, ?_⟩
  refine ks_wpAny_call_super hD1 hD2 (k2' _ _ hget) rfl (fun c z => by cases z) (PySem.W.looks_mroIn KX2 h.mr) (fun h3 hso k3' => ?_)
  have KX3 : X.K.In h3 := KX2.keeps k3'
  have he3 := k3' _ _ (k2' _ _ hget)
  have hC3 := k3' _ _ (kk2 _ _ hC)
  have hsu2 := h.su
  have hne : e0 ≠ C := fun z => absurd (Heap.lt_size hC) (by rw [← z, ← he0]; exact Nat.not_lt.mpr (Nat.le_succ _))
  cases hc : PySem.W.clsIn X.K C with
  | none => unfold PySem.W.ks_superIn at hsu2; rw [hc] at hsu2; cases hsu2
  | some cd =>
    unfold PySem.W.ks_superIn at hsu2
    rw [hc] at hsu2
    have I3 : PySem.W.InstAt h3 e0 (PySem.HandSPX.excO C hp.objs.size) C none := ⟨he3, rfl, rfl, trivial⟩
    refine PySem.W.kxs_getMethod PySem.W.kxs_ValueError hso (PySem.W.looks_opaque KX3 h.op) (l₀ := cd.mro) ?_ rfl KX3 hsu2 (I3.type.andThen (PySem.W.looks_subIn KX3 h.sv)) hne (by decide) ?_
    · exact fun A Q E s k q => wpAny_bind ((PySem.W.looks_clsIn KX3 hc) A _ E s k (wpAny_pure q))
    have kk4 : ∀ b o, h3.get? b = some o → (h3.push (PySem.W.kxs_mw "ValueError.__init__" e0)).get? b = some o := fun b o e => Heap.get?_push_of_some _ e
    have hu : (h3.push (PySem.W.kxs_mw "ValueError.__init__" e0)).get? h3.objs.size = some (PySem.W.kxs_mw "ValueError.__init__" e0) := Heap.get?_push_at rfl rfl
    generalize (h3.push (PySem.W.kxs_mw "ValueError.__init__" e0)) = h4 at kk4 hu ⊢
    refine PySem.W.kxs_callWith (i := "ValueError.__init__") (x := e0) rfl (Calls.evalArgs_plain (Calls.spliced_cons ?_))
    refine Calls.Constant_str (k := j) (pos := pc) (Calls.spliced_nil ⟨hu, ?_⟩)
    have hns4 := (hns2.keeps k3').keeps kk4
    have ltL : h1.objs.size < h3.objs.size := by
      obtain ⟨oL, _, _, hL, _⟩ := hns2.keeps k3'
      exact Heap.lt_size hL
    have neL : e0 ≠ h1.objs.size := Nat.ne_of_lt (Heap.lt_size hget)
    have nou : hp.get? h3.objs.size = none := by
      cases e : hp.get? h3.objs.size with
      | none => rfl
      | some o => exact absurd (Heap.lt_size (k3' _ _ (kk2 _ _ e))) (Nat.lt_irrefl _)
    have Fq : PyProof.Rows.Fr hp h1.objs.size h4 _ := ⟨hns4, fun b o e => kk4 _ _ (k3' _ _ (kk2 _ _ e)), above⟩
    have Nq : PyProof.Rows.News hp h1.objs.size h4 [(e0, PySem.W.excObj C hp.objs.size none .none), (h3.objs.size, PySem.W.kxs_mw "ValueError.__init__" e0)] := fun p hp' => by
      rcases List.mem_cons.mp hp' with rfl | hp'
      · exact ⟨kk4 _ _ he3, neL, hnew⟩
      · rw [List.mem_singleton.mp hp']
        exact ⟨hu, Nat.ne_of_gt ltL, nou⟩
    refine PySem.W.kxs_call (t := hp.objs.size) (dv := none) (c2 := .none) (x := e0) (C := C) Fq kI Nq F.excBase_ValueError h.q (List.mem_cons_of_mem _ (List.mem_singleton_self _)) (.head (fun p hp' => ?_)) (by show 1 ≤ sizeLine; decide) (fun t' h5 F5 N5 _ => ?_)
    · rw [List.mem_singleton.mp hp']
      exact Nat.ne_of_gt (Nat.lt_trans (Heap.lt_size hget) ltL)
    have e5 := (N5 (e0, PySem.W.excObj C t' none .none) (by simp)).1
    show PySem.wpAt _ _ _ (execs [] _) _ _ _
    refine PySem.wpAt_of_wpAny (wpAny_pure ?_)
    refine ⟨rfl, ?_⟩
    have kk5 := F5.keep
    exact hq h5 _ e0 _ kk5 hnew e5
theorem pmk_ownI {X : Cx} {C : Addr} {x : Str} {k : Nat} {p pos : Pos} (h : ExcI X.prog X.K X.mg x C) (hr : Room k X.A) (hg : Gl X x) (hdb : (x == ("__debug__" : Str)) = false := by decide) :
    PMk X (.Call (.Name x p) [] [] pos) (fun _ H Q => Q (.ref C) none H) := by
  intro pins s σ H Q I hq
  refine wpAny_Call_Name_kw (ld_glob I hg h.m ?_ hdb)
  refine PySem.W.callWith_K0 I.kIn h.kp ?_
  show wpAny _ _ (call (.ref C) []) _ _ _
  refine call_ownI h hr I fun h' tk e t k1 hn he => ?_
  exact ⟨e, _, _, s, H, .ref C, none, rfl, I, k1, hn, he, ⟨rfl, rfl⟩, rfl, rfl, I.hok.gone hn, rfl, I.bare, raises_own h.sb h.ty, hq⟩
end HK

set_option Elab.async false
set_option linter.all false
set_option maxRecDepth 100000
set_option maxHeartbeats 1000000
namespace K09
open PySem PySem.Spec PyProof.Rows L2 HK DT
def topS (i : Nat) : Stmt := PySem.Challenge.pw_snapshelf_k09_what_is_a_deed.main.body.getD i (.Pass ⟨0, 0, 0, 0⟩)
/-! __init__: slots self=0; cells [] -/
abbrev s_NoDeed_init : Stmt := inClass (topS 2) 0
abbrev n_NoDeed_init : List Str := ["self"]
theorem sh_NoDeed : ∃ p2 p3, SupSh s_NoDeed_init p2 p3 := ⟨_, _, ⟨⟨_, _, _, _, _, _, rfl⟩, rfl, fun _ _ _ _ _ _ _ _ _ _ => .of_eq rfl, ⟨_, rfl, rfl⟩, by decide +kernel, rfl, rfl, rfl, rfl, rfl, rfl⟩⟩
/-! is_number: slots one=0; cells [] -/
abbrev s_is_number : Stmt := topS 10
abbrev n_is_number : List Str := ["one"]
theorem sc_is_number : FnScope n_is_number ["one"] (defScope s_is_number) := ⟨rfl, rfl, rfl, by decide +kernel, rfl, by decide +kernel, by decide +kernel⟩
/-! is_number_to: slots one=0 most=1; cells [] -/
abbrev s_is_number_to : Stmt := topS 11
abbrev n_is_number_to : List Str := ["one", "most"]
theorem sc_is_number_to : FnScope n_is_number_to ["one", "most"] (defScope s_is_number_to) := ⟨rfl, rfl, rfl, by decide +kernel, rfl, by decide +kernel, by decide +kernel⟩
/-! is_name: slots one=0; cells [] -/
abbrev s_is_name : Stmt := topS 16
abbrev n_is_name : List Str := ["one"]
theorem sc_is_name : FnScope n_is_name ["one"] (defScope s_is_name) := ⟨rfl, rfl, rfl, by decide +kernel, rfl, by decide +kernel, by decide +kernel⟩
/-! is_path: slots one=0; cells [] -/
abbrev s_is_path : Stmt := topS 18
abbrev n_is_path : List Str := ["one"]
theorem sc_is_path : FnScope n_is_path ["one"] (defScope s_is_path) := ⟨rfl, rfl, rfl, by decide +kernel, rfl, by decide +kernel, by decide +kernel⟩
/-! is_leaf: slots one=0; cells [] -/
abbrev s_is_leaf : Stmt := topS 23
abbrev n_is_leaf : List Str := ["one"]
theorem sc_is_leaf : FnScope n_is_leaf ["one"] (defScope s_is_leaf) := ⟨rfl, rfl, rfl, by decide +kernel, rfl, by decide +kernel, by decide +kernel⟩
/-! is_deed: slots one=0 word=1 rest=2; cells [] -/
abbrev s_is_deed : Stmt := topS 29
abbrev n_is_deed : List Str := ["one", "word", "rest"]
theorem sc_is_deed : FnScope n_is_deed ["one"] (defScope s_is_deed) := ⟨rfl, rfl, rfl, by decide +kernel, rfl, by decide +kernel, by decide +kernel⟩
/-! is_inner_path: slots one=0; cells [] -/
abbrev s_is_inner_path : Stmt := topS 30
abbrev n_is_inner_path : List Str := ["one"]
theorem sc_is_inner_path : FnScope n_is_inner_path ["one"] (defScope s_is_inner_path) := ⟨rfl, rfl, rfl, by decide +kernel, rfl, by decide +kernel, by decide +kernel⟩
/-! done: slots view=0 deed=1 action=2; cells [] -/
abbrev s_done : Stmt := topS 42
abbrev n_done : List Str := ["view", "deed", "action"]
theorem sc_done : FnScope n_done ["view", "deed"] (defScope s_done) := ⟨rfl, rfl, rfl, by decide +kernel, rfl, by decide +kernel, by decide +kernel⟩
/-! _law_mixed: slots _law_cell=0 _law_k=1 _law_number=2; cells [] -/
abbrev s_l_mixed : Stmt := topS 44
abbrev n_l_mixed : List Str := ["_law_cell", "_law_k", "_law_number"]
theorem sc_l_mixed : FnScope n_l_mixed ["_law_cell", "_law_k"] (defScope s_l_mixed) := ⟨rfl, rfl, rfl, by decide +kernel, rfl, by decide +kernel, by decide +kernel⟩
/-! _law_draws: slots _law_script=0 _law_drawn=1 _law_k=2 _law_cell=3 _law_j=4; cells [] -/
abbrev s_l_draws : Stmt := topS 45
abbrev n_l_draws : List Str := ["_law_script", "_law_drawn", "_law_k", "_law_cell", "_law_j"]
theorem sc_l_draws : FnScope n_l_draws ["_law_script"] (defScope s_l_draws) := ⟨rfl, rfl, rfl, by decide +kernel, rfl, by decide +kernel, by decide +kernel⟩
/-! _law_next: slots _law_drawn=0; cells [] -/
abbrev s_l_next : Stmt := topS 46
abbrev n_l_next : List Str := ["_law_drawn"]
theorem sc_l_next : FnScope n_l_next ["_law_drawn"] (defScope s_l_next) := ⟨rfl, rfl, rfl, by decide +kernel, rfl, by decide +kernel, by decide +kernel⟩
/-! _law_name: slots _law_number=0 _law_menu=1; cells [] -/
abbrev s_l_name : Stmt := topS 47
abbrev n_l_name : List Str := ["_law_number", "_law_menu"]
theorem sc_l_name : FnScope n_l_name ["_law_number"] (defScope s_l_name) := ⟨rfl, rfl, rfl, by decide +kernel, rfl, by decide +kernel, by decide +kernel⟩
/-! _law_path: slots _law_drawn=0 _law_number=1 _law_many=2 _law_k=3; cells ['_law_drawn', '_law_number'] -/
abbrev s_l_path : Stmt := topS 48
abbrev n_l_path : List Str := ["_law_drawn", "_law_number", "_law_many", "_law_k"]
theorem sc_l_path : FnScope n_l_path ["_law_drawn"] (defScope s_l_path) := ⟨rfl, rfl, rfl, by decide +kernel, rfl, by decide +kernel, by decide +kernel⟩
/-! _law_leaf: slots _law_drawn=0 _law_number=1 _law_k=2; cells ['_law_number'] -/
abbrev s_l_leaf : Stmt := topS 49
abbrev n_l_leaf : List Str := ["_law_drawn", "_law_number", "_law_k"]
theorem sc_l_leaf : FnScope n_l_leaf ["_law_drawn"] (defScope s_l_leaf) := ⟨rfl, rfl, rfl, by decide +kernel, rfl, by decide +kernel, by decide +kernel⟩
/-! _law_refused: slots _law_view=0 _law_one=1; cells [] -/
abbrev s_l_refused : Stmt := topS 50
abbrev n_l_refused : List Str := ["_law_view", "_law_one"]
theorem sc_l_refused : FnScope n_l_refused ["_law_view", "_law_one"] (defScope s_l_refused) := ⟨rfl, rfl, rfl, by decide +kernel, rfl, by decide +kernel, by decide +kernel⟩
/-! _law_good: slots _law_drawn=0 _law_path_here=1 _law_other=2 _law_at=3; cells [] -/
abbrev s_l_good : Stmt := topS 51
abbrev n_l_good : List Str := ["_law_drawn", "_law_path_here", "_law_other", "_law_at"]
theorem sc_l_good : FnScope n_l_good ["_law_drawn"] (defScope s_l_good) := ⟨rfl, rfl, rfl, by decide +kernel, rfl, by decide +kernel, by decide +kernel⟩
/-! _law_bad: slots _law_drawn=0 _law_path_here=1 _law_leaf_here=2 _law_found=3 _law_word=4 _law_one=5; cells [] -/
abbrev s_l_bad : Stmt := topS 52
abbrev n_l_bad : List Str := ["_law_drawn", "_law_path_here", "_law_leaf_here", "_law_found", "_law_word", "_law_one"]
theorem sc_l_bad : FnScope n_l_bad ["_law_drawn"] (defScope s_l_bad) := ⟨rfl, rfl, rfl, by decide +kernel, rfl, by decide +kernel, by decide +kernel⟩
/-! law: slots _law_script=0 _law_drawn=1 _law_view=2 _law_one=3; cells ['_law_view'] -/
abbrev s_law : Stmt := topS 53
abbrev n_law : List Str := ["_law_script", "_law_drawn", "_law_view", "_law_one"]
theorem sc_law : FnScope n_law ["_law_script"] (defScope s_law) := ⟨rfl, rfl, rfl, by decide +kernel, rfl, by decide +kernel, by decide +kernel⟩
/-! ### names, paths, leaves, deeds: what they are, of any data -/
def letters : Str := "abcdefghijklmnopqrstuvwxyz"
def isLet (c : Nat) : Bool := decide (c ∈ letters.cps.toList)
def isNm (s : Str) : Bool := decide ((1:Int) ≤ (s.length : Int)) && decide ((s.length : Int) ≤ 8) && s.cps.toList.all isLet
def nameD : PyData → Bool
  | .str s => isNm s
  | _ => false
def pathD : PyData → Bool
  | .tuple ds => decide ((ds.length : Int) ≤ 6) && ds.all nameD
  | _ => false
def innerD : PyData → Bool
  | .tuple ds => pathD (.tuple ds) && decide (0 < (ds.length : Int))
  | _ => false
def isNumD : PyData → Bool
  | .int _ => true
  | _ => false
def numTo (m : Int) : PyData → Bool
  | .int i => decide (0 ≤ i) && decide (i ≤ m)
  | _ => false
def leafD : PyData → Bool
  | .tuple ds => decide ((ds.length : Int) ≤ 8) && ds.all (numTo 255)
  | _ => false

structure Txt (K : PySem.W.Frag) (mg : Str → Option Value) : Prop where
  b_abs : mg "abs" = none
  b_all : mg "all" = none
  b_bool : mg "bool" = none
  b_int : mg "int" = none
  b_isinstance : mg "isinstance" = none
  b_len : mg "len" = none
  b_list : mg "list" = none
  b_min : mg "min" = none
  b_range : mg "range" = none
  b_str : mg "str" = none
  b_tuple : mg "tuple" = none
  m_LETTERS : GloE mg "LETTERS" (.str letters)
  m_LONGEST_NAME : GloE mg "LONGEST_NAME" (.int 8)
  m_LONGEST_PATH : GloE mg "LONGEST_PATH" (.int 6)
  m_MOST_LEAVES : GloE mg "MOST_LEAVES" (.int 64)
  m_MOST_NUMBERS : GloE mg "MOST_NUMBERS" (.int 8)
section
variable {P : Program} {w : World} {K : PySem.W.Frag} {mg : Str → Option Value} {base : Heap} {f : Addr} {cd : Value}
/-! ### draws: whole numbers from 0 on, below 2147483629 -/
def Rg (x : Int) : Prop := 0 ≤ x ∧ x < 2147483629
structure Dr (ds : List Int) : Prop where
  len : ds.length ≤ 2000
  rg : ∀ x ∈ ds, Rg x
theorem Dr.snoc {ds : List Int} {x : Int} (h : ∀ x ∈ ds, Rg x) (hx : Rg x) : ∀ y ∈ ds ++ [x], Rg y := fun y hy => by
  rcases List.mem_append.mp hy with h1 | h1
  · exact h y h1
  · rw [List.mem_singleton.mp h1]
    exact hx
theorem rg_mod (x : Int) : Rg (x % 2147483629) := ⟨Int.emod_nonneg _ (by decide), Int.emod_lt_of_pos _ (by decide)⟩
theorem map_snoc (ds : List Int) (x : Int) : (ds ++ [x]).map V.int = ds.map V.int ++ [.int x] := by rw [List.map_append] <;> rfl
/-- _law_mixed: any number in the range -/
def spMixed : Sp := fun vs H Q _ => ∃ c k : Int, vs = [.int c, .int k] ∧ -1000 ≤ k ∧ k ≤ 1000 ∧ ∀ m, Rg m → Q (.int m) H
theorem ok_l_mixed (F : FnAt K mg "_law_mixed" s_l_mixed ["_law_cell", "_law_k"] f cd) : CalE P w K mg base CX0 1 "_law_mixed" spMixed := by
  refine F.cal sc_l_mixed (fun vs H Q E h => ?_) (fun A outer s H vs Q E hr h => ?_)
  · obtain ⟨c, k, rfl, _⟩ := h
    rfl
  · obtain ⟨c, k, rfl, k1, k2, q⟩ := h
    refine ⟨_, (pss_cons (ps_set (i := 2) sc_l_mixed.nd rfl (.inl rfl) (pe_op op_mod (pe_op op_add (pe_op op_add (pe_op op_mul (pe_op op_mod (pv 0) pe_int) pe_int) (pe_op op_mul (pe_op op_mul pe_int (pv 1)) (pv 1))) pe_int) pe_int))
      (pss_one (ps_ret (pe_op op_mod (pe_op op_mul (pv 2) (pv 2)) pe_int)))), ?_⟩
    have h1 : (0:Int) < 2147483647 := by decide
    have a1 := Int.emod_nonneg c (b := 2147483647) (by decide)
    have a2 := Int.emod_lt_of_pos c (b := 2147483647) (by decide)
    refine ⟨_, rfl, _, _, rfl, rfl, h1, _, _, rfl, rfl, .inr ⟨by decide, by decide⟩, _, rfl, _, _, rfl, rfl, .inl ⟨by decide, by decide⟩, _, rfl, _, _, rfl, rfl, .inr ⟨by omega, by omega⟩, _, _, rfl, rfl, _, _, rfl, rfl, _, _, rfl, rfl, h1, ?_⟩
    generalize hz : (c % 2147483647 * 48271 + 7919 * k * k + 104729) = z
    have b1 := Int.emod_nonneg z (b := 2147483647) (by decide)
    have b2 := Int.emod_lt_of_pos z (b := 2147483647) (by decide)
    refine ⟨_, rfl, _, rfl, _, _, rfl, rfl, .inl ⟨by omega, by omega⟩, _, _, rfl, rfl, (by show (0:Int) < 2147483629; decide), ?_⟩
    exact q _ (rg_mod _)
/-- _law_draws: a new list of numbers in the range -/
def spDraws (K : PySem.W.Frag) (tb : List Addr) : Sp := fun vs H Q _ => ∃ (a : Addr) (ns : List Int), vs = [.ref a] ∧ SqL K H a (ns.map V.int) ∧ ns.length ≤ 63 ∧ Tabs tb H ∧
  ∀ H' d ds, Ext tb [] H H' → H d = none → Dr ds → H' d = some (.lst (ds.map V.int)) → Q (.ref d) H'
theorem ok_l_draws {tb : List Addr} (T : Txt K mg) (F : FnAt K mg "_law_draws" s_l_draws ["_law_script"] f cd) (C_l_mixed : CalE P w K mg base CX0 1 "_law_mixed" spMixed) : CalE P w K mg base CX0 2 "_law_draws" (spDraws K tb) := by
  refine F.cal sc_l_draws (fun vs H Q E h => ?_) (fun A outer s H vs Q E hr h => ?_)
  · obtain ⟨a, ns, rfl, _⟩ := h
    rfl
  · obtain ⟨a, ns, rfl, hS, hl, hT, q⟩ := h
    refine ⟨_, (pss_cons (ps_set (i := 1) sc_l_draws.nd rfl (.inl rfl) (pe_lst pa_nil))
      (pss_cons (ps_for PassesOwn.never rfl (pi_range1 (by rfl) T.b_range (pa_cons (pe_callB (call_min2 rfl) (by rfl) T.b_min (by decide +kernel) (pa_cons (pe_callB (q_len (K := K) rfl) (by rfl) T.b_len PySem.boot_len (pa_cons (pv 0) pa_nil)) (pa_cons pe_int pa_nil))) pa_nil)) (pg_name (i := 2) sc_l_draws.nd rfl (.inl rfl)) (pss_cons (ps_set (i := 3) sc_l_draws.nd rfl (.inl rfl) (pe_callB call_abs (by rfl) T.b_abs (by decide +kernel) (pa_cons (pe_ix (q_ixL (K := K) rfl) (pv 0) (pv 2) (fun _ _ => rfl)) pa_nil)))
      (C8.pss_cut (ps_if (pt_cmpR op_lt (pv 3) (pe_op op_pow pe_int pe_int) (nomark _)) (pss_one (ps_for PassesOwn.never rfl (pi_range1 (by rfl) T.b_range (pa_cons pe_int pa_nil)) (pg_name (i := 4) sc_l_draws.nd rfl (.inl rfl)) (pss_one (ps_expr (q_bm (K := K) rfl PySem.F.plainAttrs_list PySem.F.slot_list_append PySem.F.type_list_append mt_append (pv 1) (pa_cons (pe_cal C_l_mixed (hr.mono (by first | decide | omega)) (by rfl) (pa_cons (pe_cal C_l_mixed (hr.mono (by first | decide | omega)) (by rfl) (pa_cons (pv 3) (pa_cons (pe_op op_add (pe_op op_mul pe_int (pv 4)) pe_int) pa_nil))) (pa_cons (pe_op op_add (pe_op op_add (pv 4) (pv 2)) pe_int) pa_nil))) pa_nil)))))) pss_nil)
      (C8.pss_cut (ps_while PassesOwn.never (PW.pt (pw_and (pt_cmpR op_ge (pv 3) (pe_op op_pow pe_int pe_int) (nomark _)) (pw_and1 (pt_cmpR op_lt (pe_callB (q_len (K := K) rfl) (by rfl) T.b_len PySem.boot_len (pa_cons (pv 1) pa_nil)) pe_int (nomark _))))) (pss_cons (ps_expr (q_bm (K := K) rfl PySem.F.plainAttrs_list PySem.F.slot_list_append PySem.F.type_list_append mt_append (pv 1) (pa_cons (pe_op op_mod (pv 3) pe_int) pa_nil)))
      (pss_one (ps_set (i := 3) sc_l_draws.nd rfl (.inl rfl) (pe_op op_fdivW (pv 3) pe_int)))))
      (pss_one (ps_if (pt_cmpR op_ge (pv 3) pe_int (nomark _)) (pss_one (ps_expr (q_bm (K := K) rfl PySem.F.plainAttrs_list PySem.F.slot_list_append PySem.F.type_list_append mt_append (pv 1) (pa_cons (pe_op op_mod (pv 3) pe_int) pa_nil)))) pss_nil))))))
      (pss_one (ps_ret (pv 1))))), ?_⟩
    have p18 : (10:Int) ^ (18:Int).toNat = 1000000000000000000 := by decide
    -- drawn = []
    refine ⟨by show 0 ≤ sizeLine; decide, fun d nd => ?_⟩
    have e0 : Ext tb [] H (upd H d (.lst [])) := Ext.new hT nd
    -- for k in range(min(len(script), 63))
    refine ⟨_, rfl, _, _, rfl, .inl ⟨_, e0.sqL hT hS (by simp), rfl⟩, _, _, rfl, ?_⟩
    have hn : (if (63:Int) < ((ns.map V.int).length : Int) then (63:Int) else ((ns.map V.int).length : Int)) = (ns.length : Int) := by
      rw [List.length_map]
      split <;> omega
    rw [hn]
    refine ⟨_, rfl, by omega, by omega, for_range (lo := 0) (n := (ns.length : Int).toNat) (fun i σ H1 => ∃ (ds : List Int) (y2 y3 y4 : Option V), σ = [some (.ref a), some (.ref d), y2, y3, y4] ∧ Ext tb [] H H1 ∧ H1 d = some (.lst (ds.map V.int)) ∧ (∀ x ∈ ds, Rg x) ∧ ds.length ≤ 900 + 13 * i)
      ⟨[], none, none, none, rfl, e0, upd_same, fun x hx => (by cases hx), by simp⟩ ?_ ?_⟩
    · rintro i σ H1 hi ⟨ds, y2, y3, y4, rfl, ex, hd, hrg, hlen⟩
      have hi' : i < ns.length := by omega
      have g1 : (ns.map V.int)[i]? = some (.int ns[i]) := by rw [List.getElem?_map, List.getElem?_eq_getElem hi'] <;> rfl
      generalize hz : ns[i] = z at g1
      -- cell = abs(script[k])
      refine ⟨_, rfl, _, rfl, a, _, (i : Int), .int z, rfl, by simp, ex.sqL hT hS (by simp), atI_nat g1, _, rfl, ?_⟩
      generalize hc : (if z < 0 then -z else z) = c
      have hc0 : 0 ≤ c := by rw [← hc]; split <;> omega
      -- if cell < 10 ** 18
      refine ⟨fun σ' H2 => ∃ (ds1 : List Int) (y4 : Option V), σ' = [some (.ref a), some (.ref d), some (.int (0 + (i : Int))), some (.int c), y4] ∧ Ext tb [] H H2 ∧ H2 d = some (.lst (ds1.map V.int)) ∧ (∀ x ∈ ds1, Rg x) ∧ (ds1.length ≤ 900 + 13 * i ∨ (ds1.length ≤ 900 + 13 * i + 12 ∧ c < 1000000000000000000)), ?_, ?_⟩
      · refine ⟨_, rfl, _, _, rfl, rfl, ⟨by decide, by decide, by decide⟩, _, _, rfl, rfl, _, rfl, ite2 (fun e => ?_) (fun e => ?_)⟩
        · have hlt : c < 1000000000000000000 := of_decide_eq_true e
          refine ⟨_, rfl, by decide, by decide, for_range (lo := 0) (n := (12 : Int).toNat) (fun j σ H2 => ∃ (ds1 : List Int) (y4 : Option V), σ = [some (.ref a), some (.ref d), some (.int (0 + (i : Int))), some (.int c), y4] ∧ Ext tb [] H H2 ∧ H2 d = some (.lst (ds1.map V.int)) ∧ (∀ x ∈ ds1, Rg x) ∧ ds1.length ≤ 900 + 13 * i + j)
            ⟨ds, y4, rfl, ex, hd, hrg, by omega⟩ ?_ ?_⟩
          · rintro j σ H2 hj ⟨ds1, y4, rfl, ex2, hd2, hrg2, hlen2⟩
            have hj' : j < 12 := hj
            refine ⟨_, rfl, .inl ⟨rfl, _, SqL.of hd2⟩, _, rfl, _, rfl, _, _, rfl, rfl, .inl ⟨by decide, by decide⟩, _, _, rfl, rfl, _, _, rfl, by omega, by omega, fun m hm => ?_⟩
            refine ⟨_, rfl, _, rfl, _, _, rfl, rfl, _, _, rfl, rfl, _, _, rfl, by omega, by omega, fun m2 hm2 => ?_⟩
            refine ⟨d, _, _, rfl, rfl, hd2, ?_, ?_⟩
            · rw [List.length_map]
              exact Nat.lt_of_le_of_lt hlen2 (Nat.lt_of_lt_of_le (show 900 + 13 * i + j < 100000 by omega) (by decide))
            · refine ⟨ds1 ++ [m2], some (.int (0 + (j : Int))), rfl, Ext.own hT ex2 nd, ?_, Dr.snoc hrg2 hm2, by rw [List.length_append]; show ds1.length + 1 ≤ _; omega⟩
              rw [upd_same, map_snoc]
          · rintro σ H2 ⟨ds1, y4, rfl, ex2, hd2, hrg2, hlen2⟩
            exact ⟨ds1, y4, rfl, ex2, hd2, hrg2, .inr ⟨hlen2, hlt⟩⟩
        · exact ⟨ds, y4, rfl, ex, hd, hrg, .inl hlen⟩
      · rintro σ' H2 ⟨ds1, y4, rfl, ex2, hd2, hrg2, hlen2⟩
        -- the while
        refine ⟨fun σ' H2 => ∃ (ds1 : List Int) (c2 : Int) (y4 : Option V), σ' = [some (.ref a), some (.ref d), some (.int (0 + (i : Int))), some (.int c2), y4] ∧ Ext tb [] H H2 ∧ H2 d = some (.lst (ds1.map V.int)) ∧ (∀ x ∈ ds1, Rg x) ∧ ds1.length ≤ 900 + 13 * i + 12, ?_, ?_⟩
        · refine ⟨fun m σ' H2 => ∃ (ds1 : List Int) (c2 : Int), m = c2.toNat ∧ 0 ≤ c2 ∧ σ' = [some (.ref a), some (.ref d), some (.int (0 + (i : Int))), some (.int c2), y4] ∧ Ext tb [] H H2 ∧ H2 d = some (.lst (ds1.map V.int)) ∧ (∀ x ∈ ds1, Rg x) ∧ (ds1.length ≤ 900 + 13 * i ∨ (ds1.length ≤ 900 + 13 * i + 12 ∧ c2 < 1000000000000000000)), ⟨c.toNat, ds1, c, rfl, hc0, rfl, ex2, hd2, hrg2, hlen2⟩, ?_⟩
          rintro m σ' H3 ⟨ds2, c2, rfl, hc2, rfl, ex3, hd3, hrg3, hlen3⟩
          refine ⟨_, rfl, _, _, rfl, rfl, ⟨by decide, by decide, by decide⟩, _, _, rfl, rfl, _, rfl, ite2 (fun e => ?_) (fun e => ?_)⟩
          · have hge : 1000000000000000000 ≤ c2 := of_decide_eq_true e
            refine ⟨_, rfl, _, _, rfl, .inl ⟨_, SqL.of hd3, rfl⟩, _, _, rfl, rfl, _, rfl, ite2 (fun e2 => ?_) (fun e2 => ?_)⟩
            · have h900 : ((ds2.map V.int).length : Int) < 900 := of_decide_eq_true e2
              rw [List.length_map] at h900
              refine ⟨fun σ' H' => ∃ ds3 : List Int, σ' = [some (.ref a), some (.ref d), some (.int (0 + (i : Int))), some (.int (c2 / 2147483629)), y4] ∧ Ext tb [] H H' ∧ H' d = some (.lst (ds3.map V.int)) ∧ (∀ x ∈ ds3, Rg x) ∧ ds3.length ≤ 900 + 13 * i, ?_, ?_⟩
              · rintro σ' H' ⟨ds3, rfl, ex4, hd4, hrg4, hlen4⟩
                have h1 : c2 / 2147483629 < c2 := Int.ediv_lt_self_of_pos_of_ne_one (by omega) (by decide)
                have h2 : 0 ≤ c2 / 2147483629 := Int.ediv_nonneg hc2 (by decide)
                exact ⟨_, by omega, ds3, _, rfl, h2, rfl, ex4, hd4, hrg4, .inl hlen4⟩
              · refine ⟨_, rfl, .inl ⟨rfl, _, SqL.of hd3⟩, _, rfl, _, _, rfl, rfl, (by show (0:Int) < 2147483629; decide), d, _, _, rfl, rfl, hd3, ?_, ?_⟩
                · rw [List.length_map]
                  exact Nat.lt_of_lt_of_le (show ds2.length < 100000 by omega) (by decide)
                · refine ⟨_, rfl, _, _, rfl, rfl, wide_div (b := 31) (by decide) (by decide) (by decide) (by decide), ?_⟩
                  refine ⟨ds2 ++ [c2 % 2147483629], rfl, Ext.own hT ex3 nd, ?_, Dr.snoc hrg3 (rg_mod _), by rw [List.length_append]; show ds2.length + 1 ≤ _; omega⟩
                  rw [upd_same, map_snoc]
            · exact ⟨ds2, c2, y4, rfl, ex3, hd3, hrg3, by omega⟩
          · refine iteF ?_
            exact ⟨ds2, c2, y4, rfl, ex3, hd3, hrg3, by omega⟩
        · rintro σ' H3 ⟨ds2, c2, y4, rfl, ex3, hd3, hrg3, hlen3⟩
          -- if cell >= 2147483629
          refine ⟨_, rfl, _, _, rfl, rfl, _, rfl, ite2 (fun e => ?_) (fun e => ?_)⟩
          · refine ⟨_, rfl, .inl ⟨rfl, _, SqL.of hd3⟩, _, rfl, _, _, rfl, rfl, (by show (0:Int) < 2147483629; decide), d, _, _, rfl, rfl, hd3, ?_, ?_⟩
            · rw [List.length_map]
              exact Nat.lt_of_lt_of_le (show ds2.length < 100000 by omega) (by decide)
            · refine ⟨ds2 ++ [c2 % 2147483629], _, _, _, rfl, Ext.own hT ex3 nd, ?_, Dr.snoc hrg3 (rg_mod _), by rw [List.length_append]; show ds2.length + 1 ≤ _; omega⟩
              rw [upd_same, map_snoc]
          · exact ⟨ds2, _, _, _, rfl, ex3, hd3, hrg3, by omega⟩
    · rintro σ H1 ⟨ds, y2, y3, y4, rfl, ex, hd, hrg, hlen⟩
      refine ⟨_, rfl, q _ d ds ex nd ⟨by omega, hrg⟩ hd⟩
/-- _law_next: a number in the range; the list of draws is another one -/
def spNext (tb : List Addr) : Sp := fun vs H Q _ => ∃ (d : Addr) (ds : List Int), vs = [.ref d] ∧ H d = some (.lst (ds.map V.int)) ∧ Dr ds ∧ Tabs tb H ∧
  ∀ x r H', Rg x → Dr r → Ext tb [d] H H' → H' d = some (.lst (r.map V.int)) → Q (.int x) H'
theorem ok_l_next {tb : List Addr} (F : FnAt K mg "_law_next" s_l_next ["_law_drawn"] f cd) : CalE P w K mg base CX0 1 "_law_next" (spNext tb) := by
  refine F.cal sc_l_next (fun vs H Q E h => ?_) (fun A outer s H vs Q E hr h => ?_)
  · obtain ⟨d, ds, rfl, _⟩ := h
    rfl
  · obtain ⟨d, ds, rfl, hd, hD, hT, q⟩ := h
    refine ⟨_, (pss_cons (ps_if (pt_cmpR (q_eqD (K := K) rfl hr.units) (pv 0) (pe_lst pa_nil) (nomark _)) (pss_one (ps_ret pe_int)) pss_nil)
      (pss_one (ps_ret (q_bm (K := K) rfl PySem.F.plainAttrs_list PySem.F.slot_list_pop PySem.F.type_list_pop mt_popAt (pv 0) (pa_cons pe_int pa_nil))))), ?_⟩
    refine ⟨_, rfl, by show 0 ≤ sizeLine; decide, fun p np => ?_⟩
    have e0 : Ext tb [d] H (upd H p (.lst [])) := Ext.new hT np
    have hd1 : (upd H p (.lst [])) d = some (.lst (ds.map V.int)) := by rw [upd_ne (ne_of_none hd np)]; exact hd
    cases ds with
    | nil =>
      refine ⟨.list [], .list [], .lst (SqL.of hd1) .nil, .lst (SqL.of upd_same) .nil, rfl, rfl, _, rfl, ?_⟩
      refine iteT ?_
      exact q 0 [] _ ⟨by decide, by decide⟩ ⟨by simp, fun x hx => by cases hx⟩ e0 hd1
    | cons x r =>
      refine ⟨.list ((x :: r).map PyData.int), .list [], .lst (SqL.of hd1) (dp_ints _), .lst (SqL.of upd_same) .nil, sh_ints _, rfl, _, rfl, ?_⟩
      refine iteF ?_
      refine ⟨_, rfl, .inl ⟨rfl, _, SqL.of hd1⟩, d, _, 0, 0, .int x, rfl, rfl, hd1, by decide, by decide, ?_, rfl, ?_⟩
      · simp [seqIndex?]
      · exact q x r _ (hD.rg x (List.mem_cons_self ..)) ⟨by have := hD.len; simp at this; omega, fun y hy => hD.rg y (List.mem_cons_of_mem _ hy)⟩ (e0.trans (Ext.mut (by simp) (ne_tab hT hd fun ps z => by cases z))) upd_same

/-- texts are not too long in it -/
def shortD : PyData → Prop
  | .str s => s.length ≤ 1000
  | _ => True
theorem num_int {d : PyData} (h : isNumD d = true) : ∃ i, d = .int i := by
  cases d with
  | int i => exact ⟨i, rfl⟩
  | _ => cases h
def spIsNum (K : PySem.W.Frag) : Sp := fun vs H Q _ => ∃ (v : V) (d : PyData), vs = [v] ∧ Rp K H v d ∧ Q (.bl (isNumD d)) H
theorem num_rd {v : V} {d : PyData} {H : Hp} {Q : VK} {σ : L2.St} (h0 : σ[0]? = some (some v)) (h : Rp K H v d) (q : Q (.bl (isNumD d)) H) :
    tAndV (tCB (rIsi K) (tCons (tVar 0) (tCons (tC (.ty "int")) tNil))) (tNotV (tCB (rIsi K) (tCons (tVar 0) (tCons (tC (.ty "bool")) tNil)))) σ H Q := by
  have ty := Rp_ty h
  refine ⟨_, h0, _, _, .type (tyN d), _, _, rfl, .ty _, ty, kit_ty (kit_int d), _, rfl, ?_⟩
  cases e : isIntB d with
  | false =>
    refine iteF ?_
    have : isNumD d = false := by cases d <;> first | rfl | cases e
    exact this ▸ q
  | true =>
    refine iteT ?_
    refine ⟨_, h0, _, _, .type (tyN d), _, _, rfl, .ty _, ty, kit_ty (kit_bool d), _, rfl, ?_⟩
    have : isNumD d = !isBl d := by cases d <;> first | rfl | cases e
    exact this ▸ q
theorem ok_is_number (T : Txt K mg) (F : FnAt K mg "is_number" s_is_number ["one"] f cd) : CalE P w K mg base CX0 1 "is_number" (spIsNum K) := by
  refine F.cal sc_is_number (fun vs H Q E h => ?_) (fun A outer s H vs Q E hr h => ?_)
  · obtain ⟨v, d, rfl, _⟩ := h
    rfl
  · obtain ⟨v, d, rfl, hd, q⟩ := h
    refine ⟨_, (pss_one (ps_ret (pe_and (pe_callB (q_isi (K := K) rfl) (by rfl) T.b_isinstance (by decide +kernel) (pa_cons (pv 0) (pa_cons (pe_bltn (v := .ty "int") (by rfl) T.b_int (by decide +kernel) rfl) pa_nil))) (pe_one (pe_not (pe_callB (q_isi (K := K) rfl) (by rfl) T.b_isinstance (by decide +kernel) (pa_cons (pv 0) (pa_cons (pe_bltn (v := .ty "bool") (by rfl) T.b_bool (by decide +kernel) rfl) pa_nil)))))))), ?_⟩
    exact num_rd rfl hd q
def spNumTo (K : PySem.W.Frag) : Sp := fun vs H Q _ => ∃ (v : V) (d : PyData) (m : Int), vs = [v, .int m] ∧ Rp K H v d ∧ Q (.bl (numTo m d)) H
theorem ok_is_number_to (F : FnAt K mg "is_number_to" s_is_number_to ["one", "most"] f cd) (C_is_number : CalE P w K mg base CX0 1 "is_number" (spIsNum K)) : CalE P w K mg base CX0 2 "is_number_to" (spNumTo K) := by
  refine F.cal sc_is_number_to (fun vs H Q E h => ?_) (fun A outer s H vs Q E hr h => ?_)
  · obtain ⟨v, d, m, rfl, _⟩ := h
    rfl
  · obtain ⟨v, d, m, rfl, hd, q⟩ := h
    refine ⟨_, (pss_one (ps_ret (pe_and (pe_cal C_is_number (hr.mono (by first | decide | omega)) (by rfl) (pa_cons (pv 0) pa_nil)) (pe_one (pe_chain op_le op_le pe_int (pv 0) (pv 1)))))), ?_⟩
    refine ⟨_, rfl, v, d, rfl, hd, _, rfl, ?_⟩
    cases hn : isNumD d with
    | false =>
      refine iteF ?_
      have : numTo m d = false := by cases d <;> first | rfl | cases hn
      exact this ▸ q
    | true =>
      obtain ⟨i, rfl⟩ := num_int hn
      cases hd
      refine iteT ?_
      refine ⟨_, rfl, _, _, rfl, rfl, _, rfl, ?_⟩
      have q' : Q (.bl (decide (0 ≤ i) && decide (i ≤ m))) H := q
      cases h0 : decide (0 ≤ i) with
      | false =>
        rw [h0, Bool.false_and] at q'
        exact iteF q'
      | true =>
        rw [h0, Bool.true_and] at q'
        refine iteT ?_
        exact ⟨_, rfl, _, _, rfl, rfl, q'⟩
def spIsName (K : PySem.W.Frag) (tb : List Addr) : Sp := fun vs H Q _ => ∃ (v : V) (d : PyData), vs = [v] ∧ Rp K H v d ∧ shortD d ∧ Tabs tb H ∧ ∀ H', Ext tb [] H H' → Q (.bl (nameD d)) H'
theorem ok_is_name {c pt : Addr} {tb : List Addr} (T : Txt K mg) (TB : LamX.TabB base mg c pt) (hpt : pt ∈ tb) (F : FnAt K mg "is_name" s_is_name ["one"] f (.ref c)) : CalE P w K mg base CX0 1 "is_name" (spIsName K tb) := by
  refine F.cal sc_is_name (fun vs H Q E h => ?_) (fun A outer s H vs Q E hr h => ?_)
  · obtain ⟨v, d, rfl, _⟩ := h
    rfl
  · obtain ⟨v, d, rfl, hd, hl, hT, q⟩ := h
    refine ⟨_, (pss_cons (ps_if (PW.pt (pw_or (pt_not (pt_val (pe_callB (q_isi (K := K) rfl) (by rfl) T.b_isinstance (by decide +kernel) (pa_cons (pv 0) (pa_cons (pe_bltn (v := .ty "str") (by rfl) T.b_str (by decide +kernel) rfl) pa_nil))))) (pw_or1 (pt_not (pt_chain op_le op_le pe_int (pe_callB (q_len (K := K) rfl) (by rfl) T.b_len PySem.boot_len (pa_cons (pv 0) pa_nil)) (pe_glo (by rfl) T.m_LONGEST_NAME)))))) (pss_one (ps_ret pe_bl)) pss_nil)
      (pss_one (ps_ret (GX.pe_allG (N := ["sign"]) hr (by rfl) T.b_all TB rfl ⟨rfl, rfl, by decide +kernel, by decide +kernel, by rfl⟩ (pi_str (pv 0)) (fun Xg hX => ⟨by obtain ⟨_, _, _, _, _, _, _, rfl⟩ := hX; exact (pg_name (i := 0) (show (["sign"] : List Str).Nodup by decide) rfl (.inl rfl)), by obtain ⟨_, _, _, _, _, _, _, rfl⟩ := hX; exact (pe_cmpR op_in_sign (pv 0) (pe_glo (by rfl) T.m_LETTERS) (by rfl))⟩))))), ?_⟩
    refine ⟨_, rfl, _, _, .type (tyN d), _, _, rfl, .ty _, Rp_ty hd, kit_ty (kit_str d), _, rfl, ?_⟩
    cases es : isStr d with
    | false =>
      refine iteT ?_
      refine iteT ?_
      have : nameD d = false := by cases d <;> first | rfl | cases es
      exact this ▸ q H Ext.refl
    | true =>
    obtain ⟨z, rfl⟩ : ∃ z, d = .str z := by cases d <;> first | exact ⟨_, rfl⟩ | cases es
    cases hd
    have hl : z.length ≤ 1000 := hl
    have q : ∀ H', Ext tb [] H H' → Q (.bl (isNm z)) H' := q
    refine iteF ?_
    refine ⟨_, rfl, _, _, rfl, ⟨line_of (by omega), rfl⟩, _, _, rfl, rfl, _, rfl, ite2 (fun e => ?_) (fun e => ?_)⟩
    · refine ⟨_, _, rfl, rfl, _, rfl, ?_⟩
      cases e8 : decide ((z.length : Int) ≤ 8) with
      | false =>
        refine iteT ?_
        have : isNm z = false := by
          unfold isNm
          rw [e8, Bool.and_false, Bool.false_and]
        exact this ▸ q H Ext.refl
      | true =>
        refine iteF ?_
        refine ⟨_, rfl, _, rfl, hT pt hpt, fun H2 hH2 => ?_⟩
        have e2 : Ext tb [] H H2 := Ext.tabbed hH2 hpt
        refine allG_by z.cps.size (GxR.trF isLet z.cps.toList) (fun H3 => Ext tb [] H H3) e2 (fun _ _ => Nat.le_refl _) (fun i _ hi _ => hi) ?_ ?_
        · rintro i H3 x H4 hi ex ⟨rfl, c, hc, rfl⟩ R hR
          refine ⟨_, rfl, c, _, rfl, rfl, ?_⟩
          have : GxR.trF isLet z.cps.toList i = isLet c := GxR.trF_some (by simpa using hc)
          have hR' := hR H4 ex
          rw [this] at hR'
          exact hR'
        · rintro H3 b ex rfl
          rw [GxR.all_signs]
          have : isNm z = z.cps.toList.all isLet := by
            unfold isNm
            rw [e8, e, Bool.true_and, Bool.true_and]
          exact this ▸ q H3 ex
    · refine ⟨false, rfl, ?_⟩
      refine iteT ?_
      have : isNm z = false := by
        unfold isNm
        rw [Bool.eq_false_iff.mpr e, Bool.false_and, Bool.false_and]
      exact this ▸ q H Ext.refl
/-- the items of a tuple, walked by all(..) -/
theorem all_tup {tb : List Addr} {N : List Str} {g : TG} {te : TE} {Q : VK} {H H2 : Hp} {a : Addr} {xs : List V} {ds : List PyData} (fb : PyData → Bool) (hT : Tabs tb H) (ha : SqT K H a xs) (hxs : RpAll K H xs ds) (e2 : Ext tb [] H H2)
    (hstep : ∀ (i : Nat) (H3 : Hp) (x : V) (d : PyData), Ext tb [] H H3 → ds[i]? = some d → Rp K H3 x d → ∀ R : VK, (∀ H4, Ext tb [] H3 H4 → R (.bl (fb d)) H4) → g x (GX.tau0 N) H3 fun τ2 H2 => te τ2 H2 R)
    (q : ∀ H3, Ext tb [] H H3 → Q (.bl (ds.all fb)) H3) :
    ∃ (len : Nat) (W : Nat → Hp → Prop), W 0 H2 ∧ ∀ i H, W i H → i ≤ len ∧ (((Itt K a).stop i H ∧ Q (.bl true) H) ∨ (i < len ∧ (Itt K a).go i H ∧ ∀ x H', (Itt K a).yld i H x H' → g x (GX.tau0 N) H' fun τ2 H2 => te τ2 H2 fun y H3 => ∃ b, y = .bl b ∧ if b = true then W (i + 1) H3 else Q (.bl false) H3)) := by
  have hl := RpAll_len hxs
  refine allG_by ds.length (trV fb ds) (fun H3 => Ext tb [] H H3) e2 (fun H3 ex => ⟨_, ex.sqT hT ha (by simp), by omega⟩) (fun i H3 hi ex => ⟨_, _, ex.sqT hT ha (by simp), List.getElem?_eq_getElem (by omega)⟩) ?_ ?_
  · rintro i H3 x H4 hi ex ⟨rfl, hy⟩ R hR
    have hx := hy _ (ex.sqT hT ha (by simp))
    obtain ⟨d, h1, h2⟩ := RpAll_get hxs hx
    refine hstep i H4 x d ex h1 (Rp_ext ex hT d h2) R fun H5 e5 => ?_
    have hR' := hR H5 (ex.trans e5)
    rw [trV_some h1] at hR'
    exact hR'
  · rintro H3 b ex rfl
    rw [all_trV]
    exact q H3 ex
def shortT : PyData → Prop
  | .tuple ds => ∀ d ∈ ds, shortD d
  | _ => True
def spIsPath (K : PySem.W.Frag) (tb : List Addr) : Sp := fun vs H Q _ => ∃ (v : V) (d : PyData), vs = [v] ∧ Rp K H v d ∧ shortT d ∧ Tabs tb H ∧ ∀ H', Ext tb [] H H' → Q (.bl (pathD d)) H'
theorem ok_is_path {c pt : Addr} {tb : List Addr} (T : Txt K mg) (TB : LamX.TabB base mg c pt) (hpt : pt ∈ tb) (F : FnAt K mg "is_path" s_is_path ["one"] f (.ref c)) (C_is_name : CalE P w K mg base CX0 1 "is_name" (spIsName K tb)) : CalE P w K mg base CX0 3 "is_path" (spIsPath K tb) := by
  refine F.cal sc_is_path (fun vs H Q E h => ?_) (fun A outer s H vs Q E hr h => ?_)
  · obtain ⟨v, d, rfl, _⟩ := h
    rfl
  · obtain ⟨v, d, rfl, hd, hl, hT, q⟩ := h
    refine ⟨_, (pss_one (ps_ret (pe_and (pe_callB (q_isi (K := K) rfl) (by rfl) T.b_isinstance (by decide +kernel) (pa_cons (pv 0) (pa_cons (pe_bltn (v := .ty "tuple") (by rfl) T.b_tuple (by decide +kernel) rfl) pa_nil))) (pe_and (pe_cmpR op_le (pe_callB (q_len (K := K) rfl) (by rfl) T.b_len PySem.boot_len (pa_cons (pv 0) pa_nil)) (pe_glo (by rfl) T.m_LONGEST_PATH) (nomark _)) (pe_one (GX.pe_allG (N := ["name"]) hr (by rfl) T.b_all TB rfl ⟨rfl, rfl, by decide +kernel, by decide +kernel, by rfl⟩ (q_piT (K := K) rfl (pv 0)) (fun Xg hX => ⟨by obtain ⟨_, _, _, _, _, _, _, rfl⟩ := hX; exact (pg_name (i := 0) (show (["name"] : List Str).Nodup by decide) rfl (.inl rfl)), by have hrg := hX.room hr; obtain ⟨_, _, _, _, _, _, _, rfl⟩ := hX; exact (pe_cal C_is_name (hrg.mono (by first | decide | omega)) (by rfl) (pa_cons (pv 0) pa_nil))⟩))))))), ?_⟩
    refine ⟨_, rfl, _, _, .type (tyN d), _, _, rfl, .ty _, Rp_ty hd, kit_ty (kit_tup d), _, rfl, ?_⟩
    cases et : isTup d with
    | false =>
      refine iteF ?_
      have : pathD d = false := by cases d <;> first | rfl | cases et
      exact this ▸ q H Ext.refl
    | true =>
    obtain ⟨ds, rfl⟩ : ∃ ds, d = .tuple ds := by cases d <;> first | exact ⟨_, rfl⟩ | cases et
    obtain ⟨a, xs, rfl, ha, hxs⟩ := Rp_tup hd
    have hlen := RpAll_len hxs
    refine iteT ?_
    refine ⟨_, rfl, _, _, rfl, .inr ⟨_, ha, rfl⟩, _, _, rfl, rfl, _, rfl, ?_⟩
    rw [hlen]
    have q : ∀ H', Ext tb [] H H' → Q (.bl (decide ((ds.length : Int) ≤ 6) && ds.all nameD)) H' := q
    cases e6 : decide ((ds.length : Int) ≤ 6) with
    | false =>
      refine iteF ?_
      have := q H Ext.refl
      rw [e6, Bool.false_and] at this
      exact this
    | true =>
      refine iteT ?_
      refine ⟨_, rfl, a, rfl, ⟨_, ha⟩, hT pt hpt, fun H2 hH2 => ?_⟩
      refine all_tup nameD hT ha hxs (Ext.tabbed hH2 hpt) ?_ ?_
      · intro i H3 x d ex hdi hx R hR
        exact ⟨_, rfl, x, d, rfl, hx, hl d (List.mem_of_getElem? hdi), ex.tabs hT, hR⟩
      · intro H3 ex
        have := q H3 ex
        rw [e6, Bool.true_and] at this
        exact this
def spIsLeaf (K : PySem.W.Frag) (tb : List Addr) : Sp := fun vs H Q _ => ∃ (v : V) (d : PyData), vs = [v] ∧ Rp K H v d ∧ Tabs tb H ∧ ∀ H', Ext tb [] H H' → Q (.bl (leafD d)) H'
theorem ok_is_leaf {c pt : Addr} {tb : List Addr} (T : Txt K mg) (TB : LamX.TabB base mg c pt) (hpt : pt ∈ tb) (F : FnAt K mg "is_leaf" s_is_leaf ["one"] f (.ref c)) (C_is_number_to : CalE P w K mg base CX0 2 "is_number_to" (spNumTo K)) : CalE P w K mg base CX0 4 "is_leaf" (spIsLeaf K tb) := by
  refine F.cal sc_is_leaf (fun vs H Q E h => ?_) (fun A outer s H vs Q E hr h => ?_)
  · obtain ⟨v, d, rfl, _⟩ := h
    rfl
  · obtain ⟨v, d, rfl, hd, hT, q⟩ := h
    refine ⟨_, (pss_one (ps_ret (pe_and (pe_callB (q_isi (K := K) rfl) (by rfl) T.b_isinstance (by decide +kernel) (pa_cons (pv 0) (pa_cons (pe_bltn (v := .ty "tuple") (by rfl) T.b_tuple (by decide +kernel) rfl) pa_nil))) (pe_and (pe_cmpR op_le (pe_callB (q_len (K := K) rfl) (by rfl) T.b_len PySem.boot_len (pa_cons (pv 0) pa_nil)) (pe_glo (by rfl) T.m_MOST_NUMBERS) (nomark _)) (pe_one (GX.pe_allG (N := ["part"]) hr (by rfl) T.b_all TB rfl ⟨rfl, rfl, by decide +kernel, by decide +kernel, by rfl⟩ (q_piT (K := K) rfl (pv 0)) (fun Xg hX => ⟨by obtain ⟨_, _, _, _, _, _, _, rfl⟩ := hX; exact (pg_name (i := 0) (show (["part"] : List Str).Nodup by decide) rfl (.inl rfl)), by have hrg := hX.room hr; obtain ⟨_, _, _, _, _, _, _, rfl⟩ := hX; exact (pe_cal C_is_number_to (hrg.mono (by first | decide | omega)) (by rfl) (pa_cons (pv 0) (pa_cons pe_int pa_nil)))⟩))))))), ?_⟩
    refine ⟨_, rfl, _, _, .type (tyN d), _, _, rfl, .ty _, Rp_ty hd, kit_ty (kit_tup d), _, rfl, ?_⟩
    cases et : isTup d with
    | false =>
      refine iteF ?_
      have : leafD d = false := by cases d <;> first | rfl | cases et
      exact this ▸ q H Ext.refl
    | true =>
    obtain ⟨ds, rfl⟩ : ∃ ds, d = .tuple ds := by cases d <;> first | exact ⟨_, rfl⟩ | cases et
    obtain ⟨a, xs, rfl, ha, hxs⟩ := Rp_tup hd
    have hlen := RpAll_len hxs
    refine iteT ?_
    refine ⟨_, rfl, _, _, rfl, .inr ⟨_, ha, rfl⟩, _, _, rfl, rfl, _, rfl, ?_⟩
    rw [hlen]
    have q : ∀ H', Ext tb [] H H' → Q (.bl (decide ((ds.length : Int) ≤ 8) && ds.all (numTo 255))) H' := q
    cases e6 : decide ((ds.length : Int) ≤ 8) with
    | false =>
      refine iteF ?_
      have := q H Ext.refl
      rw [e6, Bool.false_and] at this
      exact this
    | true =>
      refine iteT ?_
      refine ⟨_, rfl, a, rfl, ⟨_, ha⟩, hT pt hpt, fun H2 hH2 => ?_⟩
      refine all_tup (numTo 255) hT ha hxs (Ext.tabbed hH2 hpt) ?_ ?_
      · intro i H3 x d ex hdi hx R hR
        exact ⟨_, rfl, x, d, 255, rfl, hx, hR H3 Ext.refl⟩
      · intro H3 ex
        have := q H3 ex
        rw [e6, Bool.true_and] at this
        exact this

end
end K09

set_option Elab.async false
set_option linter.all false
set_option maxRecDepth 100000
set_option maxHeartbeats 1000000
namespace K09
open PySem PySem.Spec PyProof.Rows L2 HK DT
section
variable {P : Program} {w : World} {K : PySem.W.Frag} {mg : Str → Option Value} {base : Heap} {f : Addr} {cd : Value}
/-! ### deeds -/
def w3 : List Str := ["folder", "file", "out"]
def w2 : List Str := ["move", "copy"]
def putD : List PyData → Bool
  | [n, l] => numTo 64 n && leafD l
  | _ => false
def trimD : List PyData → Bool
  | [n] => numTo 64 n
  | _ => false
def oneD : List PyData → Bool
  | [p] => innerD p
  | _ => false
def wordD (w : PyData) (rest : List PyData) : Bool := if w3.any (eqS w) = true then rest.isEmpty else if eqS w "put" = true then putD rest else if eqS w "trim" = true then trimD rest else w2.any (eqS w) && oneD rest
def deedD : PyData → Bool
  | .tuple (w :: p :: rest) => innerD p && wordD w rest
  | _ => false
mutual
theorem Rp_Dp {K : PySem.W.Frag} {H : Hp} : ∀ (d : PyData) {v : V}, Rp K H v d → PyData.canLay0 d = true → Dp K H v d
  | .none, _, .non, _ => .non
  | .bool b, _, .bl _, _ => .bl b
  | .int i, _, .int _, _ => .int i
  | .str s, _, .str _, _ => .str s
  | .list ds, _, .lst h a, c => .lst h (RpAll_Dp ds a c)
  | .tuple ds, _, .tup h a, c => .tup h (RpAll_Dp ds a c)
  | .dict _, _, .dct h, c => by cases c
theorem RpAll_Dp {K : PySem.W.Frag} {H : Hp} : ∀ (ds : List PyData) {vs : List V}, RpAll K H vs ds → PyData.canLayAll0 ds = true → DpAll K H vs ds
  | [], _, .nil, _ => .nil
  | d :: ds, _, .cons h t, c => .cons (Rp_Dp d h (Bool.and_eq_true_iff.mp (show (PyData.canLay0 d && PyData.canLayAll0 ds) = true from c)).1) (RpAll_Dp ds t (Bool.and_eq_true_iff.mp (show (PyData.canLay0 d && PyData.canLayAll0 ds) = true from c)).2)
end
/-- what is asked of a thing that is_deed is asked of -/
structure OkD (d : PyData) : Prop where
  short : ∀ ds, d = .tuple ds → ∀ x ∈ ds, shortT x
  shape : ∀ w p rest, d = .tuple (w :: p :: rest) → w3.any (eqS w) = true → SeqAt.shaped (.tuple rest) = true
def spInner (K : PySem.W.Frag) (tb : List Addr) : Sp := fun vs H Q _ => ∃ (v : V) (d : PyData), vs = [v] ∧ Rp K H v d ∧ shortT d ∧ Tabs tb H ∧ ∀ H', Ext tb [] H H' → Q (.bl (innerD d)) H'
theorem ok_is_inner_path {tb : List Addr} (T : Txt K mg) (F : FnAt K mg "is_inner_path" s_is_inner_path ["one"] f cd) (C_is_path : CalE P w K mg base CX0 3 "is_path" (spIsPath K tb)) : CalE P w K mg base CX0 4 "is_inner_path" (spInner K tb) := by
  refine F.cal sc_is_inner_path (fun vs H Q E h => ?_) (fun A outer s H vs Q E hr h => ?_)
  · obtain ⟨v, d, rfl, _⟩ := h
    rfl
  · obtain ⟨v, d, rfl, hd, hl, hT, q⟩ := h
    refine ⟨_, (pss_one (ps_ret (pe_and (pe_cal C_is_path (hr.mono (by first | decide | omega)) (by rfl) (pa_cons (pv 0) pa_nil)) (pe_one (pe_cmpR op_gt (pe_callB (q_len (K := K) rfl) (by rfl) T.b_len PySem.boot_len (pa_cons (pv 0) pa_nil)) pe_int (nomark _)))))), ?_⟩
    refine ⟨_, rfl, v, d, rfl, hd, hl, hT, fun H1 e1 => ⟨_, rfl, ?_⟩⟩
    cases hp : pathD d with
    | false =>
      refine iteF ?_
      have : innerD d = false := by
        cases d with
        | tuple ds => show (pathD (.tuple ds) && _) = false; rw [hp, Bool.false_and]
        | _ => rfl
      exact this ▸ q H1 e1
    | true =>
      obtain ⟨ds, rfl⟩ : ∃ ds, d = .tuple ds := by cases d <;> first | exact ⟨_, rfl⟩ | cases hp
      obtain ⟨a, xs, rfl, ha, hxs⟩ := Rp_tup hd
      refine iteT ?_
      refine ⟨_, rfl, _, _, rfl, .inr ⟨_, e1.sqT hT ha (by simp), rfl⟩, _, _, rfl, rfl, ?_⟩
      have := q H1 e1
      have e2 : innerD (.tuple ds) = decide (0 < (xs.length : Int)) := by
        show (pathD (.tuple ds) && decide (0 < (ds.length : Int))) = _
        rw [hp, Bool.true_and, RpAll_len hxs]
      show Q (.bl (decide (0 < (xs.length : Int)))) H1
      rw [← e2]
      exact this
def spDeed (K : PySem.W.Frag) (tb : List Addr) : Sp := fun vs H Q _ => ∃ (v : V) (d : PyData), vs = [v] ∧ Rp K H v d ∧ OkD d ∧ Tabs tb H ∧ ∀ H', Ext tb [] H H' → Q (.bl (deedD d)) H'
theorem cutV_from (xs : List V) (k : Nat) : cutV xs (some (k : Int)) none = xs.drop k := by
  unfold cutV
  rw [HT.sIx_nat, HT.sIx_none]
  rcases Nat.le_total k xs.length with h | h
  · rw [Nat.min_eq_left h]
    exact List.take_of_length_le (by rw [List.length_drop]; exact Nat.le_refl _)
  · rw [Nat.min_eq_right h, Nat.sub_self, List.take_zero]
    exact (List.drop_eq_nil_of_le h).symm
theorem eqv_nil : ∀ rest : List PyData, PyData.eqv (.tuple rest) (.tuple []) = rest.isEmpty
  | [] => rfl
  | _ :: _ => rfl
theorem ok_is_deed {tb : List Addr} (T : Txt K mg) (F : FnAt K mg "is_deed" s_is_deed ["one"] f cd) (C_is_inner_path : CalE P w K mg base CX0 4 "is_inner_path" (spInner K tb)) (C_is_number_to : CalE P w K mg base CX0 2 "is_number_to" (spNumTo K)) (C_is_leaf : CalE P w K mg base CX0 4 "is_leaf" (spIsLeaf K tb)) : CalE P w K mg base CX0 5 "is_deed" (spDeed K tb) := by
  refine F.cal sc_is_deed (fun vs H Q E h => ?_) (fun A outer s H vs Q E hr h => ?_)
  · obtain ⟨v, d, rfl, _⟩ := h
    rfl
  · obtain ⟨v, d, rfl, hd, ok, hT, q⟩ := h
    refine ⟨_, (pss_cons (ps_if (PW.pt (pw_or (pt_not (pt_val (pe_callB (q_isi (K := K) rfl) (by rfl) T.b_isinstance (by decide +kernel) (pa_cons (pv 0) (pa_cons (pe_bltn (v := .ty "tuple") (by rfl) T.b_tuple (by decide +kernel) rfl) pa_nil))))) (pw_or (pt_cmpR op_lt (pe_callB (q_len (K := K) rfl) (by rfl) T.b_len PySem.boot_len (pa_cons (pv 0) pa_nil)) pe_int (nomark _)) (pw_or1 (pt_not (pt_val (pe_cal C_is_inner_path (hr.mono (by first | decide | omega)) (by rfl) (pa_cons (pe_ix (q_ixT (K := K) rfl) (pv 0) pe_int (fun _ _ => rfl)) pa_nil)))))))) (pss_one (ps_ret pe_bl)) pss_nil)
      (pss_cons (ps_set (i := 1) sc_is_deed.nd rfl (.inl rfl) (pe_ix (q_ixT (K := K) rfl) (pv 0) pe_int (fun _ _ => rfl)))
      (pss_cons (ps_set (i := 2) sc_is_deed.nd rfl (.inl rfl) (pe_slice (q_slT (K := K) rfl) (pv 0) (po_some pe_int) po_none))
      (pss_cons (ps_if (pt_cmpR (q_inS (K := K) rfl hr.units) (pv 1) (pe_tup (pa_cons pe_str (pa_cons pe_str (pa_cons pe_str pa_nil)))) (by rfl)) (pss_one (ps_ret (pe_cmpR (q_eqD (K := K) rfl hr.units) (pv 2) (pe_tup pa_nil) (nomark _)))) pss_nil)
      (pss_cons (ps_if (pt_cmpR (q_eqS (K := K) rfl hr.units) (pv 1) pe_str (nomark _)) (pss_one (ps_ret (pe_and (pe_cmpR op_eq (pe_callB (q_len (K := K) rfl) (by rfl) T.b_len PySem.boot_len (pa_cons (pv 2) pa_nil)) pe_int (nomark _)) (pe_and (pe_cal C_is_number_to (hr.mono (by first | decide | omega)) (by rfl) (pa_cons (pe_ix (q_ixT (K := K) rfl) (pv 2) pe_int (fun _ _ => rfl)) (pa_cons (pe_glo (by rfl) T.m_MOST_LEAVES) pa_nil))) (pe_one (pe_cal C_is_leaf (hr.mono (by first | decide | omega)) (by rfl) (pa_cons (pe_ix (q_ixT (K := K) rfl) (pv 2) pe_int (fun _ _ => rfl)) pa_nil))))))) pss_nil)
      (pss_cons (ps_if (pt_cmpR (q_eqS (K := K) rfl hr.units) (pv 1) pe_str (nomark _)) (pss_one (ps_ret (pe_and (pe_cmpR op_eq (pe_callB (q_len (K := K) rfl) (by rfl) T.b_len PySem.boot_len (pa_cons (pv 2) pa_nil)) pe_int (nomark _)) (pe_one (pe_cal C_is_number_to (hr.mono (by first | decide | omega)) (by rfl) (pa_cons (pe_ix (q_ixT (K := K) rfl) (pv 2) pe_int (fun _ _ => rfl)) (pa_cons (pe_glo (by rfl) T.m_MOST_LEAVES) pa_nil))))))) pss_nil)
      (pss_one (ps_ret (pe_and (pe_cmpR (q_inS (K := K) rfl hr.units) (pv 1) (pe_tup (pa_cons pe_str (pa_cons pe_str pa_nil))) (by rfl)) (pe_and (pe_cmpR op_eq (pe_callB (q_len (K := K) rfl) (by rfl) T.b_len PySem.boot_len (pa_cons (pv 2) pa_nil)) pe_int (nomark _)) (pe_one (pe_cal C_is_inner_path (hr.mono (by first | decide | omega)) (by rfl) (pa_cons (pe_ix (q_ixT (K := K) rfl) (pv 2) pe_int (fun _ _ => rfl)) pa_nil))))))))))))), ?_⟩
    unfold tNoPart
    refine ⟨_, rfl, _, _, .type (tyN d), _, _, rfl, .ty _, Rp_ty hd, kit_ty (kit_tup d), _, rfl, ?_⟩
    cases et : isTup d with
    | false =>
      refine iteT ?_
      refine iteT ?_
      have : deedD d = false := by cases d <;> first | rfl | cases et
      exact this ▸ q H Ext.refl
    | true =>
    obtain ⟨ds, rfl⟩ : ∃ ds, d = .tuple ds := by cases d <;> first | exact ⟨_, rfl⟩ | cases et
    obtain ⟨a, xs, rfl, ha, hxs⟩ := Rp_tup hd
    have hlen := RpAll_len hxs
    refine iteF ?_
    refine ⟨_, rfl, _, _, rfl, .inr ⟨_, ha, rfl⟩, _, _, rfl, rfl, _, rfl, ite2 (fun e => ?_) (fun e => ?_)⟩
    · have hlt : (xs.length : Int) < 2 := of_decide_eq_true e
      refine iteT ?_
      have : deedD (.tuple ds) = false := by
        match ds, hlen with
        | [], _ => rfl
        | [_], _ => rfl
        | _ :: _ :: _, hlen => simp only [List.length_cons] at hlen; omega
      exact this ▸ q H Ext.refl
    · have hge : ¬ (xs.length : Int) < 2 := fun z => e (decide_eq_true z)
      obtain ⟨x0, x1, xr, d0, d1, dr, rfl, rfl, k0, k1, kr⟩ : ∃ x0 x1 xr d0 d1 dr, xs = x0 :: x1 :: xr ∧ ds = d0 :: d1 :: dr ∧ Rp K H x0 d0 ∧ Rp K H x1 d1 ∧ RpAll K H xr dr := by
        cases hxs with
        | nil => exact absurd (show ((0:Nat):Int) < 2 by decide) hge
        | cons k0 t =>
          cases t with
          | nil => exact absurd (show ((1:Nat):Int) < 2 by decide) hge
          | cons k1 kr => exact ⟨_, _, _, _, _, _, rfl, rfl, k0, k1, kr⟩
      have hdd : deedD (.tuple (d0 :: d1 :: dr)) = (innerD d1 && wordD d0 dr) := rfl
      refine ⟨_, rfl, a, _, _, x1, rfl, rfl, ha, atI_nat (j := 1) rfl, x1, d1, rfl, k1, ok.short _ rfl d1 (by simp), hT, fun H1 e1 => ⟨_, rfl, ?_⟩⟩
      have hT1 := e1.tabs hT
      have ha1 := e1.sqT hT ha (by simp)
      cases hin : innerD d1 with
      | false =>
        refine iteT ?_
        rw [hin, Bool.false_and] at hdd
        exact hdd ▸ q H1 e1
      | true =>
        refine iteF ?_
        rw [hin, Bool.true_and] at hdd
        -- word, rest
        refine ⟨_, rfl, a, _, _, x0, rfl, rfl, ha1, atI_nat (j := 0) rfl, ?_⟩
        refine ⟨_, rfl, _, rfl, ?_⟩
        refine cut_rd hT1 ha1 fun pr H2 e2 hr2 => ?_
        rw [show (some (2:Int)) = some ((2:Nat):Int) from rfl, cutV_from] at hr2
        have hr2 : SqT K H2 pr xr := hr2
        have hT2 := e2.tabs hT1
        have e12 := e1.trans e2
        have k0' := Rp_ext e12 hT d0 k0
        have kr' := RpAll_ext e12 hT dr kr
        have hrl := RpAll_len kr'
        -- word in (..)
        refine ⟨_, rfl, by show 3 ≤ sizeLine; decide, fun t3 nt3 => ?_⟩
        have e3 : Ext tb [] H2 (upd H2 t3 (.tup (w3.map V.str))) := Ext.new hT2 nt3
        have hT3 := e3.tabs hT2
        have hr3 := e3.sqT hT2 hr2 (by simp)
        refine ⟨t3, w3, d0, rfl, SqT.of upd_same, Rp_ext e3 hT2 d0 k0', _, rfl, ?_⟩
        cases h3 : w3.any (eqS d0) with
        | true =>
          have hdd' : deedD (.tuple (d0 :: d1 :: dr)) = dr.isEmpty := by
            rw [hdd]
            unfold wordD
            rw [h3, if_pos rfl]
          refine iteT ?_
          refine ⟨_, rfl, Nat.zero_le _, fun t4 nt4 => ?_⟩
          have e4 := Ext.new (tb := tb) (ch := []) (o := .tup []) hT3 nt4
          have hsh := ok.shape d0 d1 dr rfl h3
          refine ⟨.tuple dr, .tuple [], .tup (e4.sqT hT3 hr3 (by simp)) (RpAll_Dp dr (RpAll_ext (e3.trans e4) hT2 dr kr') (SeqAt.canLay_of_shaped hsh)), .tup (SqT.of upd_same) .nil, hsh, rfl, ?_⟩
          rw [eqv_nil]
          exact hdd' ▸ q _ (e12.trans (e3.trans e4))
        | false =>
          refine iteF ?_
          refine ⟨_, rfl, _, d0, rfl, Rp_ext e3 hT2 d0 k0', _, rfl, ?_⟩
          have kr3 := RpAll_ext e3 hT2 dr kr'
          have e13 := e12.trans e3
          cases hp : eqS d0 "put" with
          | true =>
            have hdd' : deedD (.tuple (d0 :: d1 :: dr)) = putD dr := by
              rw [hdd]
              unfold wordD
              rw [h3, if_neg Bool.false_ne_true, hp, if_pos rfl]
            refine iteT ?_
            refine ⟨_, rfl, _, _, rfl, .inr ⟨_, hr3, rfl⟩, rfl, _, rfl, ?_⟩
            by_cases h2 : xr.length = 2
            · rw [decide_eq_true (show V.int (xr.length : Int) = V.int 2 by rw [h2] <;> rfl)]
              refine iteT ?_
              obtain ⟨y0, y1, c0, c1, rfl, rfl, m0, m1⟩ : ∃ y0 y1 c0 c1, xr = [y0, y1] ∧ dr = [c0, c1] ∧ Rp K (upd H2 t3 (.tup (w3.map V.str))) y0 c0 ∧ Rp K (upd H2 t3 (.tup (w3.map V.str))) y1 c1 := by
                cases kr3 with
                | nil => cases h2
                | cons m0 t =>
                  cases t with
                  | nil => cases h2
                  | cons m1 t =>
                    cases t with
                    | nil => exact ⟨_, _, _, _, rfl, rfl, m0, m1⟩
                    | cons _ _ => simp at h2
              refine ⟨_, rfl, pr, _, _, y0, rfl, rfl, hr3, atI_nat (j := 0) rfl, y0, c0, 64, rfl, m0, _, rfl, ?_⟩
              have hdd2 : deedD (.tuple [d0, d1, c0, c1]) = (numTo 64 c0 && leafD c1) := hdd'
              cases hn : numTo 64 c0 with
              | false =>
                refine iteF ?_
                rw [hn, Bool.false_and] at hdd2
                exact hdd2 ▸ q _ e13
              | true =>
                refine iteT ?_
                rw [hn, Bool.true_and] at hdd2
                exact ⟨_, rfl, pr, _, _, y1, rfl, rfl, hr3, atI_nat (j := 1) rfl, y1, c1, rfl, m1, hT3, fun H5 e5 => hdd2 ▸ q H5 (e13.trans e5)⟩
            · rw [decide_eq_false (show ¬ V.int (xr.length : Int) = V.int 2 from fun z => h2 (by have := V.int.inj z; omega))]
              refine iteF ?_
              have : putD dr = false := by
                match dr, hrl with
                | [], _ => rfl
                | [_], _ => rfl
                | [_, _], hrl => exact absurd hrl h2
                | _ :: _ :: _ :: _, _ => rfl
              rw [this] at hdd'
              exact hdd' ▸ q _ e13
          | false =>
            refine iteF ?_
            refine ⟨_, rfl, _, d0, rfl, Rp_ext e3 hT2 d0 k0', _, rfl, ?_⟩
            cases ht : eqS d0 "trim" with
            | true =>
              have hdd' : deedD (.tuple (d0 :: d1 :: dr)) = trimD dr := by
                rw [hdd]
                unfold wordD
                rw [h3, if_neg Bool.false_ne_true, hp, if_neg Bool.false_ne_true, ht, if_pos rfl]
              refine iteT ?_
              refine ⟨_, rfl, _, _, rfl, .inr ⟨_, hr3, rfl⟩, rfl, _, rfl, ?_⟩
              by_cases h1 : xr.length = 1
              · rw [decide_eq_true (show V.int (xr.length : Int) = V.int 1 by rw [h1] <;> rfl)]
                refine iteT ?_
                obtain ⟨y0, c0, rfl, rfl, m0⟩ : ∃ y0 c0, xr = [y0] ∧ dr = [c0] ∧ Rp K (upd H2 t3 (.tup (w3.map V.str))) y0 c0 := by
                  cases kr3 with
                  | nil => cases h1
                  | cons m0 t =>
                    cases t with
                    | nil => exact ⟨_, _, rfl, rfl, m0⟩
                    | cons _ _ => simp at h1
                have hdd2 : deedD (.tuple [d0, d1, c0]) = numTo 64 c0 := hdd'
                exact ⟨_, rfl, pr, _, _, y0, rfl, rfl, hr3, atI_nat (j := 0) rfl, y0, c0, 64, rfl, m0, hdd2 ▸ q _ e13⟩
              · rw [decide_eq_false (show ¬ V.int (xr.length : Int) = V.int 1 from fun z => h1 (by have := V.int.inj z; omega))]
                refine iteF ?_
                have : trimD dr = false := by
                  match dr, hrl with
                  | [], _ => rfl
                  | [_], hrl => exact absurd hrl h1
                  | _ :: _ :: _, _ => rfl
                rw [this] at hdd'
                exact hdd' ▸ q _ e13
            | false =>
              refine iteF ?_
              have hdd' : deedD (.tuple (d0 :: d1 :: dr)) = (w2.any (eqS d0) && oneD dr) := by
                rw [hdd]
                unfold wordD
                rw [h3, if_neg Bool.false_ne_true, hp, if_neg Bool.false_ne_true, ht, if_neg Bool.false_ne_true]
              refine ⟨_, rfl, by show 2 ≤ sizeLine; decide, fun t4 nt4 => ?_⟩
              have e4 : Ext tb [] (upd H2 t3 (.tup (w3.map V.str))) (upd (upd H2 t3 (.tup (w3.map V.str))) t4 (.tup (w2.map V.str))) := Ext.new hT3 nt4
              have hT4 := e4.tabs hT3
              have hr4 := e4.sqT hT3 hr3 (by simp)
              have kr4 := RpAll_ext e4 hT3 dr kr3
              have e14 := e13.trans e4
              refine ⟨t4, w2, d0, rfl, SqT.of upd_same, Rp_ext (e3.trans e4) hT2 d0 k0', _, rfl, ?_⟩
              cases hw : w2.any (eqS d0) with
              | false =>
                refine iteF ?_
                rw [hw, Bool.false_and] at hdd'
                exact hdd' ▸ q _ e14
              | true =>
                rw [hw, Bool.true_and] at hdd'
                refine iteT ?_
                refine ⟨_, rfl, _, _, rfl, .inr ⟨_, hr4, rfl⟩, rfl, _, rfl, ?_⟩
                by_cases h1 : xr.length = 1
                · rw [decide_eq_true (show V.int (xr.length : Int) = V.int 1 by rw [h1] <;> rfl)]
                  refine iteT ?_
                  obtain ⟨y0, c0, rfl, rfl, m0⟩ : ∃ y0 c0, xr = [y0] ∧ dr = [c0] ∧ Rp K (upd (upd H2 t3 (.tup (w3.map V.str))) t4 (.tup (w2.map V.str))) y0 c0 := by
                    cases kr4 with
                    | nil => cases h1
                    | cons m0 t =>
                      cases t with
                      | nil => exact ⟨_, _, rfl, rfl, m0⟩
                      | cons _ _ => simp at h1
                  have hdd2 : deedD (.tuple [d0, d1, c0]) = innerD c0 := hdd'
                  exact ⟨_, rfl, pr, _, _, y0, rfl, rfl, hr4, atI_nat (j := 0) rfl, y0, c0, rfl, m0, ok.short _ rfl c0 (by simp), hT4, fun H5 e5 => hdd2 ▸ q H5 (e14.trans e5)⟩
                · rw [decide_eq_false (show ¬ V.int (xr.length : Int) = V.int 1 from fun z => h1 (by have := V.int.inj z; omega))]
                  refine iteF ?_
                  have : oneD dr = false := by
                    match dr, hrl with
                    | [], _ => rfl
                    | [_], hrl => exact absurd hrl h1
                    | _ :: _ :: _, _ => rfl
                  rw [this] at hdd'
                  exact hdd' ▸ q _ e14
def spDone (K : PySem.W.Frag) (tb : List Addr) (C : Addr) : Sp := fun vs H Q E => ∃ (u v : V) (d : PyData), vs = [u, v] ∧ Rp K H v d ∧ OkD d ∧ deedD d = false ∧ Tabs tb H ∧ ∀ H', Ext tb [] H H' → E (.ref C) none H'
theorem ok_done {tb : List Addr} {C : Addr} (x_NoDeed : ExcI P K mg "NoDeed" C) (F : FnAt K mg "done" s_done ["view", "deed"] f cd) (C_is_deed : CalE P w K mg base CX0 5 "is_deed" (spDeed K tb)) : CalE P w K mg base (L2.CX P w) 6 "done" (spDone K tb C) := by
  refine F.calX sc_done (fun vs H Q E h => ?_) (fun A outer s H vs Q E hr h => ?_)
  · obtain ⟨u, v, d, rfl, _⟩ := h
    rfl
  · obtain ⟨u, v, d, rfl, hd, ok, hn, hT, q⟩ := h
    refine ⟨_, (pss_cons (ps_if (pt_not (pt_val (pe_cal C_is_deed (hr.mono (by first | decide | omega)) (by rfl) (pa_cons (pv 1) pa_nil)))) (pss_one (ps_raise rfl (takes_of rfl rfl rfl rfl) (pmk_ownI x_NoDeed hr (by rfl)))) pss_nil)
      (pss_cons ps_never
      (pss_one ps_never))), ?_⟩
    refine ⟨_, rfl, v, d, rfl, hd, ok, hT, fun H1 e1 => ⟨_, rfl, ?_⟩⟩
    rw [hn]
    refine iteT ?_
    exact q H1 e1
def spRefused (K : PySem.W.Frag) (tb : List Addr) : Sp := fun vs H Q _ => ∃ (u v : V) (d : PyData), vs = [u, v] ∧ Rp K H v d ∧ OkD d ∧ deedD d = false ∧ Tabs tb H ∧ ∀ H', Ext tb [] H H' → Q (.bl true) H'
theorem ok_l_refused {tb : List Addr} {C : Addr} (x_NoDeed : ExcI P K mg "NoDeed" C) (F : FnAt K mg "_law_refused" s_l_refused ["_law_view", "_law_one"] f cd) (C_done : CalE P w K mg base (L2.CX P w) 6 "done" (spDone K tb C)) : CalE P w K mg base CX0 7 "_law_refused" (spRefused K tb) := by
  refine F.cal sc_l_refused (fun vs H Q E h => ?_) (fun A outer s H vs Q E hr h => ?_)
  · obtain ⟨u, v, d, rfl, _⟩ := h
    rfl
  · obtain ⟨u, v, d, rfl, hd, ok, hn, hT, q⟩ := h
    refine ⟨_, (pss_cons (ps_try_only rfl rfl ⟨rfl, by decide, .inl x_NoDeed.m⟩ takes0 (fun W pn xe tk _ => (pss_one (ps_expr (pe_calS C_done (hr.mono (by first | decide | omega)) (by rfl) tk (pa_cons (pv 0) (pa_cons (pv 1) pa_nil)))))) (fun a oe cls d pn _ _ => (pss_one (ps_ret pe_bl))))
      (pss_one (ps_ret pe_bl))), ?_⟩
    refine ⟨_, rfl, _, rfl, u, v, d, rfl, hd, ok, hn, hT, fun H' ex => ⟨true, x_NoDeed.ex, fun _ a ha => ?_, fun z => nomatch z⟩⟩
    exact q H' ex

end
end K09

set_option Elab.async false
set_option linter.all false
set_option maxRecDepth 100000
set_option maxHeartbeats 1000000
namespace K09
open PySem PySem.Spec PyProof.Rows L2 HK DT
/-! ### drawn names, paths, leaves -/
def menu : List Str := ["a", "b", "z", "ab", "ba", "zz", "abc", "hgfedcba", "c", "d"]
def manys : List Int := [1, 1, 1, 2, 2, 2, 3, 3, 4, 6]
def wides : List Int := [2, 4, 10]
theorem mod_rg (x m : Int) (h : 0 < m) : 0 ≤ x % m ∧ x % m < m := ⟨Int.emod_nonneg _ (by omega), Int.emod_lt_of_pos _ h⟩
theorem at_map {α : Type} (g : α → V) {l : List α} {i : Int} (h0 : 0 ≤ i) (h1 : i < l.length) : ∃ m, m ∈ l ∧ atI (l.map g) i = some (g m) := by
  have hk : i.toNat < l.length := by omega
  exact ⟨l[i.toNat], List.getElem_mem hk, at_of (j := i.toNat) (by omega) (by rw [List.getElem?_map, List.getElem?_eq_getElem hk] <;> rfl)⟩
section
variable {P : Program} {w : World} {K : PySem.W.Frag} {mg : Str → Option Value} {base : Heap} {f : Addr} {cd : Value} {tb : List Addr}
def spName (tb : List Addr) : Sp := fun vs H Q _ => ∃ n : Int, vs = [.int n] ∧ Tabs tb H ∧ ∀ s H', s ∈ menu → Ext tb [] H H' → Q (.str s) H'
theorem ok_l_name (F : FnAt K mg "_law_name" s_l_name ["_law_number"] f cd) : CalE P w K mg base CX0 1 "_law_name" (spName tb) := by
  refine F.cal sc_l_name (fun vs H Q E h => ?_) (fun A outer s H vs Q E hr h => ?_)
  · obtain ⟨n, rfl, _⟩ := h
    rfl
  · obtain ⟨n, rfl, hT, q⟩ := h
    refine ⟨_, (pss_cons (ps_set (i := 1) sc_l_name.nd rfl (.inl rfl) (pe_lst (pa_cons pe_str (pa_cons pe_str (pa_cons pe_str (pa_cons pe_str (pa_cons pe_str (pa_cons pe_str (pa_cons pe_str (pa_cons pe_str (pa_cons pe_str (pa_cons pe_str pa_nil))))))))))))
      (pss_one (ps_ret (pe_ix (q_ixL (K := K) rfl) (pv 1) (pe_op op_mod (pv 0) pe_int) (fun _ _ => rfl))))), ?_⟩
    refine ⟨by show 10 ≤ sizeLine; decide, fun p np => ?_⟩
    have b := mod_rg n 10 (by decide)
    obtain ⟨m, hm, ha⟩ := at_map V.str (l := menu) b.1 b.2
    exact ⟨_, rfl, _, rfl, _, _, rfl, rfl, (by show (0:Int) < 10; decide), p, menu.map V.str, n % 10, .str m, rfl, rfl, SqL.of upd_same, ha, q _ _ hm (Ext.new hT np)⟩
def spPath (tb : List Addr) : Sp := fun vs H Q _ => ∃ (d : Addr) (ds : List Int), vs = [.ref d] ∧ H d = some (.lst (ds.map V.int)) ∧ Dr ds ∧ Tabs tb H ∧
  ∀ (ss : List Str) (r : List Int) p H', 1 ≤ ss.length → ss.length ≤ 6 → (∀ s ∈ ss, s ∈ menu) → Dr r → Ext tb [d] H H' → H' d = some (.lst (r.map V.int)) → H' p = some (.tup (ss.map V.str)) → Q (.ref p) H'
theorem ok_l_path (T : Txt K mg) (F : FnAt K mg "_law_path" s_l_path ["_law_drawn"] f cd) (C_l_next : CalE P w K mg base CX0 1 "_law_next" (spNext tb)) (C_l_name : CalE P w K mg base CX0 1 "_law_name" (spName tb)) : CalE P w K mg base CX0 2 "_law_path" (spPath tb) := by
  refine F.cal sc_l_path (fun vs H Q E h => ?_) (fun A outer s H vs Q E hr h => ?_)
  · obtain ⟨d, ds, rfl, _⟩ := h
    rfl
  · obtain ⟨d, ds, rfl, hd, hD, hT, q⟩ := h
    refine ⟨_, (pss_cons (ps_set (i := 1) sc_l_path.nd rfl (.inr rfl) (pe_cal C_l_next (hr.mono (by first | decide | omega)) (by rfl) (pa_cons (pv 0) pa_nil)))
      (pss_cons (ps_set (i := 2) sc_l_path.nd rfl (.inl rfl) (pe_ix (q_ixL (K := K) rfl) (pe_lst (pa_cons pe_int (pa_cons pe_int (pa_cons pe_int (pa_cons pe_int (pa_cons pe_int (pa_cons pe_int (pa_cons pe_int (pa_cons pe_int (pa_cons pe_int (pa_cons pe_int pa_nil))))))))))) (pe_op op_mod (pv 1) pe_int) (fun _ _ => rfl)))
      (pss_one (ps_ret (pe_callTy (q_tup (K := K) rfl) (by rfl) T.b_tuple (by decide +kernel) (pa_cons (pe_lc (own := [("_law_k", 3)]) (g := gName 3) (tt := tYes) (by rfl) sc_l_path.nd (pi_range1 (by rfl) T.b_range (pa_cons (pv 2) pa_nil)) (blkOk_by (own := [("_law_k", 3)]) (N := n_l_path) (sc := defScope s_l_path) (by decide +kernel)) (fun _ _ _ _ _ => (pg_name (i := 3) sc_l_path.nd rfl (.inl rfl))) (fun _ _ _ _ _ => pts_nil) (fun _ _ _ _ _ => (pe_cal C_l_name (hr.mono (by first | decide | omega)) (by rfl) (pa_cons (pe_op op_mod (pe_cal C_l_next (hr.mono (by first | decide | omega)) (by rfl) (pa_cons (pv 0) pa_nil)) (pe_ix (q_ixL (K := K) rfl) (pe_lst (pa_cons pe_int (pa_cons pe_int (pa_cons pe_int pa_nil)))) (pe_op op_mod (pe_op op_fdiv (pv 1) pe_int) pe_int) (fun _ _ => rfl))) pa_nil)))) pa_nil)))))), ?_⟩
    refine ⟨_, rfl, d, ds, rfl, hd, hD, hT, fun x r H1 hx hr1 ex1 hd1 => ?_⟩
    have hT1 := ex1.tabs hT
    refine ⟨by show 10 ≤ sizeLine; decide, fun t nt => ?_⟩
    have b := mod_rg x 10 (by decide)
    obtain ⟨m, hm, ham⟩ := at_map V.int (l := manys) b.1 b.2
    have hm16 : 1 ≤ m ∧ m ≤ 6 := by
      have : ∀ m ∈ manys, 1 ≤ m ∧ m ≤ 6 := by decide
      exact this m hm
    have ntd : t ≠ d := fun z => by rw [z, hd1] at nt; cases nt
    have ex2 : Ext tb [d] H (upd H1 t (.lst (manys.map V.int))) := ex1.trans (Ext.new hT1 nt)
    have hd2 : (upd H1 t (.lst (manys.map V.int))) d = some (.lst (r.map V.int)) := by rw [upd_ne (Ne.symm ntd)]; exact hd1
    refine ⟨_, rfl, _, _, rfl, rfl, (by show (0:Int) < 10; decide), t, manys.map V.int, x % 10, .int m, rfl, rfl, SqL.of upd_same, ham, ?_⟩
    refine ⟨_, rfl, _, rfl, by omega, by omega, fun D hDn => ?_⟩
    have hT2 := ex2.tabs hT
    have hDn : (upd H1 t (.lst (manys.map V.int))) D = none := hDn
    have nDd : D ≠ d := fun z => by rw [z, hd2] at hDn; cases hDn
    have hDn0 : H D = none := ex2.free hT hDn (by simp [nDd])
    refine lc_range (lo := 0) (n := m.toNat) (fun i H2 => ∃ (ss : List Str) (r : List Int), ss.length = i ∧ (∀ s ∈ ss, s ∈ menu) ∧ Dr r ∧ H2 d = some (.lst (r.map V.int)) ∧ H2 D = some (.lst (ss.map V.str)) ∧ Ext tb [d] H H2) ?_ ?_ ?_
    · exact ⟨[], r, rfl, fun s hs => (by cases hs), hr1, by rw [upd_ne (Ne.symm nDd)]; exact hd2, upd_same, Ext.own hT ex2 hDn0⟩
    · rintro i H2 hi ⟨ss, r2, hl2, hm2, hD2, hd2, hDD2, ex2⟩
      refine ⟨rfl, _, rfl, d, r2, rfl, hd2, hD2, ex2.tabs hT, fun x3 r3 H3 hx3 hD3 ex3 hd3 => ?_⟩
      have ex23 := ex2.trans ex3
      have hDD3 : H3 D = some (.lst (ss.map V.str)) := ex3.lst (ex2.tabs hT) hDD2 (by simp [nDd])
      refine ⟨by show 3 ≤ sizeLine; decide, fun t2 nt2 => ?_⟩
      have b3 := mod_rg (x / 10) 3 (by decide)
      obtain ⟨m3, hm3, ham3⟩ := at_map V.int (l := wides) b3.1 b3.2
      have h03 : 0 < m3 := by
        have : ∀ m ∈ wides, 0 < m := by decide
        exact this m3 hm3
      have ex4 : Ext tb [] H3 (upd H3 t2 (.lst (wides.map V.int))) := Ext.new (ex23.tabs hT) nt2
      have hT4 := ex4.tabs (ex23.tabs hT)
      refine ⟨_, rfl, _, _, rfl, rfl, ⟨by decide, by decide⟩, _, _, rfl, rfl, (by show (0:Int) < 3; decide), t2, wides.map V.int, x / 10 % 3, .int m3, rfl, rfl, SqL.of upd_same, ham3, _, _, rfl, rfl, h03, ?_⟩
      refine ⟨_, rfl, hT4, fun s4 H4 hs4 ex5 => ?_⟩
      have ex45 := ex4.trans ex5
      have hDD4 : H4 D = some (.lst (ss.map V.str)) := ex45.lst (ex23.tabs hT) hDD3 (by simp)
      have hd4 : H4 d = some (.lst (r3.map V.int)) := ex45.lst (ex23.tabs hT) hd3 (by simp)
      refine ⟨_, hDD4, line_lt (by rw [List.length_map]; omega), ?_⟩
      refine ⟨ss ++ [s4], r3, by rw [List.length_append, hl2] <;> rfl, fun s hs => ?_, hD3, by rw [upd_ne (Ne.symm nDd)]; exact hd4, by rw [upd_same, List.map_append] <;> rfl, Ext.own hT (ex23.trans ex45.of0) hDn0⟩
      rcases List.mem_append.mp hs with h1 | h1
      · exact hm2 s h1
      · rw [List.mem_singleton.mp h1]
        exact hs4
    · rintro H2 ⟨ss, r2, hl2, hm2, hD2, hd2, hDD2, ex2⟩
      refine ⟨D, _, rfl, .inl ⟨SqL.of hDD2, fun l hl => ?_⟩⟩
      have nld : l ≠ d := fun z => by rw [z, hd2] at hl; cases hl
      exact q ss r2 l _ (by omega) (by omega) hm2 hD2 (Ext.own hT ex2 (ex2.free hT hl (by simp [nld]))) (by rw [upd_ne (Ne.symm nld)]; exact hd2) upd_same
def lf8 : List Int := [7, 7, 7, 7, 7, 7, 7, 7]
def byte (ns : List Int) : Prop := ns.length ≤ 8 ∧ ∀ n ∈ ns, 0 ≤ n ∧ n ≤ 255
def spLeaf (tb : List Addr) : Sp := fun vs H Q _ => ∃ (d : Addr) (ds : List Int), vs = [.ref d] ∧ H d = some (.lst (ds.map V.int)) ∧ Dr ds ∧ Tabs tb H ∧
  ∀ (ns r : List Int) p H', byte ns → Dr r → Ext tb [d] H H' → H' d = some (.lst (r.map V.int)) → H' p = some (.tup (ns.map V.int)) → Q (.ref p) H'
theorem ok_l_leaf (T : Txt K mg) (F : FnAt K mg "_law_leaf" s_l_leaf ["_law_drawn"] f cd) (C_l_next : CalE P w K mg base CX0 1 "_law_next" (spNext tb)) : CalE P w K mg base CX0 2 "_law_leaf" (spLeaf tb) := by
  refine F.cal sc_l_leaf (fun vs H Q E h => ?_) (fun A outer s H vs Q E hr h => ?_)
  · obtain ⟨d, ds, rfl, _⟩ := h
    rfl
  · obtain ⟨d, ds, rfl, hd, hD, hT, q⟩ := h
    refine ⟨_, (pss_cons (ps_set (i := 1) sc_l_leaf.nd rfl (.inr rfl) (pe_cal C_l_next (hr.mono (by first | decide | omega)) (by rfl) (pa_cons (pv 0) pa_nil)))
      (pss_cons (ps_if (pt_cmpR op_eq (pe_op op_mod (pv 1) pe_int) pe_int (nomark _)) (pss_one (ps_ret (pe_ix (q_ixL (K := K) rfl) (pe_lst (pa_cons (pe_tup pa_nil) (pa_cons (pe_tup (pa_cons pe_int pa_nil)) (pa_cons (pe_tup (pa_cons pe_int (pa_cons pe_int pa_nil))) (pa_cons (pe_tup (pa_cons pe_int (pa_cons pe_int (pa_cons pe_int (pa_cons pe_int (pa_cons pe_int (pa_cons pe_int (pa_cons pe_int (pa_cons pe_int pa_nil))))))))) pa_nil))))) (pe_op op_mod (pe_op op_fdiv (pv 1) pe_int) pe_int) (fun _ _ => rfl)))) pss_nil)
      (pss_one (ps_ret (pe_callTy (q_tup (K := K) rfl) (by rfl) T.b_tuple (by decide +kernel) (pa_cons (pe_lc (own := [("_law_k", 2)]) (g := gName 2) (tt := tYes) (by rfl) sc_l_leaf.nd (pi_range1 (by rfl) T.b_range (pa_cons (pe_op op_mod (pe_op op_fdiv (pv 1) pe_int) pe_int) pa_nil)) (blkOk_by (own := [("_law_k", 2)]) (N := n_l_leaf) (sc := defScope s_l_leaf) (by decide +kernel)) (fun _ _ _ _ _ => (pg_name (i := 2) sc_l_leaf.nd rfl (.inl rfl))) (fun _ _ _ _ _ => pts_nil) (fun _ _ _ _ _ => (pe_op op_mod (pe_op op_add (pe_op op_fdiv (pv 1) pe_int) (pe_op op_mul (pe_op op_mul (pv 2) (pv 2)) (pe_op op_mod (pv 1) pe_int))) pe_int))) pa_nil)))))), ?_⟩
    refine ⟨_, rfl, d, ds, rfl, hd, hD, hT, fun x r H1 hx hr1 ex1 hd1 => ?_⟩
    have hT1 := ex1.tabs hT
    refine ⟨_, rfl, _, _, rfl, rfl, (by show (0:Int) < 4; decide), rfl, _, rfl, ?_⟩
    refine ite2 (fun _ => ?_) (fun _ => ?_)
    · refine ⟨Nat.zero_le _, fun p1 n1 => ⟨by show 1 ≤ sizeLine; decide, fun p2 n2 => ⟨by show 2 ≤ sizeLine; decide, fun p3 n3 => ⟨by show 8 ≤ sizeLine; decide, fun p4 n4 => ⟨by show 4 ≤ sizeLine; decide, fun t nt => ?_⟩⟩⟩⟩⟩
      have e1 := Ext.new (tb := tb) (ch := []) (o := .tup (([] : List Int).map V.int)) hT1 n1
      have t1 := e1.tabs hT1
      have e2 := Ext.new (tb := tb) (ch := []) (o := .tup (([0] : List Int).map V.int)) t1 n2
      have t2 := e2.tabs t1
      have e3 := Ext.new (tb := tb) (ch := []) (o := .tup (([255, 0] : List Int).map V.int)) t2 n3
      have t3 := e3.tabs t2
      have e4 := Ext.new (tb := tb) (ch := []) (o := .tup (lf8.map V.int)) t3 n4
      have t4 := e4.tabs t3
      have e5 := Ext.new (tb := tb) (ch := []) (o := .lst ([p1, p2, p3, p4].map V.ref)) t4 nt
      have e15 := (((e1.trans e2).trans e3).trans e4).trans e5
      have b := mod_rg (x / 4) 4 (by decide)
      obtain ⟨m, hm, ham⟩ := at_map V.ref (l := [p1, p2, p3, p4]) b.1 b.2
      refine ⟨_, rfl, _, _, rfl, rfl, ⟨by decide, by decide⟩, _, _, rfl, rfl, (by show (0:Int) < 4; decide), t, [p1, p2, p3, p4].map V.ref, x / 4 % 4, .ref m, rfl, rfl, SqL.of upd_same, ham, ?_⟩
      have hz : ∃ ns, byte ns ∧ (upd (upd (upd (upd (upd H1 p1 (.tup (([] : List Int).map V.int))) p2 (.tup (([0] : List Int).map V.int))) p3 (.tup (([255, 0] : List Int).map V.int))) p4 (.tup (lf8.map V.int))) t (.lst ([p1, p2, p3, p4].map V.ref))) m = some (.tup (ns.map V.int)) := by
        simp only [List.mem_cons, List.not_mem_nil, or_false] at hm
        rcases hm with rfl | rfl | rfl | rfl
        · exact ⟨[], ⟨by decide, by decide⟩, (((e2.trans e3).trans e4).trans e5).tup t1 upd_same (by simp)⟩
        · exact ⟨[0], ⟨by decide, by decide⟩, ((e3.trans e4).trans e5).tup t2 upd_same (by simp)⟩
        · exact ⟨[255, 0], ⟨by decide, by decide⟩, (e4.trans e5).tup t3 upd_same (by simp)⟩
        · exact ⟨lf8, ⟨by decide, by decide⟩, e5.tup t4 upd_same (by simp)⟩
      obtain ⟨ns, hb, hmp⟩ := hz
      exact q ns r m _ hb hr1 (ex1.trans e15.of0) (e15.lst hT1 hd1 (by simp)) hmp
    · have b9 := mod_rg (x / 3) 9 (by decide)
      refine ⟨_, rfl, _, _, rfl, rfl, ⟨by decide, by decide⟩, _, _, rfl, rfl, (by show (0:Int) < 9; decide), _, rfl, by omega, by omega, fun D hDn => ?_⟩
      have nDd : D ≠ d := fun z => by rw [z, hd1] at hDn; cases hDn
      have hDn0 : H D = none := ex1.free hT hDn (by simp [nDd])
      refine lc_range (lo := 0) (n := (x / 3 % 9).toNat) (fun i H2 => ∃ ns : List Int, ns.length = i ∧ (∀ n ∈ ns, 0 ≤ n ∧ n ≤ 255) ∧ H2 d = some (.lst (r.map V.int)) ∧ H2 D = some (.lst (ns.map V.int)) ∧ Ext tb [d] H H2) ?_ ?_ ?_
      · exact ⟨[], rfl, fun s hs => (by cases hs), by rw [upd_ne (Ne.symm nDd)]; exact hd1, upd_same, Ext.own hT ex1 hDn0⟩
      · rintro i H2 hi ⟨ns, hl2, hm2, hd2, hDD2, ex2⟩
        refine ⟨rfl, _, rfl, _, _, rfl, rfl, ⟨by decide, by decide⟩, _, rfl, _, rfl, _, _, rfl, rfl, ?_⟩
        have b5 := mod_rg x 5 (by decide)
        refine ⟨.inl ⟨by omega, by omega⟩, _, rfl, _, _, rfl, rfl, (by show (0:Int) < 5; decide), _, _, rfl, rfl, ?_⟩
        have hi9 : (0 + (i : Int)) * (0 + (i : Int)) ≤ 8 * 8 := Int.mul_le_mul (by omega) (by omega) (by omega) (by decide)
        have hi0 : 0 ≤ (0 + (i : Int)) * (0 + (i : Int)) := Int.mul_nonneg (by omega) (by omega)
        refine ⟨.inl ⟨by omega, by omega⟩, _, _, rfl, rfl, _, _, rfl, rfl, (by show (0:Int) < 256; decide), ?_⟩
        generalize hv : (x / 7 + (0 + (i : Int)) * (0 + (i : Int)) * (x % 5)) % 256 = v
        have bv : 0 ≤ v ∧ v < 256 := hv ▸ mod_rg _ 256 (by decide)
        refine ⟨_, hDD2, line_lt (by rw [List.length_map]; omega), ?_⟩
        refine ⟨ns ++ [v], by rw [List.length_append, hl2] <;> rfl, fun s hs => ?_, by rw [upd_ne (Ne.symm nDd)]; exact hd2, by rw [upd_same, List.map_append, ← hv] <;> rfl, Ext.own hT ex2 hDn0⟩
        rcases List.mem_append.mp hs with h1 | h1
        · exact hm2 s h1
        · rw [List.mem_singleton.mp h1]
          omega
      · rintro H2 ⟨ns, hl2, hm2, hd2, hDD2, ex2⟩
        refine ⟨D, _, rfl, .inl ⟨SqL.of hDD2, fun l hl => ?_⟩⟩
        have nld : l ≠ d := fun z => by rw [z, hd2] at hl; cases hl
        exact q ns r l _ ⟨by omega, hm2⟩ hr1 (Ext.own hT ex2 (ex2.free hT hl (by simp [nld]))) (by rw [upd_ne (Ne.symm nld)]; exact hd2) upd_same
end

end K09

set_option Elab.async false
set_option linter.all false
set_option maxRecDepth 100000
set_option maxHeartbeats 1000000
namespace K09
open PySem PySem.Spec PyProof.Rows L2 HK DT
/-! ### what evaluates to which data, while the draws at d may be drawn -/
def er (d : Addr) (H : Hp) : Hp := fun a => if a = d then none else H a
section
variable {K : PySem.W.Frag} {tb : List Addr} {d a : Addr} {H H' : Hp} {o : HO} {σ : L2.St} {D : PyData}
theorem er_ne (h : a ≠ d) : er d H a = H a := if_neg h
theorem er_of (h : er d H a = some o) : a ≠ d ∧ H a = some o := by
  unfold er at h
  by_cases e : a = d
  · rw [if_pos e] at h
    cases h
  · rw [if_neg e] at h
    exact ⟨e, h⟩
structure Lv (tb : List Addr) (d : Addr) (H : Hp) : Prop where
  t : Tabs tb H
  r : ∃ r : List Int, Dr r ∧ H d = some (.lst (r.map V.int))
theorem Lv.nt (h : Lv tb d H) : d ∉ tb := by
  obtain ⟨r, _, hd⟩ := h.r
  exact ne_tab h.t hd fun ps z => by cases z
theorem Lv.ne (h : Lv tb d H) (n : H a = none) : a ≠ d := fun z => by
  obtain ⟨r, _, hd⟩ := h.r
  rw [z, hd] at n
  cases n
theorem Lv.te (h : Lv tb d H) : Tabs tb (er d H) := fun b hb => by
  obtain ⟨ps, e, q⟩ := h.t b hb
  exact ⟨ps, (er_ne (fun z => h.nt (by rw [← z]; exact hb))).trans e, q⟩
theorem er_un : Ext tb [] (er d H) H := ⟨fun b o _ _ h => (er_of h).2, fun t b hb => by
  obtain ⟨ps, e, q⟩ := t b hb
  exact ⟨ps, (er_of e).2, q⟩⟩
theorem er_ext (hd : d ∉ tb) (e : Ext tb [d] H H') : Ext tb [] (er d H) (er d H') := ⟨fun b o h1 _ h => by
  obtain ⟨n, h⟩ := er_of h
  rw [er_ne n]
  exact e.keep b o h1 (by simp [n]) h, fun t b hb => by
  obtain ⟨ps, e, q⟩ := e.tabs (er_un.tabs t) b hb
  exact ⟨ps, (er_ne (fun z => hd (by rw [← z]; exact hb))).trans e, q⟩⟩
theorem Lv.new (h : Lv tb d H) (n : H a = none) : Lv tb d (upd H a o) := ⟨h.t.upd (h.t.ne n), by
  obtain ⟨r, h1, h2⟩ := h.r
  exact ⟨r, h1, by rw [upd_ne (Ne.symm (h.ne n))]; exact h2⟩⟩
theorem Lv.newE (h : Lv tb d H) (n : H a = none) : er d (upd H a o) a = some o := by rw [er_ne (h.ne n)]; exact upd_same
theorem Lv.rp (h : Lv tb d H) (e : Ext tb [d] H H') {v : V} (g : Rp K (er d H) v D) : Rp K (er d H') v D := Rp_ext (er_ext h.nt e) h.te D g
theorem Lv.rps (h : Lv tb d H) (e : Ext tb [d] H H') {vs : List V} {Ds : List PyData} (g : RpAll K (er d H) vs Ds) : RpAll K (er d H') vs Ds := RpAll_ext (er_ext h.nt e) h.te Ds g
theorem Lv.sq (h : Lv tb d H) {xs : List V} (s : SqT K (er d H) a xs) : SqT K H a xs := er_un.sqT h.te s (by simp)
theorem Lv.ext0 (h : Lv tb d H) (e : Ext tb [] H H') : Lv tb d H' := ⟨e.tabs h.t, by
  obtain ⟨r, h1, h2⟩ := h.r
  exact ⟨r, h1, e.lst h.t h2 (by simp)⟩⟩
def Gx (K : PySem.W.Frag) (tb : List Addr) (d : Addr) (te : TE) (σ : L2.St) (H : Hp) (D : PyData) : Prop := ∀ H1, Ext tb [d] H H1 → Lv tb d H1 → ∀ Q : VK, (∀ v H2, Ext tb [d] H1 H2 → Lv tb d H2 → Rp K (er d H2) v D → Q v H2) → te σ H1 Q
def Gxs (K : PySem.W.Frag) (tb : List Addr) (d : Addr) (ta : TA) (σ : L2.St) (H : Hp) (Ds : List PyData) : Prop := ∀ H1, Ext tb [d] H H1 → Lv tb d H1 → ∀ Q : List V → Hp → Prop, (∀ vs H2, Ext tb [d] H1 H2 → Lv tb d H2 → RpAll K (er d H2) vs Ds → Q vs H2) → ta σ H1 Q
theorem gx_var {i : Nat} {v : V} (hL : Lv tb d H) (g : Rp K (er d H) v D) (h : σ[i]? = some (some v)) : Gx K tb d (tVar i) σ H D := fun H1 e l Q q => ⟨v, h, q v H1 Ext.refl l (hL.rp e g)⟩
theorem gx_c {v : V} (g : ∀ H1, Rp K H1 v D) : Gx K tb d (tC v) σ H D := fun H1 _ l Q q => q v H1 Ext.refl l (g _)
theorem gx_i {i : Int} : Gx K tb d (tC (.int i)) σ H (.int i) := gx_c fun _ => .int i
theorem gx_s {s : Str} : Gx K tb d (tC (.str s)) σ H (.str s) := gx_c fun _ => .str s
theorem gx_b {b : Bool} : Gx K tb d (tC (.bl b)) σ H (.bool b) := gx_c fun _ => .bl b
theorem gx_n : Gx K tb d (tC .non) σ H .none := gx_c fun _ => .non
theorem gx_neg {i : Int} : Gx K tb d (tUn (rU fun i => .int (-i)) (tC (.int i))) σ H (.int (-i)) := fun H1 _ l Q q => ⟨i, rfl, q _ H1 Ext.refl l (.int _)⟩
theorem gx_nil : Gxs K tb d tNil σ H [] := fun H1 _ l Q q => q [] H1 Ext.refl l .nil
theorem gx_cons {te : TE} {ta : TA} {Ds : List PyData} (h : Gx K tb d te σ H D) (t : Gxs K tb d ta σ H Ds) : Gxs K tb d (tCons te ta) σ H (D :: Ds) := fun H1 e l Q q =>
  h H1 e l _ fun v H2 e2 l2 g => t H2 (e.trans e2) l2 _ fun vs H3 e3 l3 gs => q (v :: vs) H3 (e2.trans e3) l3 (.cons (l2.rp e3 g) gs)
theorem gx_tup {ta : TA} {Ds : List PyData} (h : Gxs K tb d ta σ H Ds) (hn : Nat.ble Ds.length 100 = true := by rfl) : Gx K tb d (tTup ta) σ H (.tuple Ds) := fun H1 e l Q q =>
  h H1 e l _ fun vs H2 e2 l2 gs => ⟨line_of (by rw [RpAll_len gs]; have := Nat.le_of_ble_eq_true hn; omega), fun p np => by
    have e3 : Ext tb [d] H2 (upd H2 p (.tup vs)) := Ext.new l2.t np
    exact q _ _ (e2.trans e3) (l2.new np) (.tup (SqT.of (l2.newE np)) (l2.rps e3 gs))⟩
theorem gx_lst {ta : TA} {Ds : List PyData} (h : Gxs K tb d ta σ H Ds) (hn : Nat.ble Ds.length 100 = true := by rfl) : Gx K tb d (tLst ta) σ H (.list Ds) := fun H1 e l Q q =>
  h H1 e l _ fun vs H2 e2 l2 gs => ⟨line_of (by rw [RpAll_len gs]; have := Nat.le_of_ble_eq_true hn; omega), fun p np => by
    have e3 : Ext tb [d] H2 (upd H2 p (.lst vs)) := Ext.new l2.t np
    exact q _ _ (e2.trans e3) (l2.new np) (.lst (SqL.of (l2.newE np)) (l2.rps e3 gs))⟩
theorem gx_dict : Gx K tb d tDNewK σ H (.dict []) := fun H1 e l Q q p np => q _ _ (Ext.new l.t np) (l.new np) (.dct (l.newE np))
theorem gx_list {te : TE} {Ds : List PyData} (h : Gx K tb d te σ H (.tuple Ds)) : Gx K tb d (tCB (rLstK K) (tCons te tNil)) σ H (.list Ds) := fun H1 e l Q q =>
  h H1 e l _ fun v H2 e2 l2 g => by
    obtain ⟨a, xs, rfl, ha, hxs⟩ := Rp_tup g
    refine ⟨a, xs, rfl, .inr (l2.sq ha), fun p np => ?_⟩
    have e3 : Ext tb [d] H2 (upd H2 p (.lst xs)) := Ext.new l2.t np
    exact q _ _ (e2.trans e3) (l2.new np) (.lst (SqL.of (l2.newE np)) (l2.rps e3 hxs))
theorem RpAll_rep {xs : List V} {cs : List PyData} (h : RpAll K H xs cs) : ∀ k : Nat, RpAll K H (List.replicate k xs).flatten (List.replicate k cs).flatten
  | 0 => .nil
  | k + 1 => by
    rw [List.replicate_succ, List.replicate_succ, List.flatten_cons, List.flatten_cons]
    exact RpAll_app h (RpAll_rep h k)
theorem gx_rep {te : TE} {cs : List PyData} {k : Int} (h : Gx K tb d te σ H (.tuple cs)) (hne : cs ≠ []) (hl : cs.length ≤ 1000) (h2 : 2 ≤ k) (hk : k ≤ 1000) : Gx K tb d (tOp (rRepT K) te (tC (.int k))) σ H (.tuple (List.replicate k.toNat cs).flatten) := fun H1 e l Q q =>
  h H1 e l _ fun v H2 e2 l2 g => by
    obtain ⟨a, xs, rfl, ha, hxs⟩ := Rp_tup g
    have hlen := RpAll_len hxs
    refine ⟨a, k, xs, rfl, rfl, l2.sq ha, fun z => hne ?_, h2, hk, by omega, fun p np => ?_⟩
    · subst z
      exact List.eq_nil_of_length_eq_zero hlen.symm
    · have e3 : Ext tb [d] H2 (upd H2 p (.tup (List.replicate k.toNat xs).flatten)) := Ext.new l2.t np
      exact q _ _ (e2.trans e3) (l2.new np) (.tup (SqT.of (l2.newE np)) (RpAll_rep (l2.rps e3 hxs) _))
theorem cutV_take (xs : List V) (k : Nat) : cutV xs none (some (k : Int)) = xs.take k := by
  unfold cutV
  rw [HT.sIx_nat, HT.sIx_none, List.drop_zero, Nat.sub_zero]
  rcases Nat.le_total k xs.length with h | h
  · rw [Nat.min_eq_left h]
  · rw [Nat.min_eq_right h, List.take_length, List.take_of_length_le h]
theorem gx_cut {te : TE} {cs : List PyData} (k : Nat) {i : Int} (h : Gx K tb d te σ H (.tuple cs)) (hi : i = (k : Int) := by rfl) : Gx K tb d (tSl (rSlA K) te tNoPart (tPart (tC (.int i)))) σ H (.tuple (cs.take k)) := fun H1 e l Q q =>
  hi ▸ h H1 e l _ fun v H2 e2 l2 g => by
    obtain ⟨a, xs, rfl, ha, hxs⟩ := Rp_tup g
    refine ⟨_, rfl, a, xs, rfl, l2.sq ha, fun hw => ?_, fun _ p np => ?_⟩
    · refine q _ H2 e2 l2 ?_
      have : cutV xs none (some (k : Int)) = xs := by
        unfold cutV
        rw [hw.1, hw.2, List.drop_zero, Nat.sub_zero, List.take_length]
      rw [cutV_take] at this
      have := RpAll_take k hxs
      rw [‹xs.take k = xs›] at this
      exact .tup ha this
    · rw [cutV_take]
      have e3 : Ext tb [d] H2 (upd H2 p (.tup (xs.take k))) := Ext.new l2.t np
      exact q _ _ (e2.trans e3) (l2.new np) (.tup (SqT.of (l2.newE np)) (RpAll_take k (l2.rps e3 hxs)))
theorem gx_cat {ta te : TE} {cs es : List PyData} (h1 : Gx K tb d ta σ H (.tuple cs)) (h2 : Gx K tb d te σ H (.tuple es)) (hz : cs.length + es.length ≤ 1000) : Gx K tb d (tOp (rCatA K) ta te) σ H (.tuple (cs ++ es)) := fun H1 e l Q q =>
  h1 H1 e l _ fun v H2 e2 l2 g => h2 H2 (e.trans e2) l2 _ fun u H3 e3 l3 gu => by
    obtain ⟨a, xs, rfl, ha, hxs⟩ := Rp_tup (l2.rp e3 g)
    obtain ⟨b, ys, rfl, hb, hys⟩ := Rp_tup gu
    have k1 := RpAll_len hxs
    have k2 := RpAll_len hys
    refine ⟨a, b, xs, ys, rfl, rfl, l3.sq ha, l3.sq hb, line_of (by omega), fun z => ?_, fun _ z => ?_, fun _ _ p np => ?_⟩
    · subst z
      have : cs = [] := List.eq_nil_of_length_eq_zero k1.symm
      subst this
      exact q _ _ (e2.trans e3) l3 gu
    · subst z
      have : es = [] := List.eq_nil_of_length_eq_zero k2.symm
      subst this
      refine q _ _ (e2.trans e3) l3 ?_
      rw [List.append_nil]
      exact .tup ha hxs
    · have e4 : Ext tb [d] H3 (upd H3 p (.tup (xs ++ ys))) := Ext.new l3.t np
      exact q _ _ ((e2.trans e3).trans e4) (l3.new np) (.tup (SqT.of (l3.newE np)) (RpAll_app (l3.rps e4 hxs) (l3.rps e4 hys)))
theorem gx_ix0 {te : TE} {c : PyData} {cs : List PyData} (h : Gx K tb d te σ H (.tuple (c :: cs))) : Gx K tb d (tOp (rIxT K) te (tC (.int 0))) σ H c := fun H1 e l Q q =>
  h H1 e l _ fun v H2 e2 l2 g => by
    obtain ⟨a, xs, rfl, ha, hxs⟩ := Rp_tup g
    cases hxs with
    | cons k0 kr => exact ⟨a, _, 0, _, rfl, rfl, l2.sq ha, atI_nat (j := 0) rfl, q _ _ e2 l2 k0⟩
end
/-! ### rows of things of which G holds -/
section
variable {K : PySem.W.Frag} {tb : List Addr} {d : Addr} {H H0 : Hp} {σ : L2.St} {G : PyData → Prop} {Q : VK}
def AllG (K : PySem.W.Frag) (d : Addr) (G : PyData → Prop) (H : Hp) (vs : List V) : Prop := ∀ v ∈ vs, ∃ D, Rp K (er d H) v D ∧ G D
theorem AllG.ext {H' : Hp} {vs : List V} (h : AllG K d G H vs) (l : Lv tb d H) (e : Ext tb [d] H H') : AllG K d G H' vs := fun v hv => by
  obtain ⟨D, h1, h2⟩ := h v hv
  exact ⟨D, l.rp e h1, h2⟩
def Gb (K : PySem.W.Frag) (tb : List Addr) (d : Addr) (G : PyData → Prop) (ta : TA) (σ : L2.St) (H : Hp) (n : Nat) : Prop := ∀ H1, Ext tb [d] H H1 → Lv tb d H1 → ∀ Q : List V → Hp → Prop, (∀ vs H2, Ext tb [d] H1 H2 → Lv tb d H2 → vs.length = n → AllG K d G H2 vs → Q vs H2) → ta σ H1 Q
theorem gb_nil : Gb K tb d G tNil σ H 0 := fun H1 _ l Q q => q [] H1 Ext.refl l rfl fun v hv => by cases hv
theorem gb_cons {te : TE} {ta : TA} {D : PyData} {n : Nat} (h : Gx K tb d te σ H D) (g : G D) (t : Gb K tb d G ta σ H n) : Gb K tb d G (tCons te ta) σ H (n + 1) := fun H1 e l Q q =>
  h H1 e l _ fun v H2 e2 l2 r => t H2 (e.trans e2) l2 _ fun vs H3 e3 l3 hl hs => q (v :: vs) H3 (e2.trans e3) l3 (by rw [List.length_cons, hl]) fun u hu => by
    rcases List.mem_cons.mp hu with rfl | hu
    · exact ⟨D, l2.rp e3 r, g⟩
    · exact hs u hu
theorem lst_rd {ta : TA} {n : Nat} (l : Lv tb d H) (hn : n ≤ 1000) (e0 : Ext tb [d] H0 H) (gb : Gb K tb d G ta σ H0 n)
    (q : ∀ L' vs' H', L' ≠ d → Ext tb [d] H H' → Lv tb d H' → H' L' = some (.lst vs') → AllG K d G H' vs' → vs'.length = n → Q (.ref L') H') : tLst ta σ H Q := by
  refine gb H e0 l _ fun us H1 e1 l1 hl hus => ?_
  refine ⟨line_of (by omega), fun p np => ?_⟩
  have e2 : Ext tb [d] H1 (upd H1 p (.lst us)) := Ext.new l1.t np
  exact q p _ _ (l1.ne np) (e1.trans e2) (l1.new np) upd_same (hus.ext l1 e2) hl
theorem catl_rd {i : Nat} {L : Addr} {vs : List V} {ta : TA} {n : Nat} (l : Lv tb d H) (nL : L ≠ d) (hL : H L = some (.lst vs)) (hvs : AllG K d G H vs) (h : σ[i]? = some (some (.ref L))) (hlen : vs.length ≤ 1000) (hn : n ≤ 1000) (e0 : Ext tb [d] H0 H) (gb : Gb K tb d G ta σ H0 n)
    (q : ∀ L' vs' H', L' ≠ d → Ext tb [d] H H' → Lv tb d H' → H' L' = some (.lst vs') → AllG K d G H' vs' → vs'.length = vs.length + n → Q (.ref L') H') : tOp rCat (tVar i) (tLst ta) σ H Q := by
  refine ⟨_, h, ?_⟩
  refine gb H e0 l _ fun us H1 e1 l1 hl hus => ?_
  refine ⟨line_of (by omega), fun p np => ?_⟩
  have e2 : Ext tb [d] H1 (upd H1 p (.lst us)) := Ext.new l1.t np
  have l2 : Lv tb d (upd H1 p (.lst us)) := l1.new np
  have e12 := e1.trans e2
  refine ⟨L, p, vs, us, rfl, rfl, e12.lst l.t hL (by simp [nL]), upd_same, line_of (by omega), fun p2 np2 => ?_⟩
  have e3 : Ext tb [d] (upd H1 p (.lst us)) (upd (upd H1 p (.lst us)) p2 (.lst (vs ++ us))) := Ext.new l2.t np2
  refine q p2 _ _ (l2.ne np2) (e12.trans e3) (l2.new np2) upd_same (fun v hv => ?_) (by rw [List.length_append, hl])
  rcases List.mem_append.mp hv with hv | hv
  · exact (hvs.ext l (e12.trans e3)) v hv
  · exact (hus.ext l1 (e2.trans e3)) v hv
theorem asg_use {te : TE} {i : Nat} {rest : TS} {D : Ends} (h : te σ H fun x H1 => rest D (σ.set i (some x)) H1) : tSeq (tAsg te (gName i)) rest D σ H := h
theorem asg_one {te : TE} {i : Nat} {D : Ends} (h : te σ H fun x H1 => D.nx (σ.set i (some x)) H1) : tAsg te (gName i) D σ H := h
theorem nm_asg {j i : Nat} {v : V} {te : TE} {rest : TS} {D : Ends} {rt : VK} {bk ct : L2.St → Hp → Prop} (h : te (σ.set j (some v)) H fun x H1 => rest D ((σ.set j (some v)).set i (some x)) H1) : gName j v σ H (Ends.mk (tSeq (tAsg te (gName i)) rest D) rt bk ct).nx := h
theorem ret_use {te : TE} {D : Ends} (h : te σ H D.rt) : tRet te D σ H := h
end

/-! ### which deeds are deeds -/
def pD (ss : List Str) : PyData := .tuple (ss.map PyData.str)
def lD (ns : List Int) : PyData := .tuple (ns.map PyData.int)
structure Pth (ss : List Str) : Prop where
  lo : 1 ≤ ss.length
  hi : ss.length ≤ 6
  mem : ∀ s ∈ ss, s ∈ menu
theorem menu_nm : ∀ s ∈ menu, isNm s = true := by
  have : menu.all isNm = true := by decide +kernel
  exact List.all_eq_true.mp this
theorem menu_short : ∀ s ∈ menu, s.length ≤ 1000 := by
  have : menu.all (fun s => decide (s.length ≤ 1000)) = true := by decide +kernel
  intro s hs
  exact of_decide_eq_true (List.all_eq_true.mp this s hs)
theorem menu_ok : ∀ s ∈ menu, PyData.strOk s = true := by
  have : menu.all (fun s => PyData.strOk s) = true := by decide +kernel
  exact List.all_eq_true.mp this
theorem menu_w3 : ∀ s ∈ menu, w3.any (eqS (.str s)) = false := by
  have : menu.all (fun s => !w3.any (eqS (.str s))) = true := by decide +kernel
  intro s hs
  have := List.all_eq_true.mp this s hs
  simpa using this
theorem inner_ok {ss : List Str} (h : Pth ss) : innerD (pD ss) = true := by
  show ((decide (((ss.map PyData.str).length : Int) ≤ 6) && (ss.map PyData.str).all nameD) && decide (0 < ((ss.map PyData.str).length : Int))) = true
  rw [List.length_map, decide_eq_true (by have := h.hi; omega), decide_eq_true (by have := h.lo; omega), Bool.true_and, Bool.and_true, List.all_eq_true]
  intro d hd
  obtain ⟨s, hs, rfl⟩ := List.mem_map.mp hd
  exact menu_nm s (h.mem s hs)
theorem leaf_ok {ns : List Int} (h : byte ns) : leafD (lD ns) = true := by
  show (decide (((ns.map PyData.int).length : Int) ≤ 8) && (ns.map PyData.int).all (numTo 255)) = true
  rw [List.length_map, decide_eq_true (by have := h.1; omega), Bool.true_and, List.all_eq_true]
  intro d hd
  obtain ⟨n, hn, rfl⟩ := List.mem_map.mp hd
  have := h.2 n hn
  show (decide (0 ≤ n) && decide (n ≤ 255)) = true
  rw [decide_eq_true this.1, decide_eq_true this.2] <;> rfl
theorem short_p {ss : List Str} (h : Pth ss) : shortT (pD ss) := fun d hd => by
  obtain ⟨s, hs, rfl⟩ := List.mem_map.mp hd
  exact menu_short s (h.mem s hs)
theorem short_l {ns : List Int} : shortT (lD ns) := fun d hd => by
  obtain ⟨s, hs, rfl⟩ := List.mem_map.mp hd
  trivial
def allS : List PyData → Prop
  | [] => True
  | x :: r => shortT x ∧ allS r
theorem allS_mem : ∀ {ds : List PyData}, allS ds → ∀ x ∈ ds, shortT x
  | [], _, x, hx => by cases hx
  | _ :: _, h, x, hx => by
    rcases List.mem_cons.mp hx with rfl | hx
    · exact h.1
    · exact allS_mem h.2 x hx
def Itm (b : Bool) (D : PyData) : Prop := OkD D ∧ deedD D = b
theorem it_nt {D : PyData} (h : isTup D = false) : Itm false D := by
  refine ⟨⟨fun ds e => ?_, fun w p rest e => ?_⟩, ?_⟩
  · subst e
    cases h
  · subst e
    cases h
  · cases D <;> first | rfl | cases h
theorem it_0 : Itm false (.tuple []) := ⟨⟨fun ds e x hx => (by cases e; cases hx), fun w p rest e => (by cases e)⟩, rfl⟩
theorem it_1 {x : PyData} (h : shortT x) : Itm false (.tuple [x]) := ⟨⟨fun ds e y hy => by
  cases e
  rw [List.mem_singleton.mp hy]
  exact h, fun w p rest e => by cases e⟩, rfl⟩
theorem okD {w p : PyData} {rest : List PyData} (sr : allS (w :: p :: rest)) (hs : w3.any (eqS w) = false ∨ SeqAt.shaped (.tuple rest) = true) : OkD (.tuple (w :: p :: rest)) := ⟨fun ds e x hx => by
  cases e
  exact allS_mem sr x hx, fun w p rest e h3 => by
  cases e
  rcases hs with hs | hs
  · rw [hs] at h3
    cases h3
  · exact hs⟩
theorem it_p {w p : PyData} {rest : List PyData} (hp : innerD p = false) (sr : allS (w :: p :: rest)) (hs : w3.any (eqS w) = false ∨ SeqAt.shaped (.tuple rest) = true) : Itm false (.tuple (w :: p :: rest)) := ⟨okD sr hs, by
  show (innerD p && wordD w rest) = false
  rw [hp, Bool.false_and]⟩
theorem it_w {w p : PyData} {rest : List PyData} (hw : wordD w rest = false) (sr : allS (w :: p :: rest)) (hs : w3.any (eqS w) = false ∨ SeqAt.shaped (.tuple rest) = true) : Itm false (.tuple (w :: p :: rest)) := ⟨okD sr hs, by
  show (innerD p && wordD w rest) = false
  rw [hw, Bool.and_false]⟩
theorem it_g {w p : PyData} {rest : List PyData} (hp : innerD p = true) (hw : wordD w rest = true) (sr : allS (w :: p :: rest)) (hs : w3.any (eqS w) = false ∨ SeqAt.shaped (.tuple rest) = true) : Itm true (.tuple (w :: p :: rest)) := ⟨okD sr hs, by
  show (innerD p && wordD w rest) = true
  rw [hw, hp] <;> rfl⟩
theorem sh0 : SeqAt.shaped (.tuple []) = true := rfl
theorem can_strs : ∀ {ss : List Str}, (∀ s ∈ ss, s ∈ menu) → PyData.canLayAll0 (ss.map PyData.str) = true
  | [], _ => rfl
  | s :: r, h => by
    show (PyData.strOk s && PyData.canLayAll0 (r.map PyData.str)) = true
    rw [menu_ok s (h s (List.mem_cons_self ..)), can_strs fun x hx => h x (List.mem_cons_of_mem _ hx)] <;> rfl
theorem dep_strs : ∀ ss : List Str, PyData.depthAll (ss.map PyData.str) = 0
  | [] => rfl
  | s :: r => by
    show max 0 (PyData.depthAll (r.map PyData.str)) = 0
    rw [dep_strs r] <;> rfl
theorem sh1 {ss : List Str} (h : Pth ss) : SeqAt.shaped (.tuple [pD ss]) = true := by
  show ((PyData.canLayAll0 (ss.map PyData.str) && true) && decide (max (PyData.depthAll (ss.map PyData.str) + 1) 0 + 1 ≤ 64)) = true
  rw [can_strs h.mem, dep_strs] <;> rfl
theorem n3_put : w3.any (eqS (.str "put")) = false := by decide +kernel
theorem n3_trim : w3.any (eqS (.str "trim")) = false := by decide +kernel
theorem n3_move : w3.any (eqS (.str "move")) = false := by decide +kernel
theorem n3_copy : w3.any (eqS (.str "copy")) = false := by decide +kernel
theorem n3_paint : w3.any (eqS (.str "paint")) = false := by decide +kernel
theorem w_3 {s : Str} (h : s ∈ w3) (r : List PyData) : wordD (.str s) r = r.isEmpty := by
  unfold wordD
  rw [if_pos (List.any_eq_true.mpr ⟨s, h, by show (s == s) = true; simp⟩)]
theorem w_put (r : List PyData) : wordD (.str "put") r = putD r := by
  unfold wordD
  rw [if_neg (by decide +kernel), if_pos (by decide +kernel)]
theorem w_trim (r : List PyData) : wordD (.str "trim") r = trimD r := by
  unfold wordD
  rw [if_neg (by decide +kernel), if_neg (by decide +kernel), if_pos (by decide +kernel)]
theorem w_move (r : List PyData) : wordD (.str "move") r = oneD r := by
  unfold wordD
  rw [if_neg (by decide +kernel), if_neg (by decide +kernel), if_neg (by decide +kernel), show w2.any (eqS (.str "move")) = true by decide +kernel, Bool.true_and]
theorem w_copy (r : List PyData) : wordD (.str "copy") r = oneD r := by
  unfold wordD
  rw [if_neg (by decide +kernel), if_neg (by decide +kernel), if_neg (by decide +kernel), show w2.any (eqS (.str "copy")) = true by decide +kernel, Bool.true_and]
theorem w_paint (r : List PyData) : wordD (.str "paint") r = false := by
  unfold wordD
  rw [if_neg (by decide +kernel), if_neg (by decide +kernel), if_neg (by decide +kernel), show w2.any (eqS (.str "paint")) = false by decide +kernel, Bool.false_and]
/-- what is no inner path -/
def NoP (D : PyData) : Prop := innerD D = false ∧ shortT D
theorem np_0 : NoP (.tuple []) := ⟨rfl, fun d hd => by cases hd⟩
theorem np_l {ds : List PyData} : NoP (.list ds) := ⟨rfl, trivial⟩
theorem np_s {s : Str} : NoP (.str s) := ⟨rfl, trivial⟩
theorem np_n : NoP .none := ⟨rfl, trivial⟩
theorem np_7 {ss : List Str} (h : Pth ss) : NoP (.tuple ((List.replicate (7:Int).toNat (ss.map PyData.str)).flatten.take 7)) := by
  refine ⟨?_, fun d hd => ?_⟩
  · have hl : ((List.replicate (7:Int).toNat (ss.map PyData.str)).flatten.take 7).length = 7 := by
      rw [List.length_take, List.length_flatten]
      have := h.lo
      show min 7 ((List.replicate 7 (ss.map PyData.str)).map List.length).sum = 7
      rw [List.map_replicate, List.length_map]
      show min 7 (ss.length + (ss.length + (ss.length + (ss.length + (ss.length + (ss.length + (ss.length + 0))))))) = 7
      omega
    show ((decide (((((List.replicate (7:Int).toNat (ss.map PyData.str)).flatten.take 7).length : Nat) : Int) ≤ 6) && _) && _) = false
    rw [hl] <;> rfl
  · have hd := List.mem_of_mem_take hd
    obtain ⟨l, hl, hd⟩ := List.mem_flatten.mp hd
    rw [(List.mem_replicate.mp hl).2] at hd
    obtain ⟨s, hs, rfl⟩ := List.mem_map.mp hd
    exact menu_short s (h.mem s hs)
theorem np_x {ss : List Str} {z : Str} (h : Pth ss) (hz : isNm z = false) (hl : z.length ≤ 1000) : NoP (.tuple ((ss.map PyData.str).take 5 ++ [.str z])) := by
  refine ⟨?_, fun d hd => ?_⟩
  · show ((_ && ((ss.map PyData.str).take 5 ++ [PyData.str z]).all nameD) && _) = false
    have : ((ss.map PyData.str).take 5 ++ [PyData.str z]).all nameD = false := by
      rw [List.all_append, show [PyData.str z].all nameD = false by show (isNm z && true) = false; rw [hz] <;> rfl, Bool.and_false]
    rw [this, Bool.and_false, Bool.false_and]
  · rcases List.mem_append.mp hd with hd | hd
    · obtain ⟨s, hs, rfl⟩ := List.mem_map.mp (List.mem_of_mem_take hd)
      exact menu_short s (h.mem s hs)
    · rw [List.mem_singleton.mp hd]
      exact hl
theorem no_A : isNm "A" = false := by decide +kernel
theorem no_0 : isNm "" = false := by decide +kernel
theorem it_path {ss : List Str} (h : Pth ss) : Itm false (pD ss) := by
  match ss, h with
  | [], _ => exact it_0
  | [s], _ => exact it_1 trivial
  | s :: t :: r, h =>
    have hr : ∀ r : List Str, allS (r.map PyData.str) := fun r => by
      induction r with
      | nil => trivial
      | cons a r ih => exact ⟨trivial, ih⟩
    exact it_p (w := .str s) (p := .str t) (rest := r.map PyData.str) rfl ⟨trivial, trivial, hr r⟩ (.inl (menu_w3 s (h.mem s (List.mem_cons_self ..))))

end K09

set_option Elab.async false
set_option linter.all false
set_option maxRecDepth 100000
set_option maxHeartbeats 1000000
namespace K09
open PySem PySem.Spec PyProof.Rows L2 HK DT
section
variable {P : Program} {w : World} {K : PySem.W.Frag} {mg : Str → Option Value} {base : Heap} {f : Addr} {cd : Value} {tb : List Addr}
theorem gb_consY {d : Addr} {H : Hp} {σ : L2.St} {G : PyData → Prop} {te : TE} {ta : TA} {n : Nat} (h : ∀ H1, Ext tb [d] H H1 → Lv tb d H1 → ∀ Q : VK, (∀ v H2, Ext tb [d] H1 H2 → Lv tb d H2 → (∃ D, Rp K (er d H2) v D ∧ G D) → Q v H2) → te σ H1 Q) (t : Gb K tb d G ta σ H n) : Gb K tb d G (tCons te ta) σ H (n + 1) := fun H1 e l Q q =>
  h H1 e l _ fun v H2 e2 l2 r => t H2 (e.trans e2) l2 _ fun vs H3 e3 l3 hl hs => q (v :: vs) H3 (e2.trans e3) l3 (by rw [List.length_cons, hl]) fun u hu => by
    rcases List.mem_cons.mp hu with rfl | hu
    · obtain ⟨D, r, g⟩ := r
      exact ⟨D, l2.rp e3 r, g⟩
    · exact hs u hu
theorem nm_ret {j : Nat} {σ : L2.St} {H : Hp} {v : V} {te : TE} {D : Ends} {rt : VK} {bk ct : L2.St → Hp → Prop} (h : te (σ.set j (some v)) H D.rt) : gName j v σ H (Ends.mk (tRet te D) rt bk ct).nx := h
theorem rp_path {d p : Addr} {H : Hp} {ss : List Str} (h : H p = some (.tup (ss.map V.str))) (n : p ≠ d) : Rp K (er d H) (.ref p) (pD ss) := .tup (SqT.of ((er_ne n).trans h)) (Rp_strs ss)
theorem rp_leaf {d p : Addr} {H : Hp} {ns : List Int} (h : H p = some (.tup (ns.map V.int))) (n : p ≠ d) : Rp K (er d H) (.ref p) (lD ns) := .tup (SqT.of ((er_ne n).trans h)) (Rp_ints ns)
theorem tl_ne {d p : Addr} {H : Hp} {xs ys : List V} (h : H p = some (.tup xs)) (g : H d = some (.lst ys)) : p ≠ d := fun z => by
  rw [z, g] at h
  cases h
def spGB (K : PySem.W.Frag) (tb : List Addr) (b : Bool) : Sp := fun vs H Q _ => ∃ (d : Addr) (ds : List Int), vs = [.ref d] ∧ H d = some (.lst (ds.map V.int)) ∧ Dr ds ∧ Tabs tb H ∧
  ∀ L us H', L ≠ d → Ext tb [d] H H' → Lv tb d H' → H' L = some (.lst us) → AllG K d (Itm b) H' us → us.length ≤ 1000 → Q (.ref L) H'
theorem ok_l_good (T : Txt K mg) (F : FnAt K mg "_law_good" s_l_good ["_law_drawn"] f cd) (C_l_next : CalE P w K mg base CX0 1 "_law_next" (spNext tb)) (C_l_path : CalE P w K mg base CX0 2 "_law_path" (spPath tb)) (C_l_leaf : CalE P w K mg base CX0 2 "_law_leaf" (spLeaf tb)) : CalE P w K mg base CX0 3 "_law_good" (spGB K tb true) := by
  refine F.cal sc_l_good (fun vs H Q E h => ?_) (fun A outer s H vs Q E hr h => ?_)
  · obtain ⟨d, ds, rfl, _⟩ := h
    rfl
  · obtain ⟨d, ds, rfl, hd, hD, hT, q⟩ := h
    refine ⟨_, (pss_cons (ps_set (i := 1) sc_l_good.nd rfl (.inl rfl) (pe_cal C_l_path (hr.mono (by first | decide | omega)) (by rfl) (pa_cons (pv 0) pa_nil)))
      (pss_cons (ps_set (i := 2) sc_l_good.nd rfl (.inl rfl) (pe_cal C_l_path (hr.mono (by first | decide | omega)) (by rfl) (pa_cons (pv 0) pa_nil)))
      (pss_cons (ps_set (i := 3) sc_l_good.nd rfl (.inl rfl) (pe_ix (q_ixL (K := K) rfl) (pe_lst (pa_cons pe_int (pa_cons pe_int (pa_cons (pe_op op_mod (pe_cal C_l_next (hr.mono (by first | decide | omega)) (by rfl) (pa_cons (pv 0) pa_nil)) pe_int) pa_nil)))) (pe_op op_mod (pe_cal C_l_next (hr.mono (by first | decide | omega)) (by rfl) (pa_cons (pv 0) pa_nil)) pe_int) (fun _ _ => rfl)))
      (pss_one (ps_ret (pe_lst (pa_cons (pe_tup (pa_cons pe_str (pa_cons (pv 1) pa_nil))) (pa_cons (pe_tup (pa_cons pe_str (pa_cons (pv 1) pa_nil))) (pa_cons (pe_tup (pa_cons pe_str (pa_cons (pv 1) (pa_cons (pv 3) (pa_cons (pe_cal C_l_leaf (hr.mono (by first | decide | omega)) (by rfl) (pa_cons (pv 0) pa_nil)) pa_nil))))) (pa_cons (pe_tup (pa_cons pe_str (pa_cons (pv 1) (pa_cons (pv 3) pa_nil)))) (pa_cons (pe_tup (pa_cons pe_str (pa_cons (pv 1) pa_nil))) (pa_cons (pe_tup (pa_cons pe_str (pa_cons (pv 1) (pa_cons (pv 2) pa_nil)))) (pa_cons (pe_tup (pa_cons pe_str (pa_cons (pv 1) (pa_cons (pv 1) pa_nil)))) pa_nil))))))))))))), ?_⟩
    refine ⟨_, rfl, d, ds, rfl, hd, hD, hT, fun ss r1 p1 H1 a1 a2 a3 hD1 ex1 hd1 hp1 => ?_⟩
    have P1 : Pth ss := ⟨a1, a2, a3⟩
    have hT1 := ex1.tabs hT
    have l1 : Lv tb d H1 := ⟨hT1, r1, hD1, hd1⟩
    have g1 : Rp K (er d H1) (.ref p1) (pD ss) := rp_path hp1 (tl_ne hp1 hd1)
    refine ⟨_, rfl, d, r1, rfl, hd1, hD1, hT1, fun so r2 p2 H2 b1 b2 b3 hD2 ex2 hd2 hp2 => ?_⟩
    have P2 : Pth so := ⟨b1, b2, b3⟩
    have hT2 := ex2.tabs hT1
    have l2 : Lv tb d H2 := ⟨hT2, r2, hD2, hd2⟩
    have g2 : Rp K (er d H2) (.ref p2) (pD so) := rp_path hp2 (tl_ne hp2 hd2)
    refine ⟨_, rfl, d, r2, rfl, hd2, hD2, hT2, fun x r3 H3 hx hD3 ex3 hd3 => ⟨_, _, rfl, rfl, (by show (0:Int) < 65; decide), by show 3 ≤ sizeLine; decide, fun t nt => ?_⟩⟩
    have hT3 := ex3.tabs hT2
    have l3 : Lv tb d H3 := ⟨hT3, r3, hD3, hd3⟩
    have e4 : Ext tb [d] H3 (upd H3 t (.lst (([0, 64, x % 65] : List Int).map V.int))) := Ext.new hT3 nt
    have l4 : Lv tb d (upd H3 t (.lst (([0, 64, x % 65] : List Int).map V.int))) := l3.new nt
    have ntd := l3.ne nt
    refine ⟨_, rfl, d, r3, rfl, (upd_ne (Ne.symm ntd)).trans hd3, hD3, l4.t, fun y r5 H5 hy hD5 ex5 hd5 => ?_⟩
    have l5 : Lv tb d H5 := ⟨ex5.tabs l4.t, r5, hD5, hd5⟩
    have b := mod_rg y 3 (by decide)
    obtain ⟨m, hm, ham⟩ := at_map V.int (l := [0, 64, x % 65]) b.1 b.2
    have hm64 : numTo 64 (.int m) = true := by
      have bx := mod_rg x 65 (by decide)
      have : 0 ≤ m ∧ m ≤ 64 := by
        simp only [List.mem_cons, List.not_mem_nil, or_false] at hm
        rcases hm with rfl | rfl | rfl <;> omega
      show (decide (0 ≤ m) && decide (m ≤ 64)) = true
      rw [decide_eq_true this.1, decide_eq_true this.2] <;> rfl
    refine ⟨_, _, rfl, rfl, (by show (0:Int) < 3; decide), t, ([0, 64, x % 65] : List Int).map V.int, y % 3, .int m, rfl, rfl, SqL.of (ex5.lst l4.t upd_same (by simp [ntd])), ham, ?_⟩
    have e25 := (ex3.trans e4).trans ex5
    have G1 := l1.rp (ex2.trans e25) g1
    have G2 := l2.rp e25 g2
    have e05 := (ex1.trans ex2).trans e25
    refine nm_ret ?_
    refine lst_rd (K := K) (G := Itm true) (n := 7) l5 (by decide) Ext.refl ?ga fun L us H6 nL e6 l6 hL hus hl => q L us H6 nL (e05.trans e6) l6 hL hus (by omega)
    case ga =>
      have i1 := inner_ok P1
      have v1 := fun {σ : L2.St} (h : σ[1]? = some (some (V.ref p1))) => gx_var (K := K) (i := 1) l5 G1 h
      have v2 := fun {σ : L2.St} (h : σ[2]? = some (some (V.ref p2))) => gx_var (K := K) (i := 2) l5 G2 h
      have v3 := fun {σ : L2.St} (h : σ[3]? = some (some (V.int m))) => gx_var (K := K) (i := 3) l5 (Rp.int m) h
      refine gb_cons (gx_tup (gx_cons gx_s (gx_cons (v1 rfl) gx_nil))) (it_g i1 (w_3 (by decide) _) ⟨trivial, short_p P1, trivial⟩ (.inr sh0)) ?_
      refine gb_cons (gx_tup (gx_cons gx_s (gx_cons (v1 rfl) gx_nil))) (it_g i1 (w_3 (by decide) _) ⟨trivial, short_p P1, trivial⟩ (.inr sh0)) ?_
      refine gb_consY (fun H7 e7 l7 Q7 q7 => ?_) ?_
      · obtain ⟨r7, hD7, hd7⟩ := l7.r
        refine ⟨_, rfl, _, rfl, _, rfl, d, r7, rfl, hd7, hD7, l7.t, fun ns r8 p8 H8 hb hD8 ex8 hd8 hp8 => ⟨by show 4 ≤ sizeLine; decide, fun t9 nt9 => ?_⟩⟩
        have l8 : Lv tb d H8 := ⟨ex8.tabs l7.t, r8, hD8, hd8⟩
        have e9 : Ext tb [d] H8 (upd H8 t9 (.tup [.str "put", .ref p1, .int m, .ref p8])) := Ext.new l8.t nt9
        refine q7 _ _ (ex8.trans e9) (l8.new nt9) ⟨.tuple [.str "put", pD ss, .int m, lD ns], .tup (SqT.of (l8.newE nt9)) (.cons (.str _) (.cons (l5.rp ((e7.trans ex8).trans e9) G1) (.cons (.int m) (.cons (l8.rp e9 (rp_leaf hp8 (tl_ne hp8 hd8))) .nil)))), ?_⟩
        refine it_g i1 ?_ ⟨trivial, short_p P1, trivial, short_l, trivial⟩ (.inl n3_put)
        rw [w_put]
        show (numTo 64 (.int m) && leafD (lD ns)) = true
        rw [hm64, leaf_ok hb] <;> rfl
      refine gb_cons (gx_tup (gx_cons gx_s (gx_cons (v1 rfl) (gx_cons (v3 rfl) gx_nil)))) (it_g i1 ((w_trim _).trans hm64) ⟨trivial, short_p P1, trivial, trivial⟩ (.inl n3_trim)) ?_
      refine gb_cons (gx_tup (gx_cons gx_s (gx_cons (v1 rfl) gx_nil))) (it_g i1 (w_3 (by decide) _) ⟨trivial, short_p P1, trivial⟩ (.inr sh0)) ?_
      refine gb_cons (gx_tup (gx_cons gx_s (gx_cons (v1 rfl) (gx_cons (v2 rfl) gx_nil)))) (it_g i1 ((w_move _).trans (inner_ok P2)) ⟨trivial, short_p P1, short_p P2, trivial⟩ (.inl n3_move)) ?_
      exact gb_cons (gx_tup (gx_cons gx_s (gx_cons (v1 rfl) (gx_cons (v1 rfl) gx_nil)))) (it_g i1 ((w_copy _).trans i1) ⟨trivial, short_p P1, short_p P1, trivial⟩ (.inl n3_copy)) gb_nil
end
end K09

set_option Elab.async false
set_option linter.all false
set_option maxRecDepth 100000
set_option maxHeartbeats 1000000
namespace K09
open PySem PySem.Spec PyProof.Rows L2 HK DT
section
variable {P : Program} {w : World} {K : PySem.W.Frag} {mg : Str → Option Value} {base : Heap} {f : Addr} {cd : Value} {tb : List Addr}
theorem for_disp {d : Addr} {σ : L2.St} {H H0 : Hp} {ta : TA} {n j : Nat} {bd rest : TS} {Dn : Ends} {G : PyData → Prop} (l : Lv tb d H) (hn : n ≤ 1000) (e0 : Ext tb [d] H0 H) (gb : Gb K tb d G ta σ H0 n) (Pv : Nat → L2.St → Hp → Prop)
    (h0 : ∀ H1, Ext tb [d] H H1 → Lv tb d H1 → Pv 0 σ H1)
    (hs : ∀ i u D σ' H', i < n → Ext tb [d] H H' → Lv tb d H' → Rp K (er d H') u D → G D → Pv i σ' H' → ∀ D' : Ends, (∀ σ2 H2, Ext tb [d] H' H2 → Lv tb d H2 → Pv (i + 1) σ2 H2 → D'.nx σ2 H2) → bd D' (σ'.set j (some u)) H')
    (hd : ∀ σ' H', Ext tb [d] H H' → Lv tb d H' → Pv n σ' H' → rest Dn σ' H') : tSeq (tFor (iList K (tLst ta)) (gName j) bd) rest Dn σ H := by
  unfold tSeq tFor iList
  refine lst_rd (K := K) (G := G) l hn e0 gb fun L us H1 nL e1 l1 hL hus hl => ?_
  refine ⟨L, rfl, ⟨_, SqL.of hL⟩, for_list (K := K) (a := L) (xs := us) (fun i σ' H' => Ext tb [d] H1 H' ∧ Lv tb d H' ∧ Pv i σ' H') ⟨Ext.refl, l1, h0 H1 e1 l1⟩ (fun i σ' H' _ h => SqL.of (h.1.lst l1.t hL (by simp [nL]))) ?_ ?_⟩
  · rintro i u σ' H' hu ⟨e', l', p'⟩
    obtain ⟨D, hD, hG⟩ := hus u (List.mem_of_getElem? hu)
    have hi : i < n := by
      rw [← hl]
      exact (List.getElem?_eq_some_iff.mp hu).1
    exact hs i u D σ' H' hi (e1.trans e') l' (l1.rp e' hD) hG p' _ fun σ2 H2 e2 l2 p2 => ⟨e'.trans e2, l2, p2⟩
  · rintro σ' H' ⟨e', l', p'⟩
    exact hd σ' H' (e1.trans e') l' (hl ▸ p')
theorem sh_out : shortT (.tuple [.str "out"]) := fun x hx => by
  rw [List.mem_singleton.mp hx]
  show Str.length "out" ≤ 1000
  decide +kernel
theorem sh_nl : shortT (.tuple [.list []]) := fun x hx => by
  rw [List.mem_singleton.mp hx]
  trivial
theorem s_A : Str.length "A" ≤ 1000 := by decide +kernel
theorem s_0 : Str.length "" ≤ 1000 := by decide +kernel
theorem ok_l_bad (T : Txt K mg) (F : FnAt K mg "_law_bad" s_l_bad ["_law_drawn"] f cd) (C_l_path : CalE P w K mg base CX0 2 "_law_path" (spPath tb)) (C_l_leaf : CalE P w K mg base CX0 2 "_law_leaf" (spLeaf tb)) : CalE P w K mg base CX0 3 "_law_bad" (spGB K tb false) := by
  refine F.cal sc_l_bad (fun vs H Q E h => ?_) (fun A outer s H vs Q E hr h => ?_)
  · obtain ⟨d, ds, rfl, _⟩ := h
    rfl
  · obtain ⟨d, ds, rfl, hd, hD, hT, q⟩ := h
    refine ⟨_, (pss_cons (ps_set (i := 1) sc_l_bad.nd rfl (.inl rfl) (pe_cal C_l_path (hr.mono (by first | decide | omega)) (by rfl) (pa_cons (pv 0) pa_nil)))
      (pss_cons (ps_set (i := 2) sc_l_bad.nd rfl (.inl rfl) (pe_cal C_l_leaf (hr.mono (by first | decide | omega)) (by rfl) (pa_cons (pv 0) pa_nil)))
      (pss_cons (ps_set (i := 3) sc_l_bad.nd rfl (.inl rfl) (pe_lst (pa_cons (pe_tup (pa_cons pe_str (pa_cons (pv 1) (pa_cons pe_int (pa_cons (pv 2) pa_nil))))) (pa_cons (pe_tup (pa_cons pe_str (pa_cons (pv 1) (pa_cons (pe_un un_neg pe_int) (pa_cons (pv 2) pa_nil))))) (pa_cons (pe_tup (pa_cons pe_str (pa_cons (pv 1) (pa_cons pe_bl (pa_cons (pv 2) pa_nil))))) (pa_cons (pe_tup (pa_cons pe_str (pa_cons (pv 1) (pa_cons pe_str (pa_cons (pv 2) pa_nil))))) (pa_cons (pe_tup (pa_cons pe_str (pa_cons (pv 1) (pa_cons pe_int (pa_cons (pe_callTy (q_lst (K := K) rfl) (by rfl) T.b_list (by decide +kernel) (pa_cons (pv 2) pa_nil)) pa_nil))))) (pa_cons (pe_tup (pa_cons pe_str (pa_cons (pv 1) (pa_cons pe_int (pa_cons (pe_tup (pa_cons pe_int pa_nil)) pa_nil))))) (pa_cons (pe_tup (pa_cons pe_str (pa_cons (pv 1) (pa_cons pe_int (pa_cons (pe_op (q_repT (K := K) rfl) (pe_tup (pa_cons pe_int pa_nil)) pe_int) pa_nil))))) (pa_cons (pe_tup (pa_cons pe_str (pa_cons (pv 1) (pa_cons pe_int pa_nil)))) (pa_cons (pe_tup (pa_cons pe_str (pa_cons (pv 1) (pa_cons pe_int (pa_cons (pv 2) (pa_cons (pv 2) pa_nil)))))) (pa_cons (pe_tup (pa_cons pe_str (pa_cons (pv 1) (pa_cons pe_int pa_nil)))) (pa_cons (pe_tup (pa_cons pe_str (pa_cons (pv 1) (pa_cons (pe_un un_neg pe_int) pa_nil)))) (pa_cons (pe_tup (pa_cons pe_str (pa_cons (pv 1) (pa_cons pe_bl pa_nil)))) (pa_cons (pe_tup (pa_cons pe_str (pa_cons (pv 1) pa_nil))) (pa_cons (pe_tup (pa_cons pe_str (pa_cons (pv 1) (pa_cons pe_non pa_nil)))) (pa_cons (pe_tup (pa_cons pe_str (pa_cons (pv 1) pa_nil))) (pa_cons (pe_tup (pa_cons pe_str (pa_cons (pv 1) (pa_cons (pe_tup pa_nil) pa_nil)))) (pa_cons (pe_tup (pa_cons pe_str (pa_cons (pv 1) (pa_cons (pe_callTy (q_lst (K := K) rfl) (by rfl) T.b_list (by decide +kernel) (pa_cons (pv 1) pa_nil)) pa_nil)))) (pa_cons (pe_tup (pa_cons pe_str (pa_cons (pv 1) (pa_cons (pv 1) (pa_cons (pv 1) pa_nil))))) pa_nil))))))))))))))))))))
      (pss_cons (ps_for PassesOwn.never rfl (q_piL (K := K) rfl (pe_lst (pa_cons pe_str (pa_cons pe_str (pa_cons pe_str pa_nil))))) (pg_name (i := 4) sc_l_bad.nd rfl (.inl rfl)) (pss_one (ps_set (i := 3) sc_l_bad.nd rfl (.inl rfl) (pe_op op_cat (pv 3) (pe_lst (pa_cons (pe_tup (pa_cons (pv 4) pa_nil)) (pa_cons (pe_tup (pa_cons (pv 4) (pa_cons (pe_tup pa_nil) pa_nil))) (pa_cons (pe_tup (pa_cons (pv 4) (pa_cons (pe_callTy (q_lst (K := K) rfl) (by rfl) T.b_list (by decide +kernel) (pa_cons (pv 1) pa_nil)) pa_nil))) (pa_cons (pe_tup (pa_cons (pv 4) (pa_cons (pv 1) (pa_cons (pv 1) pa_nil)))) (pa_cons (pe_lst (pa_cons (pv 4) (pa_cons (pv 1) pa_nil))) (pa_cons (pe_tup (pa_cons (pv 4) (pa_cons (pe_ix (q_ixT (K := K) rfl) (pv 1) pe_int (fun _ _ => rfl)) pa_nil))) (pa_cons (pe_tup (pa_cons (pv 4) (pa_cons (pe_slice (q_slT (K := K) rfl) (pe_op (q_repT (K := K) rfl) (pv 1) pe_int) po_none (po_some pe_int)) pa_nil))) (pa_cons (pe_tup (pa_cons (pv 4) (pa_cons (pe_op (q_catT (K := K) rfl) (pe_slice (q_slT (K := K) rfl) (pv 1) po_none (po_some pe_int)) (pe_tup (pa_cons pe_str pa_nil))) pa_nil))) (pa_cons (pe_tup (pa_cons (pv 4) (pa_cons (pe_op (q_catT (K := K) rfl) (pe_slice (q_slT (K := K) rfl) (pv 1) po_none (po_some pe_int)) (pe_tup (pa_cons pe_str pa_nil))) pa_nil))) (pa_cons (pe_tup (pa_cons (pv 4) (pa_cons pe_non pa_nil))) pa_nil)))))))))))))))
      (pss_cons (ps_for PassesOwn.never rfl (q_piL (K := K) rfl (pe_lst (pa_cons (pe_tup pa_nil) (pa_cons (pe_callTy (q_lst (K := K) rfl) (by rfl) T.b_list (by decide +kernel) (pa_cons (pv 1) pa_nil)) (pa_cons (pe_slice (q_slT (K := K) rfl) (pe_op (q_repT (K := K) rfl) (pv 1) pe_int) po_none (po_some pe_int)) (pa_cons (pe_op (q_catT (K := K) rfl) (pe_slice (q_slT (K := K) rfl) (pv 1) po_none (po_some pe_int)) (pe_tup (pa_cons pe_str pa_nil))) (pa_cons (pe_op (q_catT (K := K) rfl) (pe_slice (q_slT (K := K) rfl) (pv 1) po_none (po_some pe_int)) (pe_tup (pa_cons pe_str pa_nil))) (pa_cons pe_non (pa_cons (pe_ix (q_ixT (K := K) rfl) (pv 1) pe_int (fun _ _ => rfl)) pa_nil))))))))) (pg_name (i := 5) sc_l_bad.nd rfl (.inl rfl)) (pss_cons (ps_set (i := 3) sc_l_bad.nd rfl (.inl rfl) (pe_op op_cat (pv 3) (pe_lst (pa_cons (pe_tup (pa_cons pe_str (pa_cons (pv 5) (pa_cons pe_int (pa_cons (pv 2) pa_nil))))) (pa_cons (pe_tup (pa_cons pe_str (pa_cons (pv 5) (pa_cons pe_int pa_nil)))) (pa_cons (pe_tup (pa_cons pe_str (pa_cons (pv 5) (pa_cons (pv 1) pa_nil)))) (pa_cons (pe_tup (pa_cons pe_str (pa_cons (pv 5) (pa_cons (pv 1) pa_nil)))) pa_nil)))))))
      (pss_one (ps_set (i := 3) sc_l_bad.nd rfl (.inl rfl) (pe_op op_cat (pv 3) (pe_lst (pa_cons (pe_tup (pa_cons pe_str (pa_cons (pv 1) (pa_cons (pv 5) pa_nil)))) (pa_cons (pe_tup (pa_cons pe_str (pa_cons (pv 1) (pa_cons (pv 5) pa_nil)))) pa_nil))))))))
      (pss_cons (ps_set (i := 3) sc_l_bad.nd rfl (.inl rfl) (pe_op op_cat (pv 3) (pe_lst (pa_cons (pe_tup (pa_cons (pe_lst pa_nil) (pa_cons (pv 1) pa_nil))) (pa_cons (pe_tup (pa_cons pe_dnewK (pa_cons (pv 1) pa_nil))) (pa_cons (pe_tup (pa_cons (pe_tup (pa_cons pe_str pa_nil)) (pa_cons (pv 1) pa_nil))) (pa_cons (pe_tup (pa_cons pe_str (pa_cons (pe_lst (pa_cons (pv 1) pa_nil)) pa_nil))) (pa_cons (pe_tup (pa_cons pe_str (pa_cons (pe_tup (pa_cons (pe_lst pa_nil) pa_nil)) pa_nil))) pa_nil))))))))
      (pss_one (ps_ret (pe_op op_cat (pv 3) (pe_lst (pa_cons (pe_tup (pa_cons pe_str (pa_cons (pv 1) pa_nil))) (pa_cons (pe_tup (pa_cons pe_int (pa_cons (pv 1) pa_nil))) (pa_cons (pe_tup (pa_cons pe_non pa_nil)) (pa_cons (pe_tup pa_nil) (pa_cons pe_non (pa_cons pe_bl (pa_cons pe_int (pa_cons pe_str (pa_cons (pe_tup (pa_cons pe_str pa_nil)) (pa_cons (pv 1) (pa_cons pe_dnewK (pa_cons (pe_lst pa_nil) pa_nil)))))))))))))))))))))), ?_⟩
    refine ⟨_, rfl, d, ds, rfl, hd, hD, hT, fun ss r1 p1 H1 a1 a2 a3 hD1 ex1 hd1 hp1 => ?_⟩
    have P1 : Pth ss := ⟨a1, a2, a3⟩
    have hT1 := ex1.tabs hT
    have l1 : Lv tb d H1 := ⟨hT1, r1, hD1, hd1⟩
    have g1 : Rp K (er d H1) (.ref p1) (pD ss) := rp_path hp1 (tl_ne hp1 hd1)
    refine ⟨_, rfl, d, r1, rfl, hd1, hD1, hT1, fun ns r2 p2 H2 hb hD2 ex2 hd2 hp2 => ?_⟩
    have hT2 := ex2.tabs hT1
    have l2 : Lv tb d H2 := ⟨hT2, r2, hD2, hd2⟩
    have G2 : Rp K (er d H2) (.ref p2) (lD ns) := rp_leaf hp2 (tl_ne hp2 hd2)
    have G1 := l1.rp ex2 g1
    have e02 := ex1.trans ex2
    have sp := short_p P1
    have lss : (ss.map PyData.str).length ≤ 6 := by rw [List.length_map]; exact a2
    have lt5 : ((ss.map PyData.str).take 5).length + 1 ≤ 1000 := by rw [List.length_take]; omega
    have nes : ss.map PyData.str ≠ [] := fun z => by
      have := congrArg List.length z
      rw [List.length_map] at this
      simp at this
      rw [this] at a1
      cases a1
    obtain ⟨s0, sr, hss⟩ : ∃ s0 sr, ss = s0 :: sr := by
      cases ss with
      | nil => cases a1
      | cons s0 sr => exact ⟨_, _, rfl⟩
    have v1 := fun {σ : L2.St} (h : σ[1]? = some (some (V.ref p1))) => gx_var (K := K) (i := 1) l2 G1 h
    have v2 := fun {σ : L2.St} (h : σ[2]? = some (some (V.ref p2))) => gx_var (K := K) (i := 2) l2 G2 h
    have v0 := fun {σ : L2.St} (h : σ[1]? = some (some (V.ref p1))) => gx_ix0 (K := K) (d := d) (tb := tb) (c := .str s0) (cs := sr.map PyData.str) (H := H2) (show Gx K tb d (tVar 1) σ H2 (pD (s0 :: sr)) by rw [← hss]; exact v1 h)
    have vl := fun {σ : L2.St} (h : σ[1]? = some (some (V.ref p1))) => gx_list (v1 h)
    have v7 := fun {σ : L2.St} (h : σ[1]? = some (some (V.ref p1))) => gx_cut (i := 7) 7 (gx_rep (k := 7) (v1 h) nes (by omega) (by decide) (by decide))
    have vz := fun {σ : L2.St} (z : Str) (h : σ[1]? = some (some (V.ref p1))) => gx_cat (gx_cut (i := 5) 5 (v1 h)) (gx_tup (gx_cons (gx_s (s := z)) gx_nil)) lt5
    have N7 := np_7 P1
    have NA := np_x P1 no_A s_A
    have N0 := np_x P1 no_0 s_0
    -- found
    refine nm_asg ?_
    refine lst_rd (K := K) (G := Itm false) (n := 18) l2 (by decide) Ext.refl ?ga fun L us H3 nL e3 l3 hL hus hl => ?_
    case ga =>
      refine gb_cons (gx_tup (gx_cons gx_s (gx_cons (v1 rfl) (gx_cons gx_i (gx_cons (v2 rfl) gx_nil))))) (it_w ((w_put _).trans rfl) ⟨trivial, sp, trivial, short_l, trivial⟩ (.inl n3_put)) ?_
      refine gb_cons (gx_tup (gx_cons gx_s (gx_cons (v1 rfl) (gx_cons gx_neg (gx_cons (v2 rfl) gx_nil))))) (it_w ((w_put _).trans rfl) ⟨trivial, sp, trivial, short_l, trivial⟩ (.inl n3_put)) ?_
      refine gb_cons (gx_tup (gx_cons gx_s (gx_cons (v1 rfl) (gx_cons gx_b (gx_cons (v2 rfl) gx_nil))))) (it_w ((w_put _).trans rfl) ⟨trivial, sp, trivial, short_l, trivial⟩ (.inl n3_put)) ?_
      refine gb_cons (gx_tup (gx_cons gx_s (gx_cons (v1 rfl) (gx_cons gx_s (gx_cons (v2 rfl) gx_nil))))) (it_w ((w_put _).trans rfl) ⟨trivial, sp, trivial, short_l, trivial⟩ (.inl n3_put)) ?_
      refine gb_cons (gx_tup (gx_cons gx_s (gx_cons (v1 rfl) (gx_cons gx_i (gx_cons (gx_list (v2 rfl)) gx_nil))))) (it_w ((w_put _).trans rfl) ⟨trivial, sp, trivial, trivial, trivial⟩ (.inl n3_put)) ?_
      refine gb_cons (gx_tup (gx_cons gx_s (gx_cons (v1 rfl) (gx_cons gx_i (gx_cons (gx_tup (gx_cons gx_i gx_nil)) gx_nil))))) (it_w ((w_put _).trans rfl) ⟨trivial, sp, trivial, short_l (ns := [256]), trivial⟩ (.inl n3_put)) ?_
      refine gb_cons (gx_tup (gx_cons gx_s (gx_cons (v1 rfl) (gx_cons gx_i (gx_cons (gx_rep (gx_tup (gx_cons gx_i gx_nil)) (by simp) (by decide) (by decide) (by decide)) gx_nil))))) (it_w ((w_put _).trans rfl) ⟨trivial, sp, trivial, short_l (ns := List.replicate 9 1), trivial⟩ (.inl n3_put)) ?_
      refine gb_cons (gx_tup (gx_cons gx_s (gx_cons (v1 rfl) (gx_cons gx_i gx_nil)))) (it_w ((w_put _).trans rfl) ⟨trivial, sp, trivial, trivial⟩ (.inl n3_put)) ?_
      refine gb_cons (gx_tup (gx_cons gx_s (gx_cons (v1 rfl) (gx_cons gx_i (gx_cons (v2 rfl) (gx_cons (v2 rfl) gx_nil)))))) (it_w ((w_put _).trans rfl) ⟨trivial, sp, trivial, short_l, short_l, trivial⟩ (.inl n3_put)) ?_
      refine gb_cons (gx_tup (gx_cons gx_s (gx_cons (v1 rfl) (gx_cons gx_i gx_nil)))) (it_w ((w_trim _).trans rfl) ⟨trivial, sp, trivial, trivial⟩ (.inl n3_trim)) ?_
      refine gb_cons (gx_tup (gx_cons gx_s (gx_cons (v1 rfl) (gx_cons gx_neg gx_nil)))) (it_w ((w_trim _).trans rfl) ⟨trivial, sp, trivial, trivial⟩ (.inl n3_trim)) ?_
      refine gb_cons (gx_tup (gx_cons gx_s (gx_cons (v1 rfl) (gx_cons gx_b gx_nil)))) (it_w ((w_trim _).trans rfl) ⟨trivial, sp, trivial, trivial⟩ (.inl n3_trim)) ?_
      refine gb_cons (gx_tup (gx_cons gx_s (gx_cons (v1 rfl) gx_nil))) (it_w ((w_trim _).trans rfl) ⟨trivial, sp, trivial⟩ (.inl n3_trim)) ?_
      refine gb_cons (gx_tup (gx_cons gx_s (gx_cons (v1 rfl) (gx_cons gx_n gx_nil)))) (it_w ((w_trim _).trans rfl) ⟨trivial, sp, trivial, trivial⟩ (.inl n3_trim)) ?_
      refine gb_cons (gx_tup (gx_cons gx_s (gx_cons (v1 rfl) gx_nil))) (it_w ((w_move _).trans rfl) ⟨trivial, sp, trivial⟩ (.inl n3_move)) ?_
      refine gb_cons (gx_tup (gx_cons gx_s (gx_cons (v1 rfl) (gx_cons (gx_tup gx_nil) gx_nil)))) (it_w ((w_move _).trans rfl) ⟨trivial, sp, np_0.2, trivial⟩ (.inl n3_move)) ?_
      refine gb_cons (gx_tup (gx_cons gx_s (gx_cons (v1 rfl) (gx_cons (vl rfl) gx_nil)))) (it_w ((w_copy _).trans rfl) ⟨trivial, sp, trivial, trivial⟩ (.inl n3_copy)) ?_
      exact gb_cons (gx_tup (gx_cons gx_s (gx_cons (v1 rfl) (gx_cons (v1 rfl) (gx_cons (v1 rfl) gx_nil))))) (it_w ((w_copy _).trans rfl) ⟨trivial, sp, sp, sp, trivial⟩ (.inl n3_copy)) gb_nil
    -- for word in [..]
    refine for_disp (K := K) (G := fun D => ∃ z ∈ w3, D = .str z) (n := 3) l3 (by decide) Ext.refl (gb_cons gx_s ⟨_, by decide, rfl⟩ (gb_cons gx_s ⟨_, by decide, rfl⟩ (gb_cons gx_s ⟨_, by decide, rfl⟩ gb_nil)))
      (fun i σ' H' => ∃ L vs y4 y5, σ' = [some (.ref d), some (.ref p1), some (.ref p2), some (.ref L), y4, y5] ∧ L ≠ d ∧ H' L = some (.lst vs) ∧ AllG K d (Itm false) H' vs ∧ vs.length = 18 + 10 * i) ?_ ?_ ?_
    · intro H4 e4 l4
      exact ⟨L, us, _, _, rfl, nL, e4.lst l3.t hL (by simp [nL]), hus.ext l3 e4, hl⟩
    · rintro i u D σ' H' hi e' l' hu ⟨z, hz, rfl⟩ ⟨L', vs', y4, y5, rfl, nL', hL', hvs', hl'⟩ D' hD'
      cases hu
      have hlen : vs'.length ≤ 1000 := by omega
      refine asg_one ?_
      refine catl_rd (K := K) (n := 10) l' nL' hL' hvs' rfl hlen (by decide) (e3.trans e') ?ga2 fun L2 vs2 H5 nL2 e5 l5 hL2 hvs2 hl2 => hD' _ _ e5 l5 ⟨L2, vs2, _, _, rfl, nL2, hL2, hvs2, by omega⟩
      case ga2 =>
        have vw : Gx K tb d (tVar 4) [some (.ref d), some (.ref p1), some (.ref p2), some (.ref L'), some (.str z), y5] H2 (.str z) := gx_var l2 (.str z) rfl
        refine gb_cons (gx_tup (gx_cons vw gx_nil)) (it_1 trivial) ?_
        refine gb_cons (gx_tup (gx_cons vw (gx_cons (gx_tup gx_nil) gx_nil))) (it_p np_0.1 ⟨trivial, np_0.2, trivial⟩ (.inr sh0)) ?_
        refine gb_cons (gx_tup (gx_cons vw (gx_cons (vl rfl) gx_nil))) (it_p np_l.1 ⟨trivial, np_l.2, trivial⟩ (.inr sh0)) ?_
        refine gb_cons (gx_tup (gx_cons vw (gx_cons (v1 rfl) (gx_cons (v1 rfl) gx_nil)))) (it_w ((w_3 hz _).trans rfl) ⟨trivial, sp, sp, trivial⟩ (.inr (sh1 P1))) ?_
        refine gb_cons (gx_lst (gx_cons vw (gx_cons (v1 rfl) gx_nil))) (it_nt rfl) ?_
        refine gb_cons (gx_tup (gx_cons vw (gx_cons (v0 rfl) gx_nil))) (it_p np_s.1 ⟨trivial, np_s.2, trivial⟩ (.inr sh0)) ?_
        refine gb_cons (gx_tup (gx_cons vw (gx_cons (v7 rfl) gx_nil))) (it_p N7.1 ⟨trivial, N7.2, trivial⟩ (.inr sh0)) ?_
        refine gb_cons (gx_tup (gx_cons vw (gx_cons (vz "A" rfl) gx_nil))) (it_p NA.1 ⟨trivial, NA.2, trivial⟩ (.inr sh0)) ?_
        refine gb_cons (gx_tup (gx_cons vw (gx_cons (vz "" rfl) gx_nil))) (it_p N0.1 ⟨trivial, N0.2, trivial⟩ (.inr sh0)) ?_
        exact gb_cons (gx_tup (gx_cons vw (gx_cons gx_n gx_nil))) (it_p np_n.1 ⟨trivial, np_n.2, trivial⟩ (.inr sh0)) gb_nil
    rintro σ6 H6 e6 l6 ⟨L6, vs6, y4, y5, rfl, nL6, hL6, hvs6, hl6⟩
    have e26 := e3.trans e6
    -- for one in [..]
    refine for_disp (K := K) (G := NoP) (n := 7) l6 (by decide) e26 (gb_cons (gx_tup gx_nil) np_0 (gb_cons (vl rfl) np_l (gb_cons (v7 rfl) N7 (gb_cons (vz "A" rfl) NA (gb_cons (vz "" rfl) N0 (gb_cons gx_n np_n (gb_cons (v0 rfl) np_s gb_nil)))))))
      (fun i σ' H' => ∃ L vs y4 y5, σ' = [some (.ref d), some (.ref p1), some (.ref p2), some (.ref L), y4, y5] ∧ L ≠ d ∧ H' L = some (.lst vs) ∧ AllG K d (Itm false) H' vs ∧ vs.length = 48 + 6 * i) ?_ ?_ ?_
    · intro H4 e4 l4
      exact ⟨L6, vs6, _, _, rfl, nL6, e4.lst l6.t hL6 (by simp [nL6]), hvs6.ext l6 e4, hl6⟩
    · rintro i u D σ' H' hi e' l' hu hN ⟨L', vs', y4, y5, rfl, nL', hL', hvs', hl'⟩ D' hD'
      have hlen : vs'.length ≤ 900 := by omega
      have vw : ∀ L', Gx K tb d (tVar 5) [some (.ref d), some (.ref p1), some (.ref p2), some (.ref L'), y4, some u] H' D := fun L' => gx_var l' hu rfl
      have e2' := e26.trans e'
      have w1 := fun {σ : L2.St} (h : σ[1]? = some (some (V.ref p1))) => gx_var (K := K) (i := 1) l' (l2.rp e2' G1) h
      have w2 := fun {σ : L2.St} (h : σ[2]? = some (some (V.ref p2))) => gx_var (K := K) (i := 2) l' (l2.rp e2' G2) h
      refine asg_use ?_
      refine catl_rd (K := K) (n := 4) l' nL' hL' hvs' rfl (by omega) (by decide) Ext.refl ?ga3 fun L3 vs3 H5 nL3 e5 l5 hL3 hvs3 hl3 => ?_
      case ga3 =>
        refine gb_cons (gx_tup (gx_cons gx_s (gx_cons (vw _) (gx_cons gx_i (gx_cons (w2 rfl) gx_nil))))) (it_p hN.1 ⟨trivial, hN.2, trivial, short_l, trivial⟩ (.inl n3_put)) ?_
        refine gb_cons (gx_tup (gx_cons gx_s (gx_cons (vw _) (gx_cons gx_i gx_nil)))) (it_p hN.1 ⟨trivial, hN.2, trivial, trivial⟩ (.inl n3_trim)) ?_
        refine gb_cons (gx_tup (gx_cons gx_s (gx_cons (vw _) (gx_cons (w1 rfl) gx_nil)))) (it_p hN.1 ⟨trivial, hN.2, sp, trivial⟩ (.inl n3_move)) ?_
        exact gb_cons (gx_tup (gx_cons gx_s (gx_cons (vw _) (gx_cons (w1 rfl) gx_nil)))) (it_p hN.1 ⟨trivial, hN.2, sp, trivial⟩ (.inl n3_copy)) gb_nil
      refine asg_one ?_
      refine catl_rd (K := K) (n := 2) l5 nL3 hL3 hvs3 rfl (by omega) (by decide) e5 ?ga4 fun L4 vs4 H7 nL4 e7 l7 hL4 hvs4 hl4 => hD' _ _ (e5.trans e7) l7 ⟨L4, vs4, _, _, rfl, nL4, hL4, hvs4, by omega⟩
      case ga4 =>
        refine gb_cons (gx_tup (gx_cons gx_s (gx_cons (w1 rfl) (gx_cons (vw _) gx_nil)))) (it_w ((w_move _).trans hN.1) ⟨trivial, sp, hN.2, trivial⟩ (.inl n3_move)) ?_
        exact gb_cons (gx_tup (gx_cons gx_s (gx_cons (w1 rfl) (gx_cons (vw _) gx_nil)))) (it_w ((w_copy _).trans hN.1) ⟨trivial, sp, hN.2, trivial⟩ (.inl n3_copy)) gb_nil
    rintro σ8 H8 e8 l8 ⟨L8, vs8, z4, z5, rfl, nL8, hL8, hvs8, hl8⟩
    have e28 := e26.trans e8
    refine asg_use ?_
    refine catl_rd (K := K) (n := 5) l8 nL8 hL8 hvs8 rfl (by omega) (by decide) e28 ?ga5 fun L9 vs9 H9 nL9 e9 l9 hL9 hvs9 hl9 => ?_
    case ga5 =>
      refine gb_cons (gx_tup (gx_cons (gx_lst gx_nil) (gx_cons (v1 rfl) gx_nil))) (it_w rfl ⟨trivial, sp, trivial⟩ (.inl rfl)) ?_
      refine gb_cons (gx_tup (gx_cons gx_dict (gx_cons (v1 rfl) gx_nil))) (it_w rfl ⟨trivial, sp, trivial⟩ (.inl rfl)) ?_
      refine gb_cons (gx_tup (gx_cons (gx_tup (gx_cons gx_s gx_nil)) (gx_cons (v1 rfl) gx_nil))) (it_w rfl ⟨sh_out, sp, trivial⟩ (.inl rfl)) ?_
      refine gb_cons (gx_tup (gx_cons gx_s (gx_cons (gx_lst (gx_cons (v1 rfl) gx_nil)) gx_nil))) (it_p np_l.1 ⟨trivial, np_l.2, trivial⟩ (.inr sh0)) ?_
      exact gb_cons (gx_tup (gx_cons gx_s (gx_cons (gx_tup (gx_cons (gx_lst gx_nil) gx_nil)) gx_nil))) (it_p rfl ⟨trivial, sh_nl, trivial⟩ (.inr sh0)) gb_nil
    refine ret_use ?_
    refine catl_rd (K := K) (n := 12) l9 nL9 hL9 hvs9 rfl (by omega) (by decide) (e28.trans e9) ?ga6 fun LZ vsZ HZ nLZ eZ lZ hLZ hvsZ hlZ => q LZ vsZ HZ nLZ (((e02.trans e28).trans e9).trans eZ) lZ hLZ hvsZ (by omega)
    case ga6 =>
      refine gb_cons (gx_tup (gx_cons gx_s (gx_cons (v1 rfl) gx_nil))) (it_w (w_paint _) ⟨trivial, sp, trivial⟩ (.inl n3_paint)) ?_
      refine gb_cons (gx_tup (gx_cons gx_i (gx_cons (v1 rfl) gx_nil))) (it_w rfl ⟨trivial, sp, trivial⟩ (.inl rfl)) ?_
      refine gb_cons (gx_tup (gx_cons gx_n gx_nil)) (it_1 trivial) ?_
      refine gb_cons (gx_tup gx_nil) it_0 ?_
      refine gb_cons gx_n (it_nt rfl) ?_
      refine gb_cons gx_b (it_nt rfl) ?_
      refine gb_cons gx_i (it_nt rfl) ?_
      refine gb_cons gx_s (it_nt rfl) ?_
      refine gb_cons (gx_tup (gx_cons gx_s gx_nil)) (it_1 trivial) ?_
      refine gb_cons (v1 rfl) (it_path P1) ?_
      refine gb_cons gx_dict (it_nt rfl) ?_
      exact gb_cons (gx_lst gx_nil) (it_nt rfl) gb_nil
end
end K09

set_option Elab.async false
set_option linter.all false
set_option maxRecDepth 100000
set_option maxHeartbeats 1000000
namespace K09
open PySem PySem.Spec PyProof.Rows L2 HK DT
section
variable {P : Program} {w : World} {K : PySem.W.Frag} {mg : Str → Option Value} {base : Heap} {f : Addr} {cd : Value} {tb : List Addr}
theorem op_use {r : R2} {ta te : TE} {σ : L2.St} {H : Hp} {Q : VK} (h : ta σ H fun x H1 => te σ H1 fun y H2 => r x y H2 Q) : tOp r ta te σ H Q := h
theorem rep_snoc (i : Nat) : (List.replicate i true).map V.bl ++ [V.bl true] = (List.replicate (i + 1) true).map V.bl := by
  rw [List.replicate_succ', List.map_append] <;> rfl
theorem rep_all (n : Nat) : (List.replicate n true).all id = true := by
  rw [List.all_eq_true]
  intro b hb
  rw [(List.mem_replicate.mp hb).2] <;> rfl
def spLaw (K : PySem.W.Frag) (tb : List Addr) : Sp := fun vs H Q _ => ∃ (a : Addr) (ns : List Int), vs = [.ref a] ∧ SqL K H a (ns.map V.int) ∧ ns.length ≤ 63 ∧ Tabs tb H ∧ ∀ H', Q (.bl true) H'
theorem ok_law (T : Txt K mg) (C_l_draws : CalE P w K mg base CX0 2 "_law_draws" (spDraws K tb)) (C_l_next : CalE P w K mg base CX0 1 "_law_next" (spNext tb)) (C_l_good : CalE P w K mg base CX0 3 "_law_good" (spGB K tb true)) (C_l_bad : CalE P w K mg base CX0 3 "_law_bad" (spGB K tb false)) (C_is_deed : CalE P w K mg base CX0 5 "is_deed" (spDeed K tb)) (C_l_refused : CalE P w K mg base CX0 7 "_law_refused" (spRefused K tb)) :
    FnG P w K mg base CX0 8 "law" s_law ["_law_script"] f cd (spLaw K tb) := by
  refine law_of sc_law (fun vs H Q E h => ?_) (fun A outer s H vs Q E hr h => ?_)
  · obtain ⟨a, ns, rfl, _⟩ := h
    rfl
  · obtain ⟨a, ns0, rfl, hS, hl, hT, q⟩ := h
    refine ⟨_, (pss_cons (ps_set (i := 1) sc_law.nd rfl (.inl rfl) (pe_cal C_l_draws (hr.mono (by first | decide | omega)) (by rfl) (pa_cons (pv 0) pa_nil)))
      (pss_cons (ps_set (i := 2) sc_law.nd rfl (.inr rfl) (pe_ix (q_ixL (K := K) rfl) (pe_lst (pa_cons (pe_tup (pa_cons pe_str (pa_cons (pe_tup pa_nil) pa_nil))) (pa_cons (pe_tup (pa_cons pe_str (pa_cons (pe_tup (pa_cons (pe_tup (pa_cons pe_str (pa_cons (pe_tup (pa_cons pe_str (pa_cons (pe_tup (pa_cons (pe_tup (pa_cons pe_int pa_nil)) pa_nil)) pa_nil))) pa_nil))) pa_nil)) pa_nil))) pa_nil))) (pe_op op_mod (pe_cal C_l_next (hr.mono (by first | decide | omega)) (by rfl) (pa_cons (pv 1) pa_nil)) pe_int) (fun _ _ => rfl)))
      (pss_cons (ps_if (pt_not (pt_val (pe_callB (q_all (K := K) rfl rfl) (by rfl) T.b_all (by decide +kernel) (pa_cons (pe_lc (own := [("_law_one", 3)]) (g := gName 3) (tt := tYes) (by rfl) sc_law.nd (q_piL (K := K) rfl (pe_cal C_l_good (hr.mono (by first | decide | omega)) (by rfl) (pa_cons (pv 1) pa_nil))) (blkOk_by (own := [("_law_one", 3)]) (N := n_law) (sc := defScope s_law) (by decide +kernel)) (fun _ _ _ _ _ => (pg_name (i := 3) sc_law.nd rfl (.inl rfl))) (fun _ _ _ _ _ => pts_nil) (fun _ _ _ _ _ => (pe_cmpR op_isBl (pe_cal C_is_deed (hr.mono (by first | decide | omega)) (by rfl) (pa_cons (pv 3) pa_nil)) pe_bl (nomark _)))) pa_nil)))) (pss_one (ps_ret pe_bl)) pss_nil)
      (pss_one (ps_ret (pe_callB (q_all (K := K) rfl rfl) (by rfl) T.b_all (by decide +kernel) (pa_cons (pe_lc (own := [("_law_one", 3)]) (g := gName 3) (tt := tYes) (by rfl) sc_law.nd (q_piL (K := K) rfl (pe_cal C_l_bad (hr.mono (by first | decide | omega)) (by rfl) (pa_cons (pv 1) pa_nil))) (blkOk_by (own := [("_law_one", 3)]) (N := n_law) (sc := defScope s_law) (by decide +kernel)) (fun _ _ _ _ _ => (pg_name (i := 3) sc_law.nd rfl (.inl rfl))) (fun _ _ _ _ _ => pts_nil) (fun _ _ _ _ _ => (pe_and (pe_cmpR op_isBl (pe_cal C_is_deed (hr.mono (by first | decide | omega)) (by rfl) (pa_cons (pv 3) pa_nil)) pe_bl (nomark _)) (pe_one (pe_cal C_l_refused (hr.mono (by first | decide | omega)) (by rfl) (pa_cons (pv 2) (pa_cons (pv 3) pa_nil))))))) pa_nil))))))), ?_⟩
    refine ⟨_, rfl, a, ns0, rfl, hS, hl, hT, fun H1 d ds ex1 nd hD hd1 => ?_⟩
    have hT1 := ex1.tabs hT
    have l1 : Lv tb d H1 := ⟨hT1, ds, hD, hd1⟩
    refine nm_asg ?_
    refine op_use ?_
    refine lst_rd (K := K) (G := fun _ => True) (n := 2) l1 (by decide) Ext.refl ?ga fun LV uv H2 nLV e2 l2 hLV huv hlv => ?_
    case ga =>
      exact gb_cons (gx_tup (gx_cons gx_s (gx_cons (gx_tup gx_nil) gx_nil))) trivial (gb_cons (gx_tup (gx_cons gx_s (gx_cons (gx_tup (gx_cons (gx_tup (gx_cons gx_s (gx_cons (gx_tup (gx_cons gx_s (gx_cons (gx_tup (gx_cons (gx_tup (gx_cons gx_i gx_nil)) gx_nil)) gx_nil))) gx_nil))) gx_nil)) gx_nil))) trivial gb_nil)
    obtain ⟨r2, hD2, hd2⟩ := l2.r
    refine ⟨_, rfl, d, r2, rfl, hd2, hD2, l2.t, fun x r3 H3 hx hD3 ex3 hd3 => ?_⟩
    have l3 : Lv tb d H3 := ⟨ex3.tabs l2.t, r3, hD3, hd3⟩
    have b := mod_rg x 2 (by decide)
    obtain ⟨uu, _, hau⟩ := at_map id (l := uv) b.1 (by rw [hlv]; exact b.2)
    rw [List.map_id] at hau
    refine ⟨_, _, rfl, rfl, (by show (0:Int) < 2; decide), LV, uv, x % 2, uu, rfl, rfl, SqL.of (ex3.lst l2.t hLV (by simp [nLV])), hau, ?_⟩
    -- the good ones
    refine ⟨_, rfl, d, r3, rfl, hd3, hD3, l3.t, fun L us H4 nL e4 l4 hL hus hlen => ?_⟩
    refine ⟨L, rfl, ⟨_, SqL.of hL⟩, fun D nD => ?_⟩
    refine lc_list (K := K) (a := L) (xs := us) (fun i H5 => Ext tb [] H4 H5 ∧ H5 D = some (.lst ((List.replicate i true).map V.bl))) ⟨Ext.new l4.t nD, upd_same⟩ (fun i H5 _ h => SqL.of (h.1.lst l4.t hL (by simp))) ?_ ?_
    · rintro i u H5 hu ⟨e5, hD5⟩
      obtain ⟨Da, hDa, hok, hdd⟩ := hus u (List.mem_of_getElem? hu)
      have hT5 := e5.tabs l4.t
      have hu5 : Rp K H5 u Da := Rp_ext e5 l4.t Da (Rp_ext er_un l4.te Da hDa)
      have hi : i < us.length := (List.getElem?_eq_some_iff.mp hu).1
      refine ⟨rfl, _, rfl, u, Da, rfl, hu5, hok, hT5, fun H6 e6 => ⟨_, _, rfl, rfl, ?_⟩⟩
      have hD6 := e6.lst hT5 hD5 (by simp)
      refine ⟨_, hD6, line_lt (by rw [List.length_map, List.length_replicate]; omega), Ext.own l4.t (e5.trans e6) nD, ?_⟩
      rw [hdd, upd_same, ← rep_snoc] <;> rfl
    rintro H5 ⟨e5, hD5⟩
    refine ⟨D, _, rfl, SqL.of hD5, _, rfl, ?_⟩
    rw [rep_all]
    refine iteF ?_
    have l5 := l4.ext0 e5
    obtain ⟨r5, hDr5, hd5⟩ := l5.r
    -- the bad ones
    refine ⟨_, rfl, d, r5, rfl, hd5, hDr5, l5.t, fun L2 us2 H6 nL2 e6 l6 hL2 hus2 hlen2 => ?_⟩
    refine ⟨L2, rfl, ⟨_, SqL.of hL2⟩, fun D2 nD2 => ?_⟩
    refine lc_list (K := K) (a := L2) (xs := us2) (fun i H7 => Ext tb [] H6 H7 ∧ H7 D2 = some (.lst ((List.replicate i true).map V.bl))) ⟨Ext.new l6.t nD2, upd_same⟩ (fun i H7 _ h => SqL.of (h.1.lst l6.t hL2 (by simp))) ?_ ?_
    · rintro i u H7 hu ⟨e7, hD7⟩
      obtain ⟨Da, hDa, hok, hdd⟩ := hus2 u (List.mem_of_getElem? hu)
      have hT7 := e7.tabs l6.t
      have hu7 : Rp K H7 u Da := Rp_ext e7 l6.t Da (Rp_ext er_un l6.te Da hDa)
      have hi : i < us2.length := (List.getElem?_eq_some_iff.mp hu).1
      refine ⟨rfl, _, rfl, u, Da, rfl, hu7, hok, hT7, fun H8 e8 => ⟨_, _, rfl, rfl, _, rfl, ?_⟩⟩
      rw [hdd]
      refine iteT ?_
      have hT8 := e8.tabs hT7
      refine ⟨_, rfl, _, rfl, _, u, Da, rfl, Rp_ext e8 hT7 Da hu7, hok, hdd, hT8, fun H9 e9 => ?_⟩
      have hD9 := (e8.trans e9).lst hT7 hD7 (by simp)
      refine ⟨_, hD9, line_lt (by rw [List.length_map, List.length_replicate]; omega), Ext.own l6.t ((e7.trans e8).trans e9) nD2, ?_⟩
      rw [upd_same, ← rep_snoc] <;> rfl
    rintro H7 ⟨e7, hD7⟩
    refine ⟨D2, _, rfl, SqL.of hD7, ?_⟩
    rw [rep_all]
    exact q _
end
end K09

set_option Elab.async false
set_option linter.all false
set_option maxRecDepth 100000
set_option maxHeartbeats 4000000
namespace K09
open PySem PySem.Spec PyProof.Rows L2 HK DT
/-! ### the end -/
theorem all_mk {l : PySem.W.OpenLaw} {w : World} {K : PySem.W.Frag} {h : Heap} {mg : Str → Option Value} {fa : Addr} {q : Program} (X : K.In h) (G : h.Ns mainGlobals mg) (hfa : mg "law" = some (.ref fa)) (tabs : TabAt K mg h q)
    {f_is_number : Addr} {oc_is_number : Value} {od_is_number an_is_number : Option Addr} {kV_is_number dc_is_number pm_is_number ct_is_number : Value} {sl_is_number : Array (Option Value)}
    {cd_is_number : Value}
    {f_is_number_to : Addr} {oc_is_number_to : Value} {od_is_number_to an_is_number_to : Option Addr} {kV_is_number_to dc_is_number_to pm_is_number_to ct_is_number_to : Value} {sl_is_number_to : Array (Option Value)}
    {cd_is_number_to : Value}
    {f_is_name : Addr} {oc_is_name : Value} {od_is_name an_is_name : Option Addr} {kV_is_name dc_is_name pm_is_name ct_is_name : Value} {sl_is_name : Array (Option Value)}
    {cc_is_name pt_is_name : Addr} {ec_is_name : Value} {ed_is_name : Option Addr} {ev_is_name : Array Value} {es_is_name : Array (Option Value)}
    {f_is_path : Addr} {oc_is_path : Value} {od_is_path an_is_path : Option Addr} {kV_is_path dc_is_path pm_is_path ct_is_path : Value} {sl_is_path : Array (Option Value)}
    {cc_is_path pt_is_path : Addr} {ec_is_path : Value} {ed_is_path : Option Addr} {ev_is_path : Array Value} {es_is_path : Array (Option Value)}
    {f_is_leaf : Addr} {oc_is_leaf : Value} {od_is_leaf an_is_leaf : Option Addr} {kV_is_leaf dc_is_leaf pm_is_leaf ct_is_leaf : Value} {sl_is_leaf : Array (Option Value)}
    {cc_is_leaf pt_is_leaf : Addr} {ec_is_leaf : Value} {ed_is_leaf : Option Addr} {ev_is_leaf : Array Value} {es_is_leaf : Array (Option Value)}
    {f_is_deed : Addr} {oc_is_deed : Value} {od_is_deed an_is_deed : Option Addr} {kV_is_deed dc_is_deed pm_is_deed ct_is_deed : Value} {sl_is_deed : Array (Option Value)}
    {cd_is_deed : Value}
    {f_is_inner_path : Addr} {oc_is_inner_path : Value} {od_is_inner_path an_is_inner_path : Option Addr} {kV_is_inner_path dc_is_inner_path pm_is_inner_path ct_is_inner_path : Value} {sl_is_inner_path : Array (Option Value)}
    {cd_is_inner_path : Value}
    {f_done : Addr} {oc_done : Value} {od_done an_done : Option Addr} {kV_done dc_done pm_done ct_done : Value} {sl_done : Array (Option Value)}
    {cd_done : Value}
    {f_l_mixed : Addr} {oc_l_mixed : Value} {od_l_mixed an_l_mixed : Option Addr} {kV_l_mixed dc_l_mixed pm_l_mixed ct_l_mixed : Value} {sl_l_mixed : Array (Option Value)}
    {cd_l_mixed : Value}
    {f_l_draws : Addr} {oc_l_draws : Value} {od_l_draws an_l_draws : Option Addr} {kV_l_draws dc_l_draws pm_l_draws ct_l_draws : Value} {sl_l_draws : Array (Option Value)}
    {cd_l_draws : Value}
    {f_l_next : Addr} {oc_l_next : Value} {od_l_next an_l_next : Option Addr} {kV_l_next dc_l_next pm_l_next ct_l_next : Value} {sl_l_next : Array (Option Value)}
    {cd_l_next : Value}
    {f_l_name : Addr} {oc_l_name : Value} {od_l_name an_l_name : Option Addr} {kV_l_name dc_l_name pm_l_name ct_l_name : Value} {sl_l_name : Array (Option Value)}
    {cd_l_name : Value}
    {f_l_path : Addr} {oc_l_path : Value} {od_l_path an_l_path : Option Addr} {kV_l_path dc_l_path pm_l_path ct_l_path : Value} {sl_l_path : Array (Option Value)}
    {cd_l_path : Value}
    {f_l_leaf : Addr} {oc_l_leaf : Value} {od_l_leaf an_l_leaf : Option Addr} {kV_l_leaf dc_l_leaf pm_l_leaf ct_l_leaf : Value} {sl_l_leaf : Array (Option Value)}
    {cd_l_leaf : Value}
    {f_l_refused : Addr} {oc_l_refused : Value} {od_l_refused an_l_refused : Option Addr} {kV_l_refused dc_l_refused pm_l_refused ct_l_refused : Value} {sl_l_refused : Array (Option Value)}
    {cd_l_refused : Value}
    {f_l_good : Addr} {oc_l_good : Value} {od_l_good an_l_good : Option Addr} {kV_l_good dc_l_good pm_l_good ct_l_good : Value} {sl_l_good : Array (Option Value)}
    {cd_l_good : Value}
    {f_l_bad : Addr} {oc_l_bad : Value} {od_l_bad an_l_bad : Option Addr} {kV_l_bad dc_l_bad pm_l_bad ct_l_bad : Value} {sl_l_bad : Array (Option Value)}
    {cd_l_bad : Value}
    {f_law : Addr} {oc_law : Value} {od_law an_law : Option Addr} {kV_law dc_law pm_law ct_law : Value} {sl_law : Array (Option Value)}
    {cd_law : Value}
    {C_NoDeed fI_NoDeed cc_NoDeed cda_NoDeed : Addr} {xoc_NoDeed xkV_NoDeed xdc_NoDeed xpm_NoDeed xct_NoDeed xcl_NoDeed xel_NoDeed : Value} {xod_NoDeed xan_NoDeed xcd_NoDeed xed_NoDeed : Option Addr} {xsl_NoDeed xcs_NoDeed xes_NoDeed : Array (Option Value)} {xvs_NoDeed : Array Value} {xfi_NoDeed : Str} {xtk_NoDeed : Tok}
    {t_LETTERS : Tok}
    {t_LONGEST_NAME : Tok}
    {t_LONGEST_PATH : Tok}
    {t_MOST_LEAVES : Tok}
    {t_MOST_NUMBERS : Tok}
    (a_is_number : PySem.W.nsIn K mainGlobals "is_number" = some (some (.ref f_is_number))) (l_is_number : K.lookup f_is_number = some ⟨oc_is_number, od_is_number, .func (PySem.W.fnOf "is_number" "is_number" (defArgs s_is_number) (defBody s_is_number) (defScope s_is_number) .none kV_is_number dc_is_number pm_is_number an_is_number cd_is_number ct_is_number), sl_is_number⟩) (c_is_number : PySem.W.codeIn K cd_is_number "is_number" = true) (k_is_number : PySem.W.keepIn K (.ref f_is_number) = true)
    (a_is_number_to : PySem.W.nsIn K mainGlobals "is_number_to" = some (some (.ref f_is_number_to))) (l_is_number_to : K.lookup f_is_number_to = some ⟨oc_is_number_to, od_is_number_to, .func (PySem.W.fnOf "is_number_to" "is_number_to" (defArgs s_is_number_to) (defBody s_is_number_to) (defScope s_is_number_to) .none kV_is_number_to dc_is_number_to pm_is_number_to an_is_number_to cd_is_number_to ct_is_number_to), sl_is_number_to⟩) (c_is_number_to : PySem.W.codeIn K cd_is_number_to "is_number_to" = true) (k_is_number_to : PySem.W.keepIn K (.ref f_is_number_to) = true)
    (a_is_name : PySem.W.nsIn K mainGlobals "is_name" = some (some (.ref f_is_name))) (l_is_name : K.lookup f_is_name = some ⟨oc_is_name, od_is_name, .func (PySem.W.fnOf "is_name" "is_name" (defArgs s_is_name) (defBody s_is_name) (defScope s_is_name) .none kV_is_name dc_is_name pm_is_name an_is_name (.ref cc_is_name) ct_is_name), sl_is_name⟩) (c_is_name : PySem.W.codeIn K (.ref cc_is_name) "is_name" = true) (k_is_name : PySem.W.keepIn K (.ref f_is_name) = true)
    (e_is_name : K.lookup cc_is_name = some ⟨ec_is_name, ed_is_name, .fields ev_is_name, es_is_name⟩) (p_is_name : ev_is_name[11]? = some (.ref pt_is_name)) (o_is_name : K.lookup pt_is_name = none) (r_is_name : ((recsOf q).any fun e => e.name == ("is_name" : Str)) = true)
    (a_is_path : PySem.W.nsIn K mainGlobals "is_path" = some (some (.ref f_is_path))) (l_is_path : K.lookup f_is_path = some ⟨oc_is_path, od_is_path, .func (PySem.W.fnOf "is_path" "is_path" (defArgs s_is_path) (defBody s_is_path) (defScope s_is_path) .none kV_is_path dc_is_path pm_is_path an_is_path (.ref cc_is_path) ct_is_path), sl_is_path⟩) (c_is_path : PySem.W.codeIn K (.ref cc_is_path) "is_path" = true) (k_is_path : PySem.W.keepIn K (.ref f_is_path) = true)
    (e_is_path : K.lookup cc_is_path = some ⟨ec_is_path, ed_is_path, .fields ev_is_path, es_is_path⟩) (p_is_path : ev_is_path[11]? = some (.ref pt_is_path)) (o_is_path : K.lookup pt_is_path = none) (r_is_path : ((recsOf q).any fun e => e.name == ("is_path" : Str)) = true)
    (a_is_leaf : PySem.W.nsIn K mainGlobals "is_leaf" = some (some (.ref f_is_leaf))) (l_is_leaf : K.lookup f_is_leaf = some ⟨oc_is_leaf, od_is_leaf, .func (PySem.W.fnOf "is_leaf" "is_leaf" (defArgs s_is_leaf) (defBody s_is_leaf) (defScope s_is_leaf) .none kV_is_leaf dc_is_leaf pm_is_leaf an_is_leaf (.ref cc_is_leaf) ct_is_leaf), sl_is_leaf⟩) (c_is_leaf : PySem.W.codeIn K (.ref cc_is_leaf) "is_leaf" = true) (k_is_leaf : PySem.W.keepIn K (.ref f_is_leaf) = true)
    (e_is_leaf : K.lookup cc_is_leaf = some ⟨ec_is_leaf, ed_is_leaf, .fields ev_is_leaf, es_is_leaf⟩) (p_is_leaf : ev_is_leaf[11]? = some (.ref pt_is_leaf)) (o_is_leaf : K.lookup pt_is_leaf = none) (r_is_leaf : ((recsOf q).any fun e => e.name == ("is_leaf" : Str)) = true)
    (a_is_deed : PySem.W.nsIn K mainGlobals "is_deed" = some (some (.ref f_is_deed))) (l_is_deed : K.lookup f_is_deed = some ⟨oc_is_deed, od_is_deed, .func (PySem.W.fnOf "is_deed" "is_deed" (defArgs s_is_deed) (defBody s_is_deed) (defScope s_is_deed) .none kV_is_deed dc_is_deed pm_is_deed an_is_deed cd_is_deed ct_is_deed), sl_is_deed⟩) (c_is_deed : PySem.W.codeIn K cd_is_deed "is_deed" = true) (k_is_deed : PySem.W.keepIn K (.ref f_is_deed) = true)
    (a_is_inner_path : PySem.W.nsIn K mainGlobals "is_inner_path" = some (some (.ref f_is_inner_path))) (l_is_inner_path : K.lookup f_is_inner_path = some ⟨oc_is_inner_path, od_is_inner_path, .func (PySem.W.fnOf "is_inner_path" "is_inner_path" (defArgs s_is_inner_path) (defBody s_is_inner_path) (defScope s_is_inner_path) .none kV_is_inner_path dc_is_inner_path pm_is_inner_path an_is_inner_path cd_is_inner_path ct_is_inner_path), sl_is_inner_path⟩) (c_is_inner_path : PySem.W.codeIn K cd_is_inner_path "is_inner_path" = true) (k_is_inner_path : PySem.W.keepIn K (.ref f_is_inner_path) = true)
    (a_done : PySem.W.nsIn K mainGlobals "done" = some (some (.ref f_done))) (l_done : K.lookup f_done = some ⟨oc_done, od_done, .func (PySem.W.fnOf "done" "done" (defArgs s_done) (defBody s_done) (defScope s_done) .none kV_done dc_done pm_done an_done cd_done ct_done), sl_done⟩) (c_done : PySem.W.codeIn K cd_done "done" = true) (k_done : PySem.W.keepIn K (.ref f_done) = true)
    (a_l_mixed : PySem.W.nsIn K mainGlobals "_law_mixed" = some (some (.ref f_l_mixed))) (l_l_mixed : K.lookup f_l_mixed = some ⟨oc_l_mixed, od_l_mixed, .func (PySem.W.fnOf "_law_mixed" "_law_mixed" (defArgs s_l_mixed) (defBody s_l_mixed) (defScope s_l_mixed) .none kV_l_mixed dc_l_mixed pm_l_mixed an_l_mixed cd_l_mixed ct_l_mixed), sl_l_mixed⟩) (c_l_mixed : PySem.W.codeIn K cd_l_mixed "_law_mixed" = true) (k_l_mixed : PySem.W.keepIn K (.ref f_l_mixed) = true)
    (a_l_draws : PySem.W.nsIn K mainGlobals "_law_draws" = some (some (.ref f_l_draws))) (l_l_draws : K.lookup f_l_draws = some ⟨oc_l_draws, od_l_draws, .func (PySem.W.fnOf "_law_draws" "_law_draws" (defArgs s_l_draws) (defBody s_l_draws) (defScope s_l_draws) .none kV_l_draws dc_l_draws pm_l_draws an_l_draws cd_l_draws ct_l_draws), sl_l_draws⟩) (c_l_draws : PySem.W.codeIn K cd_l_draws "_law_draws" = true) (k_l_draws : PySem.W.keepIn K (.ref f_l_draws) = true)
    (a_l_next : PySem.W.nsIn K mainGlobals "_law_next" = some (some (.ref f_l_next))) (l_l_next : K.lookup f_l_next = some ⟨oc_l_next, od_l_next, .func (PySem.W.fnOf "_law_next" "_law_next" (defArgs s_l_next) (defBody s_l_next) (defScope s_l_next) .none kV_l_next dc_l_next pm_l_next an_l_next cd_l_next ct_l_next), sl_l_next⟩) (c_l_next : PySem.W.codeIn K cd_l_next "_law_next" = true) (k_l_next : PySem.W.keepIn K (.ref f_l_next) = true)
    (a_l_name : PySem.W.nsIn K mainGlobals "_law_name" = some (some (.ref f_l_name))) (l_l_name : K.lookup f_l_name = some ⟨oc_l_name, od_l_name, .func (PySem.W.fnOf "_law_name" "_law_name" (defArgs s_l_name) (defBody s_l_name) (defScope s_l_name) .none kV_l_name dc_l_name pm_l_name an_l_name cd_l_name ct_l_name), sl_l_name⟩) (c_l_name : PySem.W.codeIn K cd_l_name "_law_name" = true) (k_l_name : PySem.W.keepIn K (.ref f_l_name) = true)
    (a_l_path : PySem.W.nsIn K mainGlobals "_law_path" = some (some (.ref f_l_path))) (l_l_path : K.lookup f_l_path = some ⟨oc_l_path, od_l_path, .func (PySem.W.fnOf "_law_path" "_law_path" (defArgs s_l_path) (defBody s_l_path) (defScope s_l_path) .none kV_l_path dc_l_path pm_l_path an_l_path cd_l_path ct_l_path), sl_l_path⟩) (c_l_path : PySem.W.codeIn K cd_l_path "_law_path" = true) (k_l_path : PySem.W.keepIn K (.ref f_l_path) = true)
    (a_l_leaf : PySem.W.nsIn K mainGlobals "_law_leaf" = some (some (.ref f_l_leaf))) (l_l_leaf : K.lookup f_l_leaf = some ⟨oc_l_leaf, od_l_leaf, .func (PySem.W.fnOf "_law_leaf" "_law_leaf" (defArgs s_l_leaf) (defBody s_l_leaf) (defScope s_l_leaf) .none kV_l_leaf dc_l_leaf pm_l_leaf an_l_leaf cd_l_leaf ct_l_leaf), sl_l_leaf⟩) (c_l_leaf : PySem.W.codeIn K cd_l_leaf "_law_leaf" = true) (k_l_leaf : PySem.W.keepIn K (.ref f_l_leaf) = true)
    (a_l_refused : PySem.W.nsIn K mainGlobals "_law_refused" = some (some (.ref f_l_refused))) (l_l_refused : K.lookup f_l_refused = some ⟨oc_l_refused, od_l_refused, .func (PySem.W.fnOf "_law_refused" "_law_refused" (defArgs s_l_refused) (defBody s_l_refused) (defScope s_l_refused) .none kV_l_refused dc_l_refused pm_l_refused an_l_refused cd_l_refused ct_l_refused), sl_l_refused⟩) (c_l_refused : PySem.W.codeIn K cd_l_refused "_law_refused" = true) (k_l_refused : PySem.W.keepIn K (.ref f_l_refused) = true)
    (a_l_good : PySem.W.nsIn K mainGlobals "_law_good" = some (some (.ref f_l_good))) (l_l_good : K.lookup f_l_good = some ⟨oc_l_good, od_l_good, .func (PySem.W.fnOf "_law_good" "_law_good" (defArgs s_l_good) (defBody s_l_good) (defScope s_l_good) .none kV_l_good dc_l_good pm_l_good an_l_good cd_l_good ct_l_good), sl_l_good⟩) (c_l_good : PySem.W.codeIn K cd_l_good "_law_good" = true) (k_l_good : PySem.W.keepIn K (.ref f_l_good) = true)
    (a_l_bad : PySem.W.nsIn K mainGlobals "_law_bad" = some (some (.ref f_l_bad))) (l_l_bad : K.lookup f_l_bad = some ⟨oc_l_bad, od_l_bad, .func (PySem.W.fnOf "_law_bad" "_law_bad" (defArgs s_l_bad) (defBody s_l_bad) (defScope s_l_bad) .none kV_l_bad dc_l_bad pm_l_bad an_l_bad cd_l_bad ct_l_bad), sl_l_bad⟩) (c_l_bad : PySem.W.codeIn K cd_l_bad "_law_bad" = true) (k_l_bad : PySem.W.keepIn K (.ref f_l_bad) = true)
    (a_law : PySem.W.nsIn K mainGlobals "law" = some (some (.ref f_law))) (l_law : K.lookup f_law = some ⟨oc_law, od_law, .func (PySem.W.fnOf "law" "law" (defArgs s_law) (defBody s_law) (defScope s_law) .none kV_law dc_law pm_law an_law cd_law ct_law), sl_law⟩) (c_law : PySem.W.codeIn K cd_law "law" = true) (k_law : PySem.W.keepIn K (.ref f_law) = true)
    (xm_NoDeed : PySem.W.nsIn K mainGlobals "NoDeed" = some (some (.ref C_NoDeed))) (xq_NoDeed : PySem.W.excInitIn K C_NoDeed exBases "ValueError.__new__" = true) (xk_NoDeed : PySem.W.keepIn K (.ref C_NoDeed) = true) (xs_NoDeed : PySem.W.subIn K (.ref C_NoDeed) (.type "BaseException") = some true) (xt_NoDeed : PySem.W.typeIn K (.ref C_NoDeed) = some (.type "type")) (xi_NoDeed : PySem.W.isClsIn K C_NoDeed = true) (xf_NoDeed : PySem.W.subIn K (.ref C_NoDeed) (.ref C_NoDeed) = some true) (xv_NoDeed : PySem.W.subIn K (.ref C_NoDeed) (.type "ValueError") = some true) (xu_NoDeed : PySem.W.ks_superIn K C_NoDeed C_NoDeed "__init__" = some (some (.builtin "ValueError.__init__"))) (xr_NoDeed : PySem.W.mroIn K C_NoDeed (.ref C_NoDeed) = some true) (xg_NoDeed : PySem.W.findIn K (.ref C_NoDeed) "__init__" = some (some (.ref fI_NoDeed))) (xh_NoDeed : PySem.W.typeIn K (.ref fI_NoDeed) = some (.type "function")) (xl_NoDeed : K.lookup fI_NoDeed = some ⟨xoc_NoDeed, xod_NoDeed, .func (PySem.W.ksFn "__init__" "NoDeed.__init__" (defArgs s_NoDeed_init) (defBody s_NoDeed_init) (defScope s_NoDeed_init) .none xkV_NoDeed xdc_NoDeed xpm_NoDeed xan_NoDeed (.ref cda_NoDeed) xct_NoDeed cc_NoDeed), xsl_NoDeed⟩) (xc_NoDeed : PySem.W.codeIn K (.ref cda_NoDeed) "NoDeed.__init__" = true) (xd_NoDeed : K.lookup cda_NoDeed = some ⟨xcl_NoDeed, xcd_NoDeed, .fields xvs_NoDeed, xcs_NoDeed⟩) (xw_NoDeed : xvs_NoDeed[2]? = some (.str xfi_NoDeed xtk_NoDeed)) (xy_NoDeed : ((l.prog.main.file : Str) == xfi_NoDeed) = true) (xe_NoDeed : K.lookup cc_NoDeed = some ⟨xel_NoDeed, xed_NoDeed, .cell (some (.ref C_NoDeed)), xes_NoDeed⟩)
    (y_op : PySem.W.nsIn K cStatics "thirdparty.any" = some none) (y_super : PySem.W.nsIn K mainGlobals "super" = some none) (y_ps : (l.prog.main.scope.names.lookup ("super" : Str)).isSome = false)
    (z_abs : PySem.W.nsIn K mainGlobals "abs" = some none)
    (z_all : PySem.W.nsIn K mainGlobals "all" = some none)
    (z_bool : PySem.W.nsIn K mainGlobals "bool" = some none)
    (z_int : PySem.W.nsIn K mainGlobals "int" = some none)
    (z_isinstance : PySem.W.nsIn K mainGlobals "isinstance" = some none)
    (z_len : PySem.W.nsIn K mainGlobals "len" = some none)
    (z_list : PySem.W.nsIn K mainGlobals "list" = some none)
    (z_min : PySem.W.nsIn K mainGlobals "min" = some none)
    (z_range : PySem.W.nsIn K mainGlobals "range" = some none)
    (z_str : PySem.W.nsIn K mainGlobals "str" = some none)
    (z_tuple : PySem.W.nsIn K mainGlobals "tuple" = some none)
    (z_LETTERS : PySem.W.nsIn K mainGlobals "LETTERS" = some (some (.str letters t_LETTERS)))
    (z_LONGEST_NAME : PySem.W.nsIn K mainGlobals "LONGEST_NAME" = some (some (.int 8 t_LONGEST_NAME)))
    (z_LONGEST_PATH : PySem.W.nsIn K mainGlobals "LONGEST_PATH" = some (some (.int 6 t_LONGEST_PATH)))
    (z_MOST_LEAVES : PySem.W.nsIn K mainGlobals "MOST_LEAVES" = some (some (.int 64 t_MOST_LEAVES)))
    (z_MOST_NUMBERS : PySem.W.nsIn K mainGlobals "MOST_NUMBERS" = some (some (.int 8 t_MOST_NUMBERS))) :
    LamX.LawAtS l w K CX0 8 63 "_law_script" mg fa h := by
  have F_is_number := fnAt_mk (st := s_is_number) (ps := ["one"]) (PySem.W.mg_of X G a_is_number) l_is_number c_is_number k_is_number (fun us hl => match us, hl with | [_], _ => rfl)
  have F_is_number_to := fnAt_mk (st := s_is_number_to) (ps := ["one", "most"]) (PySem.W.mg_of X G a_is_number_to) l_is_number_to c_is_number_to k_is_number_to (fun us hl => match us, hl with | [_, _], _ => rfl)
  have F_is_name := fnAt_mk (st := s_is_name) (ps := ["one"]) (PySem.W.mg_of X G a_is_name) l_is_name c_is_name k_is_name (fun us hl => match us, hl with | [_], _ => rfl)
  have B_is_name := tabs "is_name" f_is_name cc_is_name pt_is_name _ _ _ _ _ _ r_is_name (PySem.W.mg_of X G a_is_name) l_is_name rfl rfl e_is_name p_is_name
  have F_is_path := fnAt_mk (st := s_is_path) (ps := ["one"]) (PySem.W.mg_of X G a_is_path) l_is_path c_is_path k_is_path (fun us hl => match us, hl with | [_], _ => rfl)
  have B_is_path := tabs "is_path" f_is_path cc_is_path pt_is_path _ _ _ _ _ _ r_is_path (PySem.W.mg_of X G a_is_path) l_is_path rfl rfl e_is_path p_is_path
  have F_is_leaf := fnAt_mk (st := s_is_leaf) (ps := ["one"]) (PySem.W.mg_of X G a_is_leaf) l_is_leaf c_is_leaf k_is_leaf (fun us hl => match us, hl with | [_], _ => rfl)
  have B_is_leaf := tabs "is_leaf" f_is_leaf cc_is_leaf pt_is_leaf _ _ _ _ _ _ r_is_leaf (PySem.W.mg_of X G a_is_leaf) l_is_leaf rfl rfl e_is_leaf p_is_leaf
  have F_is_deed := fnAt_mk (st := s_is_deed) (ps := ["one"]) (PySem.W.mg_of X G a_is_deed) l_is_deed c_is_deed k_is_deed (fun us hl => match us, hl with | [_], _ => rfl)
  have F_is_inner_path := fnAt_mk (st := s_is_inner_path) (ps := ["one"]) (PySem.W.mg_of X G a_is_inner_path) l_is_inner_path c_is_inner_path k_is_inner_path (fun us hl => match us, hl with | [_], _ => rfl)
  have F_done := fnAt_mk (st := s_done) (ps := ["view", "deed"]) (PySem.W.mg_of X G a_done) l_done c_done k_done (fun us hl => match us, hl with | [_, _], _ => rfl)
  have F_l_mixed := fnAt_mk (st := s_l_mixed) (ps := ["_law_cell", "_law_k"]) (PySem.W.mg_of X G a_l_mixed) l_l_mixed c_l_mixed k_l_mixed (fun us hl => match us, hl with | [_, _], _ => rfl)
  have F_l_draws := fnAt_mk (st := s_l_draws) (ps := ["_law_script"]) (PySem.W.mg_of X G a_l_draws) l_l_draws c_l_draws k_l_draws (fun us hl => match us, hl with | [_], _ => rfl)
  have F_l_next := fnAt_mk (st := s_l_next) (ps := ["_law_drawn"]) (PySem.W.mg_of X G a_l_next) l_l_next c_l_next k_l_next (fun us hl => match us, hl with | [_], _ => rfl)
  have F_l_name := fnAt_mk (st := s_l_name) (ps := ["_law_number"]) (PySem.W.mg_of X G a_l_name) l_l_name c_l_name k_l_name (fun us hl => match us, hl with | [_], _ => rfl)
  have F_l_path := fnAt_mk (st := s_l_path) (ps := ["_law_drawn"]) (PySem.W.mg_of X G a_l_path) l_l_path c_l_path k_l_path (fun us hl => match us, hl with | [_], _ => rfl)
  have F_l_leaf := fnAt_mk (st := s_l_leaf) (ps := ["_law_drawn"]) (PySem.W.mg_of X G a_l_leaf) l_l_leaf c_l_leaf k_l_leaf (fun us hl => match us, hl with | [_], _ => rfl)
  have F_l_refused := fnAt_mk (st := s_l_refused) (ps := ["_law_view", "_law_one"]) (PySem.W.mg_of X G a_l_refused) l_l_refused c_l_refused k_l_refused (fun us hl => match us, hl with | [_, _], _ => rfl)
  have F_l_good := fnAt_mk (st := s_l_good) (ps := ["_law_drawn"]) (PySem.W.mg_of X G a_l_good) l_l_good c_l_good k_l_good (fun us hl => match us, hl with | [_], _ => rfl)
  have F_l_bad := fnAt_mk (st := s_l_bad) (ps := ["_law_drawn"]) (PySem.W.mg_of X G a_l_bad) l_l_bad c_l_bad k_l_bad (fun us hl => match us, hl with | [_], _ => rfl)
  have F_law := fnAt_mk (st := s_law) (ps := ["_law_script"]) (PySem.W.mg_of X G a_law) l_law c_law k_law (fun us hl => match us, hl with | [_], _ => rfl)
  have x_NoDeed : ExcI l.prog K mg "NoDeed" C_NoDeed := by
    obtain ⟨p2, p3, sh⟩ := sh_NoDeed
    exact ⟨PySem.W.mg_of X G xm_NoDeed, xq_NoDeed, xk_NoDeed, xs_NoDeed, xt_NoDeed, xi_NoDeed, xf_NoDeed, xv_NoDeed, xu_NoDeed, xr_NoDeed, y_op, PySem.W.mg_none_of X G y_super, y_ps, fI_NoDeed, xg_NoDeed, xh_NoDeed, _, _, s_NoDeed_init, p2, p3, _, _, _, _, _, _, _, _, _, _, _, _, _, _, _, _, _, _, sh, xl_NoDeed, xc_NoDeed, xd_NoDeed, xw_NoDeed, xy_NoDeed, xe_NoDeed⟩
  have T : Txt K mg := ⟨PySem.W.mg_none_of X G z_abs, PySem.W.mg_none_of X G z_all, PySem.W.mg_none_of X G z_bool, PySem.W.mg_none_of X G z_int, PySem.W.mg_none_of X G z_isinstance, PySem.W.mg_none_of X G z_len, PySem.W.mg_none_of X G z_list, PySem.W.mg_none_of X G z_min, PySem.W.mg_none_of X G z_range, PySem.W.mg_none_of X G z_str, PySem.W.mg_none_of X G z_tuple, ⟨_, PySem.W.mg_of X G z_LETTERS, ⟨_, rfl⟩⟩, ⟨_, PySem.W.mg_of X G z_LONGEST_NAME, ⟨_, rfl⟩⟩, ⟨_, PySem.W.mg_of X G z_LONGEST_PATH, ⟨_, rfl⟩⟩, ⟨_, PySem.W.mg_of X G z_MOST_LEAVES, ⟨_, rfl⟩⟩, ⟨_, PySem.W.mg_of X G z_MOST_NUMBERS, ⟨_, rfl⟩⟩⟩
  refine law_at (cs := [(cc_is_name, pt_is_name), (cc_is_path, pt_is_path), (cc_is_leaf, pt_is_leaf)]) (sp := spLaw K [pt_is_name, pt_is_path, pt_is_leaf]) (q := q) hfa F_law ?_ (fun kV doc pm an ct s u => .of_eq rfl) (fun H a ns h1 _ h3 h4 => ⟨a, ns, rfl, h4, h1, h3, fun _ => rfl⟩) (fun base _ _ TB => ?_)
  · intro p hp
    simp only [List.mem_cons, List.not_mem_nil, or_false] at hp
    rcases hp with rfl | rfl | rfl
    · exact ⟨B_is_name.1, B_is_name.2, o_is_name⟩
    · exact ⟨B_is_path.1, B_is_path.2, o_is_path⟩
    · exact ⟨B_is_leaf.1, B_is_leaf.2, o_is_leaf⟩
  · have c1 := ok_is_number (P := l.prog) (w := w) (base := base) T F_is_number
    have c2 := ok_is_number_to F_is_number_to c1
    have c3 := ok_is_name (P := l.prog) (w := w) (tb := [pt_is_name, pt_is_path, pt_is_leaf]) T (TB (cc_is_name, pt_is_name) (by simp)) (by simp) F_is_name
    have c4 := ok_is_path (P := l.prog) (w := w) (tb := [pt_is_name, pt_is_path, pt_is_leaf]) T (TB (cc_is_path, pt_is_path) (by simp)) (by simp) F_is_path c3
    have c5 := ok_is_leaf (P := l.prog) (w := w) (tb := [pt_is_name, pt_is_path, pt_is_leaf]) T (TB (cc_is_leaf, pt_is_leaf) (by simp)) (by simp) F_is_leaf c2
    have c6 := ok_is_inner_path T F_is_inner_path c4
    have c7 := ok_is_deed T F_is_deed c6 c2 c5
    have c8 := ok_done x_NoDeed F_done c7
    have c9 := ok_l_refused x_NoDeed F_l_refused c8
    have d1 := ok_l_mixed (P := l.prog) (w := w) (base := base) F_l_mixed
    have d2 := ok_l_draws (tb := [pt_is_name, pt_is_path, pt_is_leaf]) T F_l_draws d1
    have d3 := ok_l_next (P := l.prog) (w := w) (base := base) (tb := [pt_is_name, pt_is_path, pt_is_leaf]) F_l_next
    have d4 := ok_l_name (P := l.prog) (w := w) (base := base) (tb := [pt_is_name, pt_is_path, pt_is_leaf]) F_l_name
    have d5 := ok_l_path T F_l_path d3 d4
    have d6 := ok_l_leaf T F_l_leaf d3
    have d7 := ok_l_good T F_l_good d3 d5 d6
    have d8 := ok_l_bad T F_l_bad d5 d6
    exact ok_law T d2 d3 d7 d8 c7 c9
end K09
open PySem PySem.W PyProof.Rows
set_option maxRecDepth 100000 in
set_option maxHeartbeats 0 in
theorem PySem.Challenge.cw_snapshelf_k09_what_is_a_deed_holds : PySem.Challenge.rw_snapshelf_k09_what_is_a_deed.Holds := by
  w_on; o_law; k_head; (case hw => w_witness2)
  k_fill
  refine HK.walk_tabs (l := PySem.Challenge.rw_snapshelf_k09_what_is_a_deed) (n := 63) (k := 8) (x := "_law_script") (CX := fun _ => L2.CX0) rfl (by decide) rfl ⟨rfl, by decide, by decide⟩ (fun w h Y => PySem.W.kIn_of Y) ?F (fun _ _ _ _ _ h => h)
  case F =>
    intro w mg fa h Y KX G hmg tabs
    refine' K09.all_mk KX G hmg tabs ?a_is_number ?l_is_number ?c_is_number ?k_is_number ?a_is_number_to ?l_is_number_to ?c_is_number_to ?k_is_number_to ?a_is_name ?l_is_name ?c_is_name ?k_is_name ?e_is_name ?p_is_name ?o_is_name ?r_is_name ?a_is_path ?l_is_path ?c_is_path ?k_is_path ?e_is_path ?p_is_path ?o_is_path ?r_is_path ?a_is_leaf ?l_is_leaf ?c_is_leaf ?k_is_leaf ?e_is_leaf ?p_is_leaf ?o_is_leaf ?r_is_leaf ?a_is_deed ?l_is_deed ?c_is_deed ?k_is_deed ?a_is_inner_path ?l_is_inner_path ?c_is_inner_path ?k_is_inner_path ?a_done ?l_done ?c_done ?k_done ?a_l_mixed ?l_l_mixed ?c_l_mixed ?k_l_mixed ?a_l_draws ?l_l_draws ?c_l_draws ?k_l_draws ?a_l_next ?l_l_next ?c_l_next ?k_l_next ?a_l_name ?l_l_name ?c_l_name ?k_l_name ?a_l_path ?l_l_path ?c_l_path ?k_l_path ?a_l_leaf ?l_l_leaf ?c_l_leaf ?k_l_leaf ?a_l_refused ?l_l_refused ?c_l_refused ?k_l_refused ?a_l_good ?l_l_good ?c_l_good ?k_l_good ?a_l_bad ?l_l_bad ?c_l_bad ?k_l_bad ?a_law ?l_law ?c_law ?k_law ?xm_NoDeed ?xq_NoDeed ?xk_NoDeed ?xs_NoDeed ?xt_NoDeed ?xi_NoDeed ?xf_NoDeed ?xv_NoDeed ?xu_NoDeed ?xr_NoDeed ?xg_NoDeed ?xh_NoDeed ?xl_NoDeed ?xc_NoDeed ?xd_NoDeed ?xw_NoDeed ?xy_NoDeed ?xe_NoDeed ?y_op ?y_super ?y_ps ?z_abs ?z_all ?z_bool ?z_int ?z_isinstance ?z_len ?z_list ?z_min ?z_range ?z_str ?z_tuple ?z_LETTERS ?z_LONGEST_NAME ?z_LONGEST_PATH ?z_MOST_LEAVES ?z_MOST_NUMBERS
    (case a_is_number => k_is)
    (case l_is_number => k_is)
    (case c_is_number => k_is)
    (case k_is_number => k_is)
    (case a_is_number_to => k_is)
    (case l_is_number_to => k_is)
    (case c_is_number_to => k_is)
    (case k_is_number_to => k_is)
    (case a_is_name => k_is)
    (case l_is_name => k_is)
    (case c_is_name => k_is)
    (case k_is_name => k_is)
    (case e_is_name => k_is)
    (case p_is_name => rfl)
    (case o_is_name => first | k_is | rfl | decide +kernel)
    (case r_is_name => decide +kernel)
    (case a_is_path => k_is)
    (case l_is_path => k_is)
    (case c_is_path => k_is)
    (case k_is_path => k_is)
    (case e_is_path => k_is)
    (case p_is_path => rfl)
    (case o_is_path => first | k_is | rfl | decide +kernel)
    (case r_is_path => decide +kernel)
    (case a_is_leaf => k_is)
    (case l_is_leaf => k_is)
    (case c_is_leaf => k_is)
    (case k_is_leaf => k_is)
    (case e_is_leaf => k_is)
    (case p_is_leaf => rfl)
    (case o_is_leaf => first | k_is | rfl | decide +kernel)
    (case r_is_leaf => decide +kernel)
    (case a_is_deed => k_is)
    (case l_is_deed => k_is)
    (case c_is_deed => k_is)
    (case k_is_deed => k_is)
    (case a_is_inner_path => k_is)
    (case l_is_inner_path => k_is)
    (case c_is_inner_path => k_is)
    (case k_is_inner_path => k_is)
    (case a_done => k_is)
    (case l_done => k_is)
    (case c_done => k_is)
    (case k_done => k_is)
    (case a_l_mixed => k_is)
    (case l_l_mixed => k_is)
    (case c_l_mixed => k_is)
    (case k_l_mixed => k_is)
    (case a_l_draws => k_is)
    (case l_l_draws => k_is)
    (case c_l_draws => k_is)
    (case k_l_draws => k_is)
    (case a_l_next => k_is)
    (case l_l_next => k_is)
    (case c_l_next => k_is)
    (case k_l_next => k_is)
    (case a_l_name => k_is)
    (case l_l_name => k_is)
    (case c_l_name => k_is)
    (case k_l_name => k_is)
    (case a_l_path => k_is)
    (case l_l_path => k_is)
    (case c_l_path => k_is)
    (case k_l_path => k_is)
    (case a_l_leaf => k_is)
    (case l_l_leaf => k_is)
    (case c_l_leaf => k_is)
    (case k_l_leaf => k_is)
    (case a_l_refused => k_is)
    (case l_l_refused => k_is)
    (case c_l_refused => k_is)
    (case k_l_refused => k_is)
    (case a_l_good => k_is)
    (case l_l_good => k_is)
    (case c_l_good => k_is)
    (case k_l_good => k_is)
    (case a_l_bad => k_is)
    (case l_l_bad => k_is)
    (case c_l_bad => k_is)
    (case k_l_bad => k_is)
    (case a_law => k_is)
    (case l_law => k_is)
    (case c_law => k_is)
    (case k_law => k_is)
    (case xm_NoDeed => k_is)
    (case xq_NoDeed => first | kx_is | kernel_rfl)
    (case xk_NoDeed => k_is)
    (case xs_NoDeed => k_is)
    (case xt_NoDeed => k_is)
    (case xi_NoDeed => k_is)
    (case xf_NoDeed => first | rfl | k_is)
    (case xv_NoDeed => k_is)
    (case xu_NoDeed => first | ks_is | kernel_rfl)
    (case xr_NoDeed => first | k_is | rfl)
    (case xg_NoDeed => k_is)
    (case xh_NoDeed => k_is)
    (case xl_NoDeed => first | k_is | rfl)
    (case xc_NoDeed => k_is)
    (case xd_NoDeed => first | k_is | rfl)
    (case xw_NoDeed => rfl)
    (case xy_NoDeed => first | rfl | decide +kernel)
    (case xe_NoDeed => first | k_is | rfl)
    (case y_op => k_is)
    (case y_super => k_is)
    (case y_ps => first | rfl | decide +kernel)
    (case z_abs => k_is)
    (case z_all => k_is)
    (case z_bool => k_is)
    (case z_int => k_is)
    (case z_isinstance => k_is)
    (case z_len => k_is)
    (case z_list => k_is)
    (case z_min => k_is)
    (case z_range => k_is)
    (case z_str => k_is)
    (case z_tuple => k_is)
    (case z_LETTERS => k_is)
    (case z_LONGEST_NAME => k_is)
    (case z_LONGEST_PATH => k_is)
    (case z_MOST_LEAVES => k_is)
    (case z_MOST_NUMBERS => k_is)

import PyProof.Rows.All
import Wide.All
import OpenK.AllK
import Wide.FinOn
import HandS.GenList
import HandS.AnyAll
import HandS.EndOwn
import HandS.ForMost
import HandS.ForExc
import HandS.IsInst
import HandS.TupAny
import HandS.Wide
import HandS.Style
import HandS.Small
import HandS.Flow
import HandS.Replace
import HandS.Codes
import HandS.Zip
import PySem.Challenge.RW_snapshelf_k17_sums
set_option Elab.async false
set_option linter.all false
set_option maxRecDepth 100000
set_option maxHeartbeats 2000000
namespace GX
open PySem PySem.Spec PyProof.Rows L2 GenW

/-- the frame of a generator expression that is woken by a builtin of this def -/
def gcx (X : Cx) (cenv : Env) (N : List Str) (s4 : Shared) (H4 : Hp) (fp : List Addr) (pn : List (Addr × Obj)) : Cx :=
  { prog := X.prog, w := X.w, K := X.K, mg := X.mg, base := X.base, A := X.A.in1.in1.deeper cenv, N := N, s_0 := s4, H_0 := H4, env := cenv, outer := X.stack, stack := cenv :: X.stack, ex := fp, fn := fun _ => false, calm := true, pn := pn, xe := fun _ _ => False }

theorem clo_nil {cells : List (Str × Addr)} : ∀ {names : List (Str × NameKind)}, (∀ y ∈ names, y.2 ≠ .free) → cloFrom cells names [] = []
  | [], _ => rfl
  | (n, k) :: r, h => by
    unfold cloFrom
    have hk : ¬ (k == NameKind.free) = true := by
      have := h (n, k) List.mem_cons_self
      simpa using this
    rw [if_neg hk]
    exact clo_nil fun y hy => h y (List.mem_cons_of_mem _ hy)

/-- the scope of a generator expression that captures nothing -/
structure GScp (scope : Scope) : Prop where
  kind : scope.kind = .function
  co : scope.isCoroutine = false
  cell : ∀ y ∈ scope.names, y.2 ≠ .cell
  free : ∀ y ∈ scope.names, y.2 ≠ .free
  dot : scope.names.lookup (".0" : Str) = some NameKind.local

def Slp (s s' : Shared) : Prop := s'.os = s.os ∧ AllBare s'.gens ∧ ∀ b o, s.heap.get? b = some o → s'.heap.get? b = some o
def tau0 (N : List Str) : L2.St := N.map fun _ => none

/-- what is known where the generator stands at turn i -/
def At (Xg : Cx) (fp : List Addr) (tn : Nat → Heap → Prop) (i : Nat) (H : Hp) (s : Shared) : Prop :=
  Inv Xg [] (tau0 Xg.N) H s ∧ tn i s.heap ∧ ∀ b ∈ fp, H b = none
theorem At.slp {Xg : Cx} {fp : List Addr} {tn : Nat → Heap → Prop} {i : Nat} {H : Hp} {s s' : Shared} (hk : ∀ i h h', tn i h → (∀ b ∈ fp, ∀ o, h.get? b = some o → h'.get? b = some o) → tn i h') (h : At Xg fp tn i H s) (z : Slp s s') : At Xg fp tn i H s' := by
  obtain ⟨I, st, fr⟩ := h
  exact ⟨I.call' (ch := []) z.1 (Un.kept z.2.2) (I.hok.kept z.2.2) z.2.1 (fun b hb => by simp at hb), hk _ _ _ st fun b _ o e => z.2.2 b o e, fr⟩
theorem inv_forget {X : Cx} {pins : List (Addr × Obj)} {σ : L2.St} {H : Hp} {s : Shared} (I : Inv X pins σ H s) : Inv X pins (tau0 X.N) H s :=
  I.weak (by rw [I.len]; simp [tau0]) fun i v e => by
    unfold tau0 at e
    rw [List.getElem?_map] at e
    cases q : X.N[i]? with
    | none => rw [q] at e; cases e
    | some y => rw [q] at e; cases e

def RX (Xg : Cx) (fp : List Addr) (Endp : Hp → Prop) : GenEnd := fun n s₀ r s => ((r = .ok (.ret .none) ∨ r = .ok .next) ∧ ∃ H, Inv Xg [] (tau0 Xg.N) H s ∧ Endp H) ∨ ∃ e, r = .error e ∧ False
def YX (Xg : Cx) (fp : List Addr) (tn : Nat → Heap → Prop) (len : Nat) (W : Nat → Hp → Prop) (Yp : Nat → V → Hp → Prop) : Protocol := fun n s₀ v s kap =>
  ∃ i y H, n + 1 + i = len ∧ RelV y v ∧ At Xg fp tn (i + 1) H s ∧ Yp i y H ∧ (W (i + 1) H → ∀ s', Slp s s' → kap (.send .none) s')

section
variable {X : Cx} {scope : Scope} {cenv : Env} {N : List Str} {s4 : Shared} {H4 : Hp} {fp : List Addr} {pn : List (Addr × Obj)} {tg elt iter : Expr} {pos : Pos} {it : Addr} {tn : Nat → Heap → Prop} {J : It} {len : Nat} {W : Nat → Hp → Prop} {Yp : Nat → V → Hp → Prop} {Endp : Hp → Prop} {g : TG} {te : TE}

theorem seg_gx (hco : cenv.scope.isCoroutine = false) (T : Turn X.prog X.w X.K tg J fp it tn) (hfp : ∀ H, (∀ b ∈ fp, H b = none) → ∀ b ∈ fp, FpOk (gcx X cenv N s4 H4 fp pn) [] H b)
    (hg : PG (gcx X cenv N s4 H4 fp pn) tg g) (he : PE (gcx X cenv N s4 H4 fp pn) elt te)
    (hW : ∀ i H, W i H → i ≤ len ∧ ((J.stop i H ∧ Endp H) ∨ (i < len ∧ J.go i H ∧ ∀ x H', J.yld i H x H' → g x (tau0 N) H' fun τ2 H2 => te τ2 H2 fun y H3 => Yp i y H3))) :
    ∀ (k i : Nat) (s₀ s : Shared) (H : Hp), len - i = k → At (gcx X cenv N s4 H4 fp pn) fp tn i H s → W i H →
      Seg (model X.prog X.w) X.A.in1.in1 (RX (gcx X cenv N s4 H4 fp pn) fp Endp) (YX (gcx X cenv N s4 H4 fp pn) fp tn len W Yp) (len - i) s₀
        (.compLoop (.GeneratorExp elt [⟨tg, iter, [], 0⟩] scope pos) 0 (.ref it) .none cenv)
        ((model X.prog X.w).den (.compLoop (.GeneratorExp elt [⟨tg, iter, [], 0⟩] scope pos) 0 (.ref it) .none cenv)) [] s := by
  have hov : X.A.in1.in1.over (.compLoop (.GeneratorExp elt [⟨tg, iter, [], 0⟩] scope pos) 0 (.ref it) .none cenv) [] = (gcx X cenv N s4 H4 fp pn).A := rfl
  intro k
  induction k with
  | zero =>
    intro i s₀ s H hk hA w
    obtain ⟨hil, hc⟩ := hW i H w
    obtain ⟨stop, hE⟩ : J.stop i H ∧ Endp H := by
      rcases hc with hc | ⟨hlt, _⟩
      · exact hc
      · omega
    obtain ⟨I, st, fr⟩ := hA
    show Seg _ X.A.in1.in1 _ _ _ s₀ _ ((compTurn (.GeneratorExp elt [⟨tg, iter, [], 0⟩] scope pos) 0 (.ref it) .none cenv).onRaise (leaving cenv)) [] s
    rw [compTurn_gen, Sem.onRaise_eq_wrap]
    refine seg_bind_wrap (wpAny_standAt ?_)
    refine seg_bind_wrap ?_
    rw [hov]
    refine thn (T.done (gcx X cenv N s4 H4 fp pn) rfl rfl rfl rfl i [] s (tau0 N) H _ I (hfp H fr) st stop) fun r s1 ⟨hr, I1⟩ => ?_
    subst hr
    exact seg_end (.ok .next) (.inl ⟨.inr rfl, H, I1, hE⟩)
  | succ k ih =>
    intro i s₀ s H hk hA w
    obtain ⟨hil, hc⟩ := hW i H w
    obtain ⟨I, st, fr⟩ := hA
    show Seg _ X.A.in1.in1 _ _ _ s₀ _ ((compTurn (.GeneratorExp elt [⟨tg, iter, [], 0⟩] scope pos) 0 (.ref it) .none cenv).onRaise (leaving cenv)) [] s
    rw [compTurn_gen, Sem.onRaise_eq_wrap]
    refine seg_bind_wrap (wpAny_standAt ?_)
    refine seg_bind_wrap ?_
    rw [hov]
    rcases hc with ⟨stop, hE⟩ | ⟨hlt, go, step⟩
    · refine thn (T.done (gcx X cenv N s4 H4 fp pn) rfl rfl rfl rfl i [] s (tau0 N) H _ I (hfp H fr) st stop) fun r s1 ⟨hr, I1⟩ => ?_
      subst hr
      exact seg_end (.ok .next) (.inl ⟨.inr rfl, H, I1, hE⟩)
    · refine thn (T.item (gcx X cenv N s4 H4 fp pn) rfl rfl rfl rfl i [] s (tau0 N) H _ I (hfp H fr) st go) fun r s1 ⟨u, hr, h1⟩ => ?_
      subst hr
      refine seg_bind_wrap ?_
      rw [hov]
      refine thn h1 fun _ s2 ⟨x, H', I2, r2, y2, st2, fr2⟩ => ?_
      have I2' := I2.pinned (hfp H' fr2) (T.obj _ _ st2)
      refine seg_bind_wrap ?_
      rw [hov]
      refine wpAny_mono (hg.run _ s2 _ H' x u _ I2' r2 (step x H' y2)) (fun _ s3 ⟨τ3, H3, I3, q3⟩ => ?_) fun _ _ e => (show False from e).elim
      refine seg_bind_wrap (wpAny_of_eq (a := true) (by first | rfl | exact List.forIn_nil ..) ?_)
      simp only [if_true]
      have hy : ∀ v, yieldOut cenv v = yieldValue v := fun v => by simp only [yieldOut, hco, Bool.false_eq_true, if_false]
      simp only [hy]
      rw [Sem.bind_eq_wrap', Sem.bind_eq_wrap', Sem.wrap_wrap, Sem.wrap_wrap]
      refine seg_wrap ?_
      rw [hov]
      refine wpAny_mono (he.run _ s3 τ3 H3 _ I3 q3) (fun v s5 h5 => ?_) fun _ _ e => (show False from e).elim
      obtain ⟨y, H5, I5, r5, q5⟩ := h5
      have A5 : At (gcx X cenv N s4 H4 fp pn) fp tn (i + 1) H5 s5 := by
        refine ⟨inv_forget (I5.unpinned (pins := [])), T.keep _ _ _ st2 fun b hb o e => (I5.pin (b, o) (List.mem_append_right _ (List.mem_append_right _ (mem_pinsAt hb e)))).1, fun b hb => ?_⟩
        obtain ⟨o, e, d⟩ := T.obj _ _ st2 b hb
        exact (I5.pin (b, o) (List.mem_append_right _ (List.mem_append_right _ (mem_pinsAt hb e)))).2.1
      have hl : len - i = (len - (i + 1)) + 1 := by omega
      rw [hl]
      refine seg_at (seg_yield rfl rfl rfl ⟨i, y, H5, by omega, r5, A5, q5, fun w1 s'' hz => ?_⟩)
      exact seg_again rfl (ih (i + 1) s'' s'' H5 (by omega) (A5.slp T.keep hz) w1)

theorem seg_gs (hco : cenv.scope.isCoroutine = false) (T : Turn X.prog X.w X.K tg J fp it tn) (hfp : ∀ H, (∀ b ∈ fp, H b = none) → ∀ b ∈ fp, FpOk (gcx X cenv N s4 H4 fp pn) [] H b)
    (hg : PG (gcx X cenv N s4 H4 fp pn) tg g) (he : PE (gcx X cenv N s4 H4 fp pn) elt te)
    (hW : ∀ i H, W i H → i ≤ len ∧ ((J.stop i H ∧ Endp H) ∨ (i < len ∧ J.go i H ∧ ∀ x H', J.yld i H x H' → g x (tau0 N) H' fun τ2 H2 => te τ2 H2 fun y H3 => Yp i y H3)))
    (s₀ s : Shared) (H : Hp) (hA : At (gcx X cenv N s4 H4 fp pn) fp tn 0 H s) (w : W 0 H) :
      Seg (model X.prog X.w) X.A.in1.in1 (RX (gcx X cenv N s4 H4 fp pn) fp Endp) (YX (gcx X cenv N s4 H4 fp pn) fp tn len W Yp) len s₀
        (.compStart (.GeneratorExp elt [⟨tg, iter, [], 0⟩] scope pos) 0 (.ref it) .none cenv)
        ((model X.prog X.w).den (.compStart (.GeneratorExp elt [⟨tg, iter, [], 0⟩] scope pos) 0 (.ref it) .none cenv)) [] s := by
  have loop := seg_gx (iter := iter) (scope := scope) (pos := pos) hco T hfp hg he hW len 0 s₀ s H (Nat.sub_zero _) hA w
  rw [Nat.sub_zero] at loop
  show Seg _ X.A.in1.in1 _ _ _ s₀ _ ((compStart (.GeneratorExp elt [⟨tg, iter, [], 0⟩] scope pos) 0 (.ref it) .none cenv).onRaise (leaving cenv)) [] s
  unfold compStart
  rw [Sem.onRaise_eq_wrap]
  show Seg _ X.A.in1.in1 _ _ _ s₀ _ ((ask >>= _).wrap _ _ _ _) [] s
  refine seg_bind_wrap (wpAny_askSetting ?_)
  split
  · exact seg_again rfl loop
  · first
      | exact seg_bind_wrap (wpAny_rule (seg_bind_wrap (wpAny_standAt (seg_bind_wrap (T.self _ 0 s _ _ hA.2.1 (seg_again rfl loop))))))
      | (refine seg_bind_wrap (wpAny_rule ?_); show Seg _ X.A.in1.in1 _ _ _ s₀ _ ((standAt iter.pos >>= _).wrap _ _ _ _) [] s; exact seg_bind_wrap (wpAny_standAt (seg_bind_wrap (T.self _ 0 s _ _ hA.2.1 (seg_again rfl loop)))))
end

/-- the generator at a stands ready, with so many turns at most -/
def Goer (X Xg : Cx) (fp : List Addr) (tn : Nat → Heap → Prop) (len : Nat) (W : Nat → Hp → Prop) (Yp : Nat → V → Hp → Prop) (Endp : Hp → Prop) (a : Addr) (gn : Nat) (m : Nat) (s : Shared) : Prop :=
  s.heap.IsGen a gn ∧ s.heap.NoLimit ∧ ∃ gs, s.gens[gn]? = some gs ∧ gs.Goes (model X.prog X.w) X.A.in1.in1 (RX Xg fp Endp) (YX Xg fp tn len W Yp) m (.send .none) (s.setGen gn .running)

section
variable {X Xg : Cx} {fp : List Addr} {tn : Nat → Heap → Prop} {len : Nat} {W : Nat → Hp → Prop} {Yp : Nat → V → Hp → Prop} {Endp : Hp → Prop} {a : Addr} {gn : Nat}
/-- one turn of what walks it -/
theorem next_gx {m : Nat} {s : Shared} {Q : Option Value → Shared → Prop} {E : Value → Shared → Prop} (hh : X.A.handled = none) (hd : X.A.depth < recursionLimit) (hpin : ∀ H s, Inv Xg [] (tau0 Xg.N) H s → s.heap.IsGen a gn ∧ s.heap.NoLimit)
    (G : Goer X Xg fp tn len W Yp Endp a gn m s)
    (hstop : ∀ H s1, Inv Xg [] (tau0 Xg.N) H s1 → Endp H → Q none s1)
    (hyld : ∀ i y H v s1, RelV y v → Inv Xg [] (tau0 Xg.N) H s1 → Yp i y H → (W (i + 1) H → ∃ m', m = m' + 1 ∧ Goer X Xg fp tn len W Yp Endp a gn m' s1) → Q (some v) s1) :
    wpAny (model X.prog X.w) X.A.in1 (pyNext (.ref a)) Q E s := by
  obtain ⟨hg, hl, gs, hgs, hgo⟩ := G
  have hgl : gn < s.gens.size := (Array.getElem?_eq_some_iff.mp hgs).1
  have fromSet : ∀ {H : Hp} {s1 : Shared} {x : GenState}, x.bare = true → Inv Xg [] (tau0 Xg.N) H s1 → Inv Xg [] (tau0 Xg.N) H (s1.setGen gn x) := fun {H s1 x} hx I =>
    I.call' (s' := s1.setGen gn x) (ch := []) rfl (Un.kept fun _ _ e => e) I.hok (allBare_setGen I.bare hx) (fun b hb => by simp at hb)
  refine wpAny_gsz (n := gn + 1) hgl ?_
  refine next_genG (F := fun n s₀ s₁ => ∃ H, Inv Xg [] (tau0 Xg.N) H s₁ ∧ Endp H) (Er := fun _ _ => False) (A := X.A.in1) (g := gn) hh hl hd hg hgs ?_ (fun v s₁ gs' hbare hv => ?_) (fun s₁ hp h' hk => ?_) (fun e s₁ he => he.elim)
    (Y := YX Xg fp tn len W Yp) (n := m)
  · exact hgo
  · obtain ⟨i, y, H, h1, h2, h3, h4, h5⟩ := hv
    intro hsz
    have hsz1 : gn < s₁.gens.size := by
      have q : (s₁.setGen gn gs').gens.size = s₁.gens.size := setGen_size _ _ _
      have hsz' : gn + 1 ≤ (s₁.setGen gn gs').gens.size := hsz
      omega
    refine hyld i y H v _ h2 (fromSet hbare h3.1) h4 fun w => ?_
    have h6 := h5 w ((s₁.setGen gn gs').setGen gn .running) ⟨rfl, allBare_setGen (s := s₁.setGen gn gs') (allBare_setGen h3.1.bare hbare) rfl, fun _ _ e => e⟩
    cases m with
    | zero => exact h6.elim
    | succ m' =>
      refine ⟨m', rfl, (hpin _ _ h3.1).1, (hpin _ _ h3.1).2, gs', setGen_at hsz1, ?_⟩
      exact h6
  · obtain ⟨H, I1, hE⟩ := hp
    intro hsz
    have I2 := fromSet (x := .finished) rfl I1
    exact hstop H _ (I2.call' (s' := { s₁.setGen gn .finished with heap := h' }) (ch := []) rfl (Un.kept hk) (I2.hok.kept hk) I2.bare (fun b hb => by simp at hb)) hE

theorem all_gx {R : Result → Shared → Prop} (hh : X.A.handled = none) (hd : X.A.depth < recursionLimit) (hpin : ∀ H s, Inv Xg [] (tau0 Xg.N) H s → s.heap.IsGen a gn ∧ s.heap.NoLimit)
    (hT : ∀ H s1, Inv Xg [] (tau0 Xg.N) H s1 → Endp H → R (.ok (.ret (.bool true))) s1)
    (hY : ∀ i y H, Yp i y H → ∃ b, y = .bl b ∧ (b = true → W (i + 1) H) ∧ (b = false → ∀ s1, Inv Xg [] (tau0 Xg.N) H s1 → R (.ok (.ret (.bool false))) s1)) :
    ∀ (m : Nat) (s : Shared), Goer X Xg fp tn len W Yp Endp a gn m s → codeAny (model X.prog X.w) X.A (.builtin "all.loop" ⟨[.ref a], []⟩) R s := by
  intro m
  induction m with
  | zero =>
    intro s G
    refine codeAny_builtin F.entry_all_loop ?_
    rw [Around.under_plainId F.plain_all_loop _]
    show wpAny _ X.A.in1 (pyNext (.ref a) >>= _) _ _ s
    refine wpAny_bind (next_gx hh hd hpin G (fun H s1 I1 hE => ?_) fun i y H v s1 rv I1 hy hw => ?_)
    · exact wpAny_bind (wpAny_rule (wpAny_pure (hT H s1 I1 hE)))
    · obtain ⟨b, rfl, h1, h2⟩ := hY i y H hy
      cases rv
      refine wpAny_bind (wpAny_holding (wpAny_truthy_bool ?_))
      refine wpAny_bind (wpAny_letGo ?_)
      cases b with
      | true =>
        obtain ⟨m', e, _⟩ := hw (h1 rfl)
        cases e
      | false =>
        simp only [Bool.false_eq_true, if_false]
        exact wpAny_bind (wpAny_rule (wpAny_pure (h2 rfl s1 I1)))
  | succ m ih =>
    intro s G
    refine codeAny_builtin F.entry_all_loop ?_
    rw [Around.under_plainId F.plain_all_loop _]
    show wpAny _ X.A.in1 (pyNext (.ref a) >>= _) _ _ s
    refine wpAny_bind (next_gx hh hd hpin G (fun H s1 I1 hE => ?_) fun i y H v s1 rv I1 hy hw => ?_)
    · exact wpAny_bind (wpAny_rule (wpAny_pure (hT H s1 I1 hE)))
    · obtain ⟨b, rfl, h1, h2⟩ := hY i y H hy
      cases rv
      refine wpAny_bind (wpAny_holding (wpAny_truthy_bool ?_))
      refine wpAny_bind (wpAny_letGo ?_)
      cases b with
      | true =>
        obtain ⟨m', e, G'⟩ := hw (h1 rfl)
        obtain rfl : m = m' := by omega
        simp only [if_true]
        exact wpAny_pure ⟨plainId_quiet F.plain_all_loop _, ih _ G'⟩
      | false =>
        simp only [Bool.false_eq_true, if_false]
        exact wpAny_bind (wpAny_rule (wpAny_pure (h2 rfl s1 I1)))
end

/-! ### the making -/
section
variable {X : Cx} {scope : Scope} {N : List Str} {tg elt iter : Expr} {gpos : Pos} {wi : TI} {g : TG} {te : TE} {c P : Addr} {k : Nat}
/-- any context that a generator expression with this scope may have, woken from X -/
def IsG (X : Cx) (scope : Scope) (N : List Str) (Xg : Cx) : Prop := ∃ cl C code s4 H4 fp pn, Xg = gcx X (genEnv scope cl C code builtinsNs X.env) N s4 H4 fp pn
theorem room_g (hr : Room (k + 1) X.A) (env : Env) : Room k (X.A.in1.in1.deeper env) :=
  ⟨hr.hd, by have := hr.dp; show X.A.depth + 1 + 3 * k + 5 < _; omega, by have := hr.un; show X.A.units + 1 + 1 + 3 + 16 * k + 200 < _; omega⟩
theorem IsG.room {Xg : Cx} (h : IsG X scope N Xg) (hr : Room (k + 1) X.A) : Room k Xg.A := by
  obtain ⟨cl, C, code, s4, H4, fp, pn, rfl⟩ := h
  exact room_g hr _

/-- a generator that is made and ready -/
structure Ready (X : Cx) (scope : Scope) (N : List Str) (tg elt iter : Expr) (gpos : Pos) (pins : List (Addr × Obj)) (σ : L2.St) (J : It) (H2 : Hp) (a : Addr) (gn : Nat) (it : Addr) (fp : List Addr) (tn : Nat → Heap → Prop) (Xg : Cx) (cenv : Env) (s5 : Shared) : Prop where
  isg : IsG X scope N Xg
  isx : ∃ s4 pn, Xg = gcx X cenv N s4 H2 fp pn
  co : cenv.scope.isCoroutine = false
  turn : Turn X.prog X.w X.K tg J fp it tn
  fpok : ∀ H, (∀ b ∈ fp, H b = none) → ∀ b ∈ fp, FpOk Xg [] H b
  at0 : At Xg fp tn 0 H2 s5
  gen : s5.gens[gn]? = some (.fresh (.compStart (.GeneratorExp elt [⟨tg, iter, [], 0⟩] scope gpos) 0 (.ref it) .none cenv))
  pin : ∀ H s, Inv Xg [] (tau0 Xg.N) H s → s.heap.IsGen a gn ∧ s.heap.NoLimit
  back : ∀ H' s', Inv Xg [] (tau0 Xg.N) H' s' → Inv X pins σ H' s'

theorem gen_made {pins : List (Addr × Obj)} {σ : L2.St} {H : Hp} {s : Shared} {Q' : Value → Shared → Prop} {R : It → Hp → Prop} (hr : Room k X.A) (TB : LamX.TabB X.base X.mg c P) (hcode : X.env.code = .ref c) (S : GScp scope) (hi : PI X tg iter wi)
    (hs : ∀ v, genFold iter X.env v = pure v) (I : Inv X pins σ H s) (h : wi σ H fun J H1 => GxR.TabG H1 P ∧ ∀ H2, GxR.Tabbed P H1 H2 → R J H2)
    (hQ : ∀ J H2 a s5 gn it fp tn Xg cenv, R J H2 → Ready X scope N tg elt iter gpos pins σ J H2 a gn it fp tn Xg cenv s5 → Q' (.ref a) s5) :
    wpAny (model X.prog X.w) X.A (eval (.GeneratorExp elt [⟨tg, iter, [], 0⟩] scope gpos) X.env) Q' X.xe s := by
  refine wpAny_GeneratorExp_make S.co (closure_ok (fun y hy e => absurd e (S.free y hy))) S.cell S.dot S.kind (by have := hr.dp; omega) ?_ hs
  refine thn (hi.run pins s σ H _ I h) fun xv s1 h1 => thn h1 fun itv s2 h2 => ?_
  obtain ⟨it, fp, tn, J, H1, rfl, I2, T, st2, f2, ⟨ps, hP, ht⟩, q1⟩ := h2
  refine ⟨I2.nolimit, ?_⟩
  have hPs : s2.heap.get? P = some { cls := .none, data := .fields ps } := I2.hok P _ hP
  have hPlt : P < s2.heap.objs.size := Heap.lt_size hPs
  have cd : PySem.W.CodeHd s2.heap c P := TB.code.keeps fun b u e => I2.bk b u e
  have cont : ∀ (code : Value) (h3 : Heap) (tk : Nat) (ps' : Array Value), Heap.ExtBut P s2.heap h3 → s2.heap.objs.size ≤ h3.objs.size → h3.get? P = some { cls := .none, data := .fields ps' } → (∃ more, ps' = ps ++ more) → TriplesOk ps'.toList →
      wpAny (model X.prog X.w) X.A (builtinsFor X.env.globals X.env.builtins) (fun bi s₄ =>
        ∀ h', h'.Ns s₄.heap.objs.size (fun y => if y = ".0" then some (.ref it) else none) → Heap.SameBut s₄.heap.objs.size (s₄.heap.push { cls := .type "frame", data := .dict #[] }) h' →
          Q' (.ref h'.objs.size) { s₄ with
            gens := s₄.gens.push (.fresh (.compStart (.GeneratorExp elt [⟨tg, iter, [], 0⟩] scope gpos) 0 (.ref it) .none (genEnv scope (cloFrom X.env.cells scope.names []) s₄.heap.objs.size code bi X.env))),
            toks := s₄.toks + 1 + 1 + 1,
            heap := h'.push { cls := .type "generator", data := .fields #[.int s₄.gens.size 0, .str "<genexpr>" (s₄.toks + 1), .str (X.env.qual ++ "<genexpr>") (s₄.toks + 1 + 1)] } }) X.xe { s2 with heap := h3, toks := tk } := by
    intro code h3 tk ps' hx hsz hP3 hmore ht3
    obtain ⟨bm, ob, e1, e2, e3, e4, e5, e6, e7, e8⟩ := TB.bm
    refine wpAny_builtinsFor (m := X.mg) (by rw [I2.ok.glob]; exact (I2.mod.glob.keeps I2.bk).extBut hx TB.gP) e1 e2 (hx _ _ e4 (I2.bk _ _ e5)) e6 e7 e8 ?_
    rw [clo_nil S.free]
    obtain ⟨more, em⟩ := hmore
    subst em
    have J4 : Inv X pins σ (upd H1 P (.tbl (ps ++ more))) { s2 with heap := h3, toks := tk } := GxR.inv_tab (g' := s2.gens) (d' := s2.drawn) I2 hP (fun b o hb e => hx b o hb e) hP3 I2.bare
    have fpP : ∀ b ∈ fp, b ≠ P := fun b hb z => by
      have := (f2 b hb).1
      rw [z, hP] at this
      cases this
    have st3 : tn 0 h3 := T.keep _ _ _ st2 fun b hb o e => hx b o (fpP b hb) e
    have f4 : ∀ b ∈ fp, upd H1 P (.tbl (ps ++ more)) b = none := fun b hb => by rw [upd_ne (fpP b hb)]; exact (f2 b hb).1
    have fplt : ∀ b ∈ fp, b < h3.objs.size := fun b hb => by
      obtain ⟨o, e, _⟩ := T.obj _ _ st3 b hb
      exact Heap.lt_size e
    have fpst : ∀ b ∈ fp, b ∉ frs X.stack := fun b hb hm => by
      rcases List.mem_cons.mp (J4.stkSub b hm) with z | z
      · exact (f2 b hb).2.1 z
      · exact (f2 b hb).2.2.1 z
    intro h' hn' hs'
    show Q' (.ref h'.objs.size) _
    have hsz' : h'.objs.size = h3.objs.size + 1 := by rw [hs'.1]; exact Heap.size_push ..
    generalize hgo : ({ cls := .type "generator", data := .fields #[.int s2.gens.size 0, .str "<genexpr>" (tk + 1), .str (X.env.qual ++ "<genexpr>") (tk + 1 + 1)] } : Obj) = go
    have keep1 : ∀ b o, h3.get? b = some o → h'.get? b = some o := fun b o e => hs'.extBut b o (Nat.ne_of_lt (Heap.lt_size e)) (Heap.get?_push_of_some _ e)
    have keep5 : ∀ b o, h3.get? b = some o → (h'.push go).get? b = some o := fun b o e => Heap.get?_push_of_some _ (keep1 b o e)
    have hgoat : (h'.push go).get? h'.objs.size = some go := by
      subst hgo
      exact Heap.get?_push_size _ rfl
    have ngo : ∀ v, go.data ≠ .cell v := fun v z => by
      subst hgo
      cases z
    have nC : ∀ b, b < h3.objs.size → b ≠ h3.objs.size := fun b hb => Nat.ne_of_lt hb
    refine hQ J _ h'.objs.size _ s2.gens.size it fp tn (gcx X (genEnv scope [] h3.objs.size code builtinsNs X.env) N { s2 with heap := h3, toks := tk } (upd H1 P (.tbl (ps ++ more))) fp [(h'.objs.size, go)]) (genEnv scope [] h3.objs.size code builtinsNs X.env)
      (q1 _ ⟨⟨ps ++ more, upd_same, ht3⟩, fun b hb => upd_ne hb⟩) ⟨⟨_, _, _, _, _, _, _, rfl⟩, ⟨_, _, rfl⟩, S.co, T, ?_, ?_, ?_, ?_, ?_⟩
    · intro H5 hn b hb
      refine ⟨hn b hb, nC b (fplt b hb), fpst b hb, .inl hb, fun y cc e => ?_, fun p hp => ?_⟩
      · cases (show ([] : List (Str × Addr)).lookup y = some cc from e)
      · rw [List.append_nil] at hp
        rw [List.mem_singleton.mp hp]
        show h'.objs.size ≠ b
        exact Nat.ne_of_gt (Nat.lt_of_lt_of_le (fplt b hb) (show h3.objs.size ≤ h'.objs.size by omega))
    · refine ⟨⟨⟨J4.ok.mod, S.kind, J4.ok.glob, rfl, Nat.le_refl _, fun y z cc e => ?_, fun y hy => ?_, fun y cc e => ?_, fun _ => hr.hd, ?_, .inr ⟨rfl, rfl⟩, fun b hb => ⟨nC b (fplt b hb), fun y cc e => ?_⟩, J4.bs, Nat.le_trans J4.ok.bsz J4.sz, fun b o e hb => ?_, fpst, J4.stack, J4.stkFree⟩,
        rfl, AllBare.push J4.bare rfl, Un.kept keep5, ⟨_, hn'.push go, fun i y v e1 e2 e3 => ?_⟩, fun y cc e => ?_, ?_, fun y cc e => ?_, fun p hp => ?_, J4.hok.kept keep5, ?_⟩, ?_, f4⟩
      · cases (show ([] : List (Str × Addr)).lookup y = some cc from e)
      · rcases hy with hy | hy
        · exact absurd rfl (S.cell _ (PySem.mem_of_lookup (show scope.names.lookup y = some .cell from hy)))
        · exact absurd rfl (S.free _ (PySem.mem_of_lookup (show scope.names.lookup y = some .free from hy)))
      · cases e
      · exact Around.frames_deeper J4.ok.frames
      · cases (show ([] : List (Str × Addr)).lookup y = some cc from e)
      · have h1 := (J4.ok.bs b o e).1
        rcases (f2 b hb).2.2.2.1 with z | z
        · exact J4.ok.noex b o e z
        · exact absurd (Nat.lt_of_lt_of_le (Heap.lt_size h1) z) (Nat.lt_irrefl _)
      · have e2' : (tau0 N)[i]? = some (some v) := e2
        unfold tau0 at e2'
        rw [List.getElem?_map] at e2'
        cases q : N[i]? with
        | none => rw [q] at e2'; cases e2'
        | some y => rw [q] at e2'; cases e2'
      · cases (show ([] : List (Str × Addr)).lookup y = some cc from e)
      · exact J4.hok.fresh (Nat.le_refl _)
      · cases (show ([] : List (Str × Addr)).lookup y = some cc from e)
      · rw [List.append_nil] at hp
        rw [List.mem_singleton.mp hp]
        have hge : h3.objs.size ≤ h'.objs.size := by omega
        refine ⟨hgoat, J4.hok.fresh hge, Nat.ne_of_gt (show h3.objs.size < h'.objs.size by omega), fun hm => ?_, ngo⟩
        rcases List.mem_cons.mp (J4.stkSub _ hm) with z | z
        · exact absurd (Nat.lt_of_lt_of_le J4.lt (by rw [← z]; exact hge)) (Nat.lt_irrefl _)
        · exact J4.nofs hge z
      · show (tau0 N).length = N.length
        unfold tau0
        rw [List.length_map]
      · exact T.keep _ _ _ st3 fun b _ o e => keep5 b o e
    · show (s2.gens.push _)[s2.gens.size]? = _
      exact Array.getElem?_push_size ..
    · intro H5 s6 I6
      refine ⟨?_, I6.nolimit⟩
      have e6 := (I6.pin (h'.objs.size, go) (List.mem_append_left _ (List.mem_singleton.mpr rfl))).1
      refine ⟨go, .str "<genexpr>" (tk + 1), .str (X.env.qual ++ "<genexpr>") (tk + 1 + 1), e6, ?_, ?_, ?_⟩ <;> (subst hgo; rfl)
    · intro H5 s6 I6
      exact J4.call' (ch := fp) I6.os I6.base I6.hok I6.bare fun b hb => ⟨(f2 b hb).2.2.2.1, (f2 b hb).2.1, (f2 b hb).2.2.2.2.1, (f2 b hb).2.2.2.2.2⟩
  cases hf : codeAmong gpos ps.toList with
  | none =>
    refine wpAny_genexprCodeX hcode (cd.code hPs ht) (cd.tab hPs) hf fun c' h' tk hx hge hlt hco' _ htab' _ => ?_
    obtain ⟨o1, vs, f1, tf, fl, tg, inF, tx, tt, op, _, _, _, _, _, _, _, _, _, htr, _⟩ := hco'
    exact cont _ h' tk _ hx (Nat.le_trans hge (Nat.le_of_lt hlt)) htab'.2 ⟨_, rfl⟩ htr
  | some cv =>
    refine wpAny_genexprCode_hit hcode (cd.code hPs ht) hf ?_
    exact cont cv s2.heap s2.toks ps (Heap.ExtBut.refl _ _) (Nat.le_refl _) hPs ⟨#[], by simp⟩ ht

/-! ### all(elt for x in it) -/
def tAllG (P : Addr) (N : List Str) (wi : TI) (g : TG) (te : TE) : TE := fun σ H Q => wi σ H fun J H1 => GxR.TabG H1 P ∧ ∀ H2, GxR.Tabbed P H1 H2 →
  ∃ (len : Nat) (W : Nat → Hp → Prop), W 0 H2 ∧ ∀ i H, W i H → i ≤ len ∧ ((J.stop i H ∧ Q (.bl true) H) ∨ (i < len ∧ J.go i H ∧ ∀ x H', J.yld i H x H' → g x (tau0 N) H' fun τ2 H2 => te τ2 H2 fun y H3 => ∃ b, y = .bl b ∧ if b = true then W (i + 1) H3 else Q (.bl false) H3))
theorem pe_allG {p pos : Pos} (hr : Room k X.A) (hg : Gl X "all") (hm : X.mg "all" = none) (TB : LamX.TabB X.base X.mg c P) (hcode : X.env.code = .ref c) (S : GScp scope) (hi : PI X tg iter wi)
    (hel : ∀ Xg, IsG X scope N Xg → PG Xg tg g ∧ PE Xg elt te) (hs : ∀ v, genFold iter X.env v = pure v := by intro _; rfl)
    (he : starEach [.GeneratorExp elt [⟨tg, iter, [], 0⟩] scope gpos] X.env = (false, eval (.GeneratorExp elt [⟨tg, iter, [], 0⟩] scope gpos) X.env) :: starEach [] X.env := by rfl) :
    PE X (.Call (.Name "all" p) [.GeneratorExp elt [⟨tg, iter, [], 0⟩] scope gpos] [] pos) (tAllG P N wi g te) := by
  refine ⟨fun pins s σ H Q I h => ?_⟩
  refine wpAny_Call_Name_kw (ld_blt I hg hm (show bootBuiltins "all" = some (.builtin "all") by decide +kernel) ?_)
  refine PyProof.Rows.callWith_builtin1 ?_ he (by rfl)
  rw [he]
  show wpAny _ _ (spliced ((false, eval (.GeneratorExp elt [⟨tg, iter, [], 0⟩] scope gpos) X.env) :: backTo pos (starEach [] X.env))) _ _ s
  refine Calls.spliced_cons (gen_made (N := N) hr TB hcode S hi hs I h fun J H2 a s5 gn it fp tn Xg cenv hR RD => ?_)
  obtain ⟨len, W, w0, hW⟩ := hR
  refine Calls.spliced_nil ?_
  obtain ⟨hPG, hPE⟩ := hel Xg RD.isg
  obtain ⟨s4, pn, rfl⟩ := RD.isx
  have seg := fun (s₀ s : Shared) (H : Hp) => seg_gs (iter := iter) (scope := scope) (pos := gpos) (len := len) (W := W) (Endp := fun H => Q (.bl true) H) (Yp := fun i y H3 => ∃ b, y = .bl b ∧ if b = true then W (i + 1) H3 else Q (.bl false) H3)
    RD.co RD.turn RD.fpok hPG hPE hW s₀ s H
  refine call_function_tree F.kind_all F.plain_all F.entry_all (F.args_all1 _) ?_
  unfold Builtin.«all»
  refine wpAny_bind (m := oneArg "all" _) (wpAny_pure ?_)
  refine wpAny_bind (wpAny_pyIter_gen (RD.pin _ _ RD.at0.1).1 ?_)
  refine wpAny_pure ⟨plainId_quiet F.plain_all_loop _, ?_⟩
  refine all_gx (Xg := gcx X cenv N s4 H2 fp pn) hr.hd (by have := hr.dp; omega) RD.pin (fun H' s' I' hE => ?_) (fun i y H' hy => ?_) len s5 ⟨(RD.pin _ _ RD.at0.1).1, (RD.pin _ _ RD.at0.1).2, _, RD.gen, rfl, seg _ _ _ (RD.at0.slp RD.turn.keep ⟨rfl, allBare_setGen RD.at0.1.bare rfl, fun _ _ e => e⟩) w0⟩
  · exact ⟨.bl true, H', RD.back H' s' I', rfl, hE⟩
  · obtain ⟨b, rfl, hb⟩ := hy
    refine ⟨b, rfl, fun e => ?_, fun e s1 I1 => ?_⟩
    · rw [if_pos e] at hb
      exact hb
    · subst e
      rw [if_neg Bool.false_ne_true] at hb
      exact ⟨.bl false, H', RD.back H' s1 I1, rfl, hb⟩
end
end GX

set_option Elab.async false
set_option linter.all false
set_option maxRecDepth 100000
set_option maxHeartbeats 2000000
namespace HK
open PySem PySem.Spec PyProof.Rows L2

/-! ### constants of the module -/
def GloE (mg : Str → Option Value) (x : Str) (v : V) : Prop := ∃ u, mg x = some u ∧ RelV v u
theorem pe_glo {X : Cx} {x : Str} {v : V} {pos : Pos} (hg : Gl X x) (h : GloE X.mg x v) (hd : (x == ("__debug__" : Str)) = false := by decide) : PE X (.Name x pos) (tC v) := by
  obtain ⟨u, h1, h2⟩ := h
  exact pe_glob hg h1 h2 hd

/-! ### defs -/
/-- a def of the text, at f, its code object's value cd -/
structure FnAt (K : PySem.W.Frag) (mg : Str → Option Value) (x : Str) (st : Stmt) (ps : List Str) (f : Addr) (cd : Value) : Prop where
  ex : ∃ (oc : Value) (od : Option Addr) (kV doc pm : Value) (an : Option Addr) (ct : Value) (osl : Array (Option Value)),
    K.lookup f = some ⟨oc, od, .func (PySem.W.fnOf x x (defArgs st) (defBody st) (defScope st) .none kV doc pm an cd ct), osl⟩ ∧ PySem.W.codeIn K cd x = true ∧
    Binds K (PySem.W.fnOf x x (defArgs st) (defBody st) (defScope st) .none kV doc pm an cd ct) ps []
  kp : PySem.W.keepIn K (.ref f) = true
  mgf : mg x = some (.ref f)
/-- a def that may be called by its name -/
def CalE (P : Program) (w : World) (K : PySem.W.Frag) (mg : Str → Option Value) (base : Heap) (CX : CXT) (k : Nat) (x : Str) (sp : Sp) : Prop :=
  ∃ (f : Addr) (fd : FuncData) (ps : List Str), FnOk P w K mg base CX k f fd ps sp ∧ mg x = some (.ref f) ∧ PySem.W.keepIn K (.ref f) = true ∧ Binds K fd ps []
section
variable {P : Program} {w : World} {K : PySem.W.Frag} {mg : Str → Option Value} {base : Heap} {x : Str} {st : Stmt} {f : Addr} {cd : Value} {N ps : List Str} {k : Nat} {sp : Sp}
theorem FnAt.cal (F : FnAt K mg x st ps f cd) (S : FnScope N ps (defScope st)) (len : ∀ vs H Q E, sp vs H Q E → vs.length = ps.length)
    (hbody : ∀ (A : Around) (outer : List Env) (s : Shared) (H : Hp) (vs : List V) (Q : VK) (E : XK), Room k (A.deeper (envOfC x (defScope st) s.heap.objs.size f cd)) → sp vs H Q E →
      ∃ t, PSs (cxOf CX0 P w K mg base N x (defScope st) f cd A outer s H E).nox (defBody st) t ∧ t { nx := fun _ H' => Q .non H', rt := Q } (start N vs) H) : CalE P w K mg base CX0 (k + 1) x sp := by
  obtain ⟨oc, od, kV, doc, pm, an, ct, osl, lk, hcd, hb⟩ := F.ex
  refine ⟨f, _, ps, fn_of lk hcd S len fun A outer s H vs Q E hr hsp => ?_, F.mgf, F.kp, hb⟩
  obtain ⟨t, h, q⟩ := hbody A outer s H vs Q E hr hsp
  exact ⟨t, h.nox, q⟩
/-- .. of a def that may raise -/
theorem FnAt.calX (F : FnAt K mg x st ps f cd) (S : FnScope N ps (defScope st)) (len : ∀ vs H Q E, sp vs H Q E → vs.length = ps.length)
    (hbody : ∀ (A : Around) (outer : List Env) (s : Shared) (H : Hp) (vs : List V) (Q : VK) (E : XK), Room k (A.deeper (envOfC x (defScope st) s.heap.objs.size f cd)) → sp vs H Q E →
      ∃ t, PSs (cxOf (L2.CX P w) P w K mg base N x (defScope st) f cd A outer s H E) (defBody st) t ∧ t { nx := fun _ H' => Q .non H', rt := Q } (start N vs) H) : CalE P w K mg base (L2.CX P w) (k + 1) x sp := by
  obtain ⟨oc, od, kV, doc, pm, an, ct, osl, lk, hcd, hb⟩ := F.ex
  exact ⟨f, _, ps, fn_of lk hcd S len fun A outer s H vs Q E hr hsp => hbody A outer s H vs Q E hr hsp, F.mgf, F.kp, hb⟩
theorem CalE.mono {CX : CXT} {j : Nat} (c : CalE P w K mg base CX j x sp) (h : j ≤ k) : CalE P w K mg base CX k x sp := by
  obtain ⟨f, fd, ps, F, r⟩ := c
  exact ⟨f, fd, ps, F.mono h, r⟩
/-- the law itself, by its body -/
def FnG (P : Program) (w : World) (K : PySem.W.Frag) (mg : Str → Option Value) (base : Heap) (CX : CXT) (k : Nat) (x : Str) (st : Stmt) (ps : List Str) (f : Addr) (cd : Value) (sp : Sp) : Prop :=
  ∀ (oc : Value) (od : Option Addr) (kV doc pm : Value) (an : Option Addr) (ct : Value) (osl : Array (Option Value)), K.lookup f = some ⟨oc, od, .func (PySem.W.fnOf x x (defArgs st) (defBody st) (defScope st) .none kV doc pm an cd ct), osl⟩ → PySem.W.codeIn K cd x = true →
    FnOk P w K mg base CX k f (PySem.W.fnOf x x (defArgs st) (defBody st) (defScope st) .none kV doc pm an cd ct) ps sp
theorem law_of (S : FnScope N ps (defScope st)) (len : ∀ vs H Q E, sp vs H Q E → vs.length = ps.length)
    (hbody : ∀ (A : Around) (outer : List Env) (s : Shared) (H : Hp) (vs : List V) (Q : VK) (E : XK), Room k (A.deeper (envOfC x (defScope st) s.heap.objs.size f cd)) → sp vs H Q E →
      ∃ t, PSs (cxOf CX0 P w K mg base N x (defScope st) f cd A outer s H E).nox (defBody st) t ∧ t { nx := fun _ H' => Q .non H', rt := Q } (start N vs) H) : FnG P w K mg base CX0 (k + 1) x st ps f cd sp := by
  intro oc od kV doc pm an ct osl lk hcd
  refine fn_of lk hcd S len fun A outer s H vs Q E hr hsp => ?_
  obtain ⟨t, h, q⟩ := hbody A outer s H vs Q E hr hsp
  exact ⟨t, h.nox, q⟩
theorem fnAt_mk {oc : Value} {od : Option Addr} {kV doc pm : Value} {an : Option Addr} {ct : Value} {osl : Array (Option Value)} (m : mg x = some (.ref f)) (l : K.lookup f = some ⟨oc, od, .func (PySem.W.fnOf x x (defArgs st) (defBody st) (defScope st) .none kV doc pm an cd ct), osl⟩)
    (c : PySem.W.codeIn K cd x = true) (kp : PySem.W.keepIn K (.ref f) = true)
    (h : ∀ us : List Value, us.length = ps.length → bindArgs (PySem.W.fnOf x x (defArgs st) (defBody st) (defScope st) .none kV doc pm an cd ct) ⟨us, []⟩ = pure (ps.zip us)) : FnAt K mg x st ps f cd :=
  ⟨⟨oc, od, kV, doc, pm, an, ct, osl, l, c, .all h⟩, kp, m⟩
end
def tCal (sp : Sp) (E : L2.St → XK) (t : TA) : TE := fun σ H Q => t σ H fun vs H1 => sp vs H1 Q (E σ)
section
variable {X : Cx} {k : Nat} {x : Str} {sp : Sp} {p pos : Pos} {e : Expr} {es : List Expr} {t : TA}
theorem pe_cal (c : CalE X.prog X.w X.K X.mg X.base CX0 k x sp) (hr : Room k X.A) (hg : Gl X x) (ha : PA X (e :: es) t) (hdb : (x == ("__debug__" : Str)) = false := by decide)
    (he : starEach (e :: es) X.env = (false, eval e X.env) :: starEach es X.env := by rfl) (hpl : (backTo pos (starEach es X.env)).any (·.1) = false := by rfl) :
    PE X (.Call (.Name x p) (e :: es) [] pos) (tCal sp (fun _ => E0) t) := by
  obtain ⟨f, fd, ps, F, hm, kp, b⟩ := c
  exact pe_callS F hr hg hm kp b (fun _ _ _ _ _ _ _ h => h.elim) ha hdb he hpl
/-- a def that may raise, where it doesn't -/
theorem pe_calL (c : CalE X.prog X.w X.K X.mg X.base (L2.CX X.prog X.w) k x sp) (hr : Room k X.A) (hg : Gl X x) (ha : PA X (e :: es) t) (hdb : (x == ("__debug__" : Str)) = false := by decide)
    (he : starEach (e :: es) X.env = (false, eval e X.env) :: starEach es X.env := by rfl) (hpl : (backTo pos (starEach es X.env)).any (·.1) = false := by rfl) :
    PE X (.Call (.Name x p) (e :: es) [] pos) (tCal sp (fun _ => E0) t) := by
  obtain ⟨f, fd, ps, F, hm, kp, b⟩ := c
  exact pe_callS F hr hg hm kp b (fun _ _ _ _ _ _ _ h => by
    obtain ⟨_, _, _, _, _, _, _, _, _, _, _, _, z⟩ := h
    exact z.elim) ha hdb he hpl
/-- .. in a try, or in a def that lets it out: W is wished of it -/
theorem pe_calS {W : WX} (c : CalE X.prog X.w X.K X.mg X.base (L2.CX X.prog X.w) k x sp) (hr : Room k X.A) (hg : Gl X x) (tk : Takes X W) (ha : PA X (e :: es) t) (hdb : (x == ("__debug__" : Str)) = false := by decide)
    (he : starEach (e :: es) X.env = (false, eval e X.env) :: starEach es X.env := by rfl) (hpl : (backTo pos (starEach es X.env)).any (·.1) = false := by rfl) :
    PE X (.Call (.Name x p) (e :: es) [] pos) (tCal sp (WE W) t) := by
  obtain ⟨f, fd, ps, F, hm, kp, b⟩ := c
  exact pe_callS F hr hg hm kp b (fun σ => passAt tk σ) ha hdb he hpl
/-- f() -/
theorem pe_cal0 (c : CalE X.prog X.w X.K X.mg X.base CX0 k x sp) (hr : Room k X.A) (hg : Gl X x) (hdb : (x == ("__debug__" : Str)) = false := by decide) : PE X (.Call (.Name x p) [] [] pos) (tCal sp (fun _ => E0) tNil) := by
  obtain ⟨f, fd, ps, F, hm, kp, b⟩ := c
  have h := pe_call0 (p := p) (pos := pos) F hr hg hm kp b .nil (pass0 (X := X)) hdb
  exact h
end

/-! ### own errors without __init__ -/
def exBases : List Value := [.type "ValueError", .type "Exception", .type "BaseException", .type "object"]
structure ExcE (K : PySem.W.Frag) (mg : Str → Option Value) (x : Str) (C : Addr) : Prop where
  m : mg x = some (.ref C)
  q : PySem.W.excIn K C exBases "ValueError.__new__" = true
  kp : PySem.W.keepIn K (.ref C) = true
  sb : PySem.W.subIn K (.ref C) (.type "BaseException") = some true
  ty : PySem.W.typeIn K (.ref C) = some (.type "type")
  is : PySem.W.isClsIn K C = true
  self : PySem.W.subIn K (.ref C) (.ref C) = some true
theorem exm_self {K : PySem.W.Frag} {S : Addr} (h1 : PySem.W.subIn K (.ref S) (.type "BaseException") = some true) (h2 : PySem.W.isClsIn K S = true) (h3 : PySem.W.typeIn K (.ref S) = some (.type "type")) (h4 : PySem.W.subIn K (.ref S) (.ref S) = some true) :
    PySem.W.exmOne K (.ref S) (.ref S) = some true := by
  have e1 : (PySem.W.subIn K (.ref S) (.type "BaseException") == some true) = true := by rw [h1] <;> rfl
  have e2 : ((PySem.W.clsIn K S).isSome && PySem.W.typeIn K (.ref S) == some (.type "type")) = true := by
    have h2' : (PySem.W.clsIn K S).isSome = true := h2
    rw [h2', h3] <;> rfl
  show (if (PySem.W.subIn K (.ref S) (.type "BaseException") == some true) = true then (if ((PySem.W.clsIn K S).isSome && PySem.W.typeIn K (.ref S) == some (.type "type")) = true then PySem.W.subIn K (.ref S) (.ref S) else none) else none) = some true
  rw [if_pos e1, if_pos e2]
  exact h4
theorem ExcE.ex {K : PySem.W.Frag} {mg : Str → Option Value} {x : Str} {C : Addr} (h : ExcE K mg x C) : PySem.W.exmOne K (.ref C) (.ref C) = some true := exm_self h.sb h.is h.ty h.self
theorem pmk_own0 {X : Cx} {C : Addr} {x : Str} {p pos : Pos} (h : ExcE X.K X.mg x C) (hg : Gl X x) (hdb : (x == ("__debug__" : Str)) = false := by decide) :
    PMk X (.Call (.Name x p) [] [] pos) (fun _ H Q => Q (.ref C) none H) := by
  intro pins s σ H Q I hq
  refine wpAny_Call_Name_kw (ld_glob I hg h.m ?_ hdb)
  refine PySem.W.callWith_K0 I.kIn h.kp ?_
  show wpAny _ _ (call (.ref C) []) _ _ _
  obtain ⟨bm, N, nm, qn, bs, hdct, sn, sub, ab, col, dd, k0, k1, k2, k3, k5, mN, hC, hN, hni, T⟩ := exc_obj I.kIn h.q
  refine wpAny_call_exc_subT PySem.F.excBase_ValueError T hC hN hni (fun h' e hm => ?_) (Nat.zero_le _)
  exact mk_of I hm (raises_own h.sb h.ty) hq (I.hok.gone hm.new)

/-! ### heaps: the tables tb may grow, what stands at ch may change, all else that was tracked stands -/
def Tabs (tb : List Addr) (H : Hp) : Prop := ∀ b ∈ tb, GxR.TabG H b
structure Ext (tb ch : List Addr) (H H' : Hp) : Prop where
  keep : ∀ b o, b ∉ tb → b ∉ ch → H b = some o → H' b = some o
  tabs : Tabs tb H → Tabs tb H'
section
variable {tb ch : List Addr} {H H1 H2 H3 : Hp} {a b p : Addr} {o : HO} {K : PySem.W.Frag} {xs : List V}
theorem Ext.refl : Ext tb ch H H := ⟨fun _ _ _ _ h => h, fun h => h⟩
theorem Ext.trans (h : Ext tb ch H H1) (g : Ext tb ch H1 H2) : Ext tb ch H H2 := ⟨fun b o h1 h2 e => g.keep b o h1 h2 (h.keep b o h1 h2 e), fun t => g.tabs (h.tabs t)⟩
theorem Ext.wide {ch' : List Addr} (h : Ext tb ch H H1) (w : ∀ b ∈ ch, b ∈ ch') : Ext tb ch' H H1 := ⟨fun b o h1 h2 e => h.keep b o h1 (fun z => h2 (w b z)) e, h.tabs⟩
theorem Ext.of0 {ch' : List Addr} (h : Ext tb [] H H1) : Ext tb ch' H H1 := h.wide fun _ z => (by cases z)
theorem Tabs.ne (t : Tabs tb H) (h : H p = none) : p ∉ tb := fun z => by
  obtain ⟨ps, e, _⟩ := t p z
  rw [h] at e
  cases e
theorem TabG.upd {c : Addr} (h : GxR.TabG H c) (hp : p ≠ c) : GxR.TabG (upd H p o) c := by
  obtain ⟨ps, e, q⟩ := h
  exact ⟨ps, by rw [upd_ne (Ne.symm hp)]; exact e, q⟩
theorem Tabs.upd (t : Tabs tb H) (hp : p ∉ tb) : Tabs tb (upd H p o) := fun b hb => TabG.upd (t b hb) fun z => hp (by rw [z]; exact hb)
/-- a new object -/
theorem Ext.new (t : Tabs tb H) (h : H p = none) : Ext tb ch H (upd H p o) :=
  ⟨fun b u _ _ e => by rw [upd_ne (ne_of_none e h)]; exact e, fun _ => t.upd (t.ne h)⟩
/-- what stands at a changed place is changed -/
theorem Ext.mut (hp : p ∈ ch) (nt : p ∉ tb) : Ext tb ch H (upd H p o) :=
  ⟨fun b u _ h2 e => by rw [upd_ne (fun z => h2 (by rw [z]; exact hp))]; exact e, fun t => t.upd nt⟩
/-- what came new may be changed -/
theorem Ext.own (t : Tabs tb H) (h : Ext tb ch H H1) (hp : H p = none) : Ext tb ch H (upd H1 p o) :=
  ⟨fun b u h1 h2 e => by rw [upd_ne (ne_of_none e hp)]; exact h.keep b u h1 h2 e, fun _ => (h.tabs t).upd (t.ne hp)⟩
theorem Ext.tabbed (h : GxR.Tabbed p H H1) (hp : p ∈ tb) : Ext tb ch H H1 :=
  ⟨fun b u h1 _ e => by rw [h.2 b (fun z => h1 (by rw [z]; exact hp))]; exact e, fun t b hb => by
    by_cases e : b = p
    · rw [e]
      exact h.1
    · obtain ⟨ps, e1, e2⟩ := t b hb
      exact ⟨ps, by rw [h.2 b e]; exact e1, e2⟩⟩
theorem Ext.free (h : Ext tb ch H H1) (t : Tabs tb H) (hp : H1 p = none) (hc : p ∉ ch) : H p = none := by
  cases e : H p with
  | none => rfl
  | some u =>
    by_cases hb : p ∈ tb
    · exact absurd hp (fun z => by
        obtain ⟨ps, e1, _⟩ := h.tabs t p hb
        rw [z] at e1
        cases e1)
    · rw [h.keep p u hb hc e] at hp
      cases hp
theorem ne_tab (t : Tabs tb H) (e : H a = some o) (ho : ∀ ps, o ≠ .tbl ps) : a ∉ tb := fun z => by
  obtain ⟨ps, e1, _⟩ := t a z
  rw [e] at e1
  exact ho ps (Option.some.inj e1)
theorem Ext.rd (h : Ext tb ch H H1) (t : Tabs tb H) {u : HO} (hu : (∃ xs, u = .lst xs) ∨ ∃ xs, u = .tup xs) (r : Rd H a u) (hc : a ∉ ch) : Rd H1 a u := by
  rcases r with r | ⟨oo, r⟩
  · exact .inl (h.keep _ _ (ne_tab t r fun ps z => by rcases hu with ⟨xs, rfl⟩ | ⟨xs, rfl⟩ <;> cases z) hc r)
  · exact .inr ⟨oo, h.keep _ _ (ne_tab t r fun ps z => by cases z) hc r⟩
theorem Ext.sqL (h : Ext tb ch H H1) (t : Tabs tb H) (s : SqL K H a xs) (hc : a ∉ ch) : SqL K H1 a xs := by
  rcases s with s | s
  · exact .inl (h.rd t (.inl ⟨_, rfl⟩) s hc)
  · exact .inr s
theorem Ext.sqT (h : Ext tb ch H H1) (t : Tabs tb H) (s : SqT K H a xs) (hc : a ∉ ch) : SqT K H1 a xs := by
  rcases s with s | s
  · exact .inl (h.rd t (.inr ⟨_, rfl⟩) s hc)
  · exact .inr s
theorem Ext.lst (h : Ext tb ch H H1) (t : Tabs tb H) (e : H a = some (.lst xs)) (hc : a ∉ ch) : H1 a = some (.lst xs) := h.keep _ _ (ne_tab t e fun ps z => by cases z) hc e
theorem Ext.tup (h : Ext tb ch H H1) (t : Tabs tb H) (e : H a = some (.tup xs)) (hc : a ∉ ch) : H1 a = some (.tup xs) := h.keep _ _ (ne_tab t e fun ps z => by cases z) hc e
theorem Ext.dK {kvs : List (Key × V)} (h : Ext tb ch H H1) (t : Tabs tb H) (e : H a = some (.dK kvs)) (hc : a ∉ ch) : H1 a = some (.dK kvs) := h.keep _ _ (ne_tab t e fun ps z => by cases z) hc e
end

/-! ### the end: a law whose defs have tables -/
/-- what is known of a def's code object and its table -/
def TabAt (K : PySem.W.Frag) (mg : Str → Option Value) (h : Heap) (q : Program) : Prop := ∀ (nm : Str) (f c P : Addr) (o : Obj) (fd : FuncData) (e : Value) (dd : Option Addr) (vs : Array Value) (sl : Array (Option Value)),
  ((recsOf q).any fun e => e.name == nm) = true → mg nm = some (.ref f) → K.lookup f = some o → o.data = .func fd → fd.code = .ref c → K.lookup c = some ⟨e, dd, .fields vs, sl⟩ → vs[11]? = some (.ref P) →
  PySem.W.CodeHd h c P ∧ h.get? P = some { cls := .none, data := .fields #[] }
theorem walk_tabs {l : PySem.W.OpenLaw} {n k : Nat} {q : Program} {loose : List Str} {XP : (Str → Option Value) → Heap → Prop} {YP : World → Heap → Prop} {d : DefRec} {K : Params → PySem.W.Frag} {CX : World → CXT} {x : Str}
    (hn : l.most = some n) (hn2 : n ≤ sizeLine) (hdf : d.params.defaults = []) (hr : Room k callerA) (hY : ∀ (w : World) (h : Heap), YP w h → (K w.params).In h)
    (F : ∀ (w : World) (mg : Str → Option Value) (fa : Addr) (h : Heap), YP w h → (K w.params).In h → h.Ns mainGlobals mg → mg d.name = some (.ref fa) → TabAt (K w.params) mg h q → LamX.LawAtS l w (K w.params) (CX w) k n x mg fa h)
    (hCX : ∀ (w : World) (H : Hp) (s : Shared) (e : Value) (s' : Shared), CX w [] H s (fun _ _ _ => False) e s' → False) :
    PySem.W.WalkO q loose XP YP l.row.toRowW d [] (fun f vs => PySem.call f vs) := by
  refine Att.attach_callB hn hdf fun w s₀ s₁ mg mb fa o pm cd doc a vs ns G Y ho hd hcd hmg hobj hints hlen hbits hg => ?_
  have KX := hY w _ Y
  have tabs : TabAt (K w.params) mg s₁.heap q := fun nm f c P o1 fd1 e dd vs1 sl hrec hm k1 k2 k3 k4 k5 => by
    obtain ⟨dL, hm1, hn1⟩ := List.any_eq_true.mp hrec
    have hn2 : dL.name = nm := beq_iff_eq.mp hn1
    obtain ⟨a', o', fd', c', P', h1, h2, h3, h4, h5, h6⟩ := G.T.tab dL hm1
    rw [hn2, hm] at h1
    cases h1
    have g1 := KX _ _ k1
    rw [g1] at h2
    cases h2
    rw [k2] at h3
    cases h3
    rw [k3] at h4
    cases h4
    have hd := PySem.W.CodeHd.of h5 h6
    obtain ⟨⟨oc, vc, e1, _, e3, e4⟩, hP⟩ := h6
    have g2 := KX _ _ k4
    rw [g2] at e1
    cases e1
    cases e3
    rw [k5] at e4
    cases e4
    exact ⟨hd, hP⟩
  obtain ⟨fd, cs, sp, hT, nT, C, hb, hsp, hF⟩ := F w mg fa _ Y KX G.T.g hmg tabs
  exact LamX.law_callTs KX G.T.g G.T.b G.T.builtins G.T.nolimit hg hT nT C G.T.bmain hobj hints (Nat.le_trans hlen hn2) hr hF hb (fun H hH hS => hsp H a ns hlen hbits hH hS) fun H e s' => hCX w H s₁ e s'

/-! ### isinstance; all over a generator expression -/
theorem isi {K : PySem.W.Frag} {H : Hp} {x : V} {t n : String} {b : Bool} {Q : VK} (ty : TyX K H x (.type t)) (hk : kitB t n = some b) (q : Q (.bl b) H) : rIsi K [x, .ty n] H Q :=
  ⟨x, .ty n, .type t, .type n, b, rfl, .ty n, ty, kit_ty hk, q⟩
def trV {α : Type} (f : α → Bool) (l : List α) (i : Nat) : Bool := match l[i]? with
  | some b => f b
  | none => false
theorem trV_some {α : Type} {f : α → Bool} {l : List α} {i : Nat} {b : α} (h : l[i]? = some b) : trV f l i = f b := by
  unfold trV
  rw [h]
theorem all_trV {α : Type} (f : α → Bool) (l : List α) : (List.range l.length).all (trV f l) = l.all f := by
  rw [Bool.eq_iff_iff, List.all_eq_true, List.all_eq_true]
  constructor
  · intro h b hb
    obtain ⟨j, hj, e⟩ := List.getElem_of_mem hb
    have q := h j (List.mem_range.mpr hj)
    rw [trV_some (List.getElem?_eq_getElem hj), e] at q
    exact q
  · intro h j hj
    have hj' := List.mem_range.mp hj
    rw [trV_some (List.getElem?_eq_getElem hj')]
    exact h _ (List.getElem_mem hj')
theorem allG_by {J : It} {N : List Str} {g : TG} {te : TE} {Q : VK} {H2 : Hp} (len : Nat) (pb : Nat → Bool) (Pv : Hp → Prop) (h0 : Pv H2) (hstop : ∀ H, Pv H → J.stop len H) (hgo : ∀ i H, i < len → Pv H → J.go i H)
    (hstep : ∀ i H x H', i < len → Pv H → J.yld i H x H' → ∀ R : VK, (∀ H3, Pv H3 → R (.bl (pb i)) H3) → g x (GX.tau0 N) H' fun τ2 H2 => te τ2 H2 R)
    (hq : ∀ H b, Pv H → b = (List.range len).all pb → Q (.bl b) H) :
    ∃ (len : Nat) (W : Nat → Hp → Prop), W 0 H2 ∧ ∀ i H, W i H → i ≤ len ∧ ((J.stop i H ∧ Q (.bl true) H) ∨ (i < len ∧ J.go i H ∧ ∀ x H', J.yld i H x H' → g x (GX.tau0 N) H' fun τ2 H2 => te τ2 H2 fun y H3 => ∃ b, y = .bl b ∧ if b = true then W (i + 1) H3 else Q (.bl false) H3)) := by
  refine ⟨len, fun i H => i ≤ len ∧ Pv H ∧ ∀ j, j < i → pb j = true, ⟨Nat.zero_le _, h0, fun j hj => absurd hj (Nat.not_lt_zero _)⟩, ?_⟩
  rintro i H ⟨hi, hp, hj⟩
  refine ⟨hi, ?_⟩
  by_cases e : i < len
  · refine .inr ⟨e, hgo i H e hp, fun x H' hy => hstep i H x H' e hp hy _ fun H3 hp3 => ⟨pb i, rfl, ?_⟩⟩
    cases hb : pb i with
    | true =>
      refine iteT ⟨e, hp3, fun j hj' => ?_⟩
      rcases Nat.lt_or_ge j i with z | z
      · exact hj j z
      · have : j = i := by omega
        rw [this]
        exact hb
    | false =>
      refine iteF (hq H3 false hp3 ?_)
      symm
      rw [List.all_eq_false]
      exact ⟨i, List.mem_range.mpr e, by rw [hb]; exact Bool.false_ne_true⟩
  · have : i = len := by omega
    subst this
    refine .inl ⟨hstop H hp, hq H true hp ?_⟩
    symm
    rw [List.all_eq_true]
    exact fun j hj' => hj j (List.mem_range.mp hj')
theorem line_of {n : Nat} (h : n ≤ 100000) : n ≤ sizeLine := Nat.le_trans h (by decide)
theorem line_lt {n : Nat} (h : n ≤ 100000) : n < sizeLine := Nat.lt_of_le_of_lt h (by decide)

/-! ### data of ints, of texts -/
theorem dp_ints {K : PySem.W.Frag} {H : Hp} : ∀ ns : List Int, DpAll K H (ns.map V.int) (ns.map PyData.int)
  | [] => .nil
  | n :: r => .cons (.int n) (dp_ints r)
theorem dp_strs {K : PySem.W.Frag} {H : Hp} : ∀ ns : List Str, DpAll K H (ns.map V.str) (ns.map PyData.str)
  | [] => .nil
  | n :: r => .cons (.str n) (dp_strs r)
theorem canAll_ints : ∀ ns : List Int, PyData.canLayAll0 (ns.map PyData.int) = true
  | [] => rfl
  | n :: r => by
    show (PyData.canLay0 (.int n) && PyData.canLayAll0 (r.map PyData.int)) = true
    rw [canAll_ints r] <;> rfl
theorem depAll_ints : ∀ ns : List Int, PyData.depthAll (ns.map PyData.int) = 0
  | [] => rfl
  | n :: r => by
    show max (PyData.depth (.int n)) (PyData.depthAll (r.map PyData.int)) = 0
    rw [depAll_ints r] <;> rfl
theorem sh_ints (ns : List Int) : SeqAt.shaped (.list (ns.map PyData.int)) = true := by
  have h1 : PyData.canLay0 (.list (ns.map PyData.int)) = true := canAll_ints ns
  have h2 : PyData.depth (.list (ns.map PyData.int)) = 1 := by
    show PyData.depthAll (ns.map PyData.int) + 1 = 1
    rw [depAll_ints]
  unfold SeqAt.shaped
  rw [h1, h2] <;> rfl
theorem canAll_strs : ∀ ns : List Str, (∀ s ∈ ns, PyData.canLay0 (.str s) = true) → PyData.canLayAll0 (ns.map PyData.str) = true
  | [], _ => rfl
  | n :: r, h => by
    show (PyData.canLay0 (.str n) && PyData.canLayAll0 (r.map PyData.str)) = true
    rw [canAll_strs r fun s hs => h s (List.mem_cons_of_mem _ hs), h n (List.mem_cons_self ..)] <;> rfl
theorem depAll_strs : ∀ ns : List Str, PyData.depthAll (ns.map PyData.str) = 0
  | [] => rfl
  | n :: r => by
    show max (PyData.depth (.str n)) (PyData.depthAll (r.map PyData.str)) = 0
    rw [depAll_strs r] <;> rfl
theorem sh_tstrs {ns : List Str} (h : ∀ s ∈ ns, PyData.canLay0 (.str s) = true) : SeqAt.shaped (.tuple (ns.map PyData.str)) = true := by
  have h1 : PyData.canLay0 (.tuple (ns.map PyData.str)) = true := canAll_strs ns h
  have h2 : PyData.depth (.tuple (ns.map PyData.str)) = 1 := by
    show PyData.depthAll (ns.map PyData.str) + 1 = 1
    rw [depAll_strs]
  unfold SeqAt.shaped
  rw [h1, h2] <;> rfl

/-! ### the layer's rules, the written part told (a comprehension's frame has another context) -/
section
variable {X : Cx} {K : PySem.W.Frag} {tg : Expr} {e : Expr} {te : TE}
theorem q_isi (h : X.K = K) : CallR X (.builtin "isinstance") (rIsi K) := h ▸ call_isi
def rLenK (K : PySem.W.Frag) : List V → Hp → VK → Prop := fun xs H Q => ∃ x n, xs = [x] ∧ LenV K x H n ∧ Q (.int n) H
theorem q_len (h : X.K = K) : CallR X (.builtin "len") (rLenK K) := h ▸ call_len
def rTupK (K : PySem.W.Frag) : List V → Hp → VK → Prop := fun xs H Q => ∃ p ys, xs = [.ref p] ∧ ((SqL K H p ys ∧ ∀ l, H l = none → Q (.ref l) (upd H l (.tup ys))) ∨ (SqT K H p ys ∧ Q (.ref p) H))
theorem q_tup (h : X.K = K) : CallR X (.type "tuple") (rTupK K) := h ▸ call_tuple_of
def rLstK (K : PySem.W.Frag) : List V → Hp → VK → Prop := fun xs H Q => ∃ p ys, xs = [.ref p] ∧ (SqL K H p ys ∨ SqT K H p ys) ∧ ∀ l, H l = none → Q (.ref l) (upd H l (.lst ys))
theorem q_lst (h : X.K = K) : CallR X (.type "list") (rLstK K) := h ▸ call_list_of
theorem q_all (h : X.K = K) (hc : X.calm = true) : CallR X (.builtin "all") (rAll K) := h ▸ cr_all hc
theorem q_any (h : X.K = K) (hc : X.calm = true) : CallR X (.builtin "any") (rAny K) := h ▸ cr_any hc
theorem q_sum (h : X.K = K) (hc : X.calm = true) : CallR X (.builtin "sum") (rSum K) := h ▸ cr_sum hc
theorem q_ixL (h : X.K = K) : IxR X (rIxL K) := h ▸ ix_list
theorem q_ixT (h : X.K = K) : IxR X (rIxT K) := h ▸ ix_tup
theorem q_slL (h : X.K = K) : SlR X (rSlL K) := h ▸ sl_list
theorem q_slT (h : X.K = K) : SlR X (rSlA K) := h ▸ sl_tupA
theorem q_in (h : X.K = K) : OpR X (compareOp .In) (rIn K false) := h ▸ op_in_seq
theorem q_nin (h : X.K = K) : OpR X (compareOp .NotIn) (rIn K true) := h ▸ op_notIn_seq
theorem q_eqD (h : X.K = K) (hu : X.A.units + 64 < cLine) : OpR X (compareOp .Eq) (rEqD K) := h ▸ op_eqD hu
theorem q_neD (h : X.K = K) (hu : X.A.units + 64 < cLine) : OpR X (compareOp .NotEq) (rNeD K) := h ▸ op_neD hu
theorem q_catT (h : X.K = K) : OpR X (binaryOp .Add) (rCatA K) := h ▸ op_catA
theorem q_piL (h : X.K = K) (hl : PE X e te) : PI X tg e (iList K te) := h ▸ pi_list hl
theorem q_piT (h : X.K = K) (hl : PE X e te) : PI X tg e (iTup K te) := h ▸ pi_tup hl
theorem q_bm {T id : String} {name : Str} {o : Expr} {es : List Expr} {to : TE} {t : TA} {r : V → List V → Hp → VK → Prop} {apos cpos : Pos} (h : X.K = K) (pa : PlainAttrs T) (slot : Slot T name id) (hty : typeOf (.builtin id) = pure (.type "method_descriptor")) (hm : MtR X id r) (ho : PE X o to) (ha : PA X (e :: es) t)
    (hbase : attributeBase o name X.env (eval o X.env) = eval o X.env := by rfl)
    (hfew : ((backTo cpos (starEach (e :: es) X.env)).all (fun x => !x.1) && (backToKw cpos (keywordEach [] X.env)).all (fun x => x.1.isSome)
      && decide ((e :: es).length + ([] : List Keyword).length + (if ([] : List Keyword).isEmpty then 0 else 1) < 30)) = true := by rfl)
    (hline : (apos.endLine == cpos.line) = true := by rfl) (hs : starEach (e :: es) X.env = (false, eval e X.env) :: starEach es X.env := by rfl) (hplain : (backTo cpos (starEach es X.env)).any (·.1) = false := by rfl) :
    PE X (.Call (.Attribute o name apos) (e :: es) [] cpos) (tBM K T r to t) := h ▸ pe_bm pa slot hty hm ho ha hbase hfew hline hs hplain
theorem q_join {o : Expr} {to : TE} {apos pos : Pos} (h : X.K = K) (ho : PE X o to) (he : PE X e te) (hs : starEach [e] X.env = [(false, eval e X.env)] := by rfl) (hbase : attributeBase o "join" X.env (eval o X.env) = eval o X.env := by rfl) (hline : (apos.endLine == pos.line) = true := by rfl) :
    PE X (.Call (.Attribute o "join" apos) [e] [] pos) (tM1 (fun x xs H Q => ∃ a p, ∃ ys : List Str, x = .str a ∧ xs = [.ref p] ∧ (SqL K H p (ys.map V.str) ∨ SqT K H p (ys.map V.str)) ∧
    (ys.map (·.length)).sum + ys.length * a.length ≤ 16777216 ∧ Q (.str (Txt.join a ys)) H) to te) := h ▸ pe_join ho he hs hbase hline
end

/-- what the end asks, from the promise of the law -/
theorem law_at {l : PySem.W.OpenLaw} {w : World} {K : PySem.W.Frag} {mg : Str → Option Value} {h : Heap} {q : Program} {k n : Nat} {x nm : Str} {st : Stmt} {f fa : Addr} {cd : Value} {sp : Sp} {cs : List (Addr × Addr)}
    (hf : mg nm = some (.ref fa)) (F : FnAt K mg nm st [x] f cd) (hcs : ∀ p ∈ cs, PySem.W.CodeHd h p.1 p.2 ∧ h.get? p.2 = some { cls := .none, data := .fields #[] } ∧ K.lookup p.2 = none)
    (hb : ∀ (kV doc pm : Value) (an : Option Addr) (ct : Value) (s : Shared) (u : Value), BindsTo s (PySem.W.fnOf nm nm (defArgs st) (defBody st) (defScope st) .none kV doc pm an cd ct) ⟨[u], []⟩ [(x, u)])
    (hsp : ∀ (H : Hp) (a : Addr) (ns : List Int), ns.length ≤ n → (∀ z ∈ ns, Builtin.Int.intBits z ≤ 1048576) → Tabs (cs.map (·.2)) H → SqL K H a (ns.map V.int) → sp [.ref a] H (fun v _ => v = .bl true) fun _ _ _ => False)
    (hF : ∀ base : Heap, K.In base → base.Ns mainGlobals mg → (∀ p ∈ cs, LamX.TabB base mg p.1 p.2) → FnG l.prog w K mg base CX0 k nm st [x] f cd sp) : LamX.LawAtS l w K CX0 k n x mg fa h := by
  obtain ⟨oc, od, kV, doc, pm, an, ct, osl, lk, hcd, _⟩ := F.ex
  have e := hf.symm.trans F.mgf
  cases e
  refine ⟨PySem.W.fnOf nm nm (defArgs st) (defBody st) (defScope st) .none kV doc pm an cd ct, cs, sp, fun p hp => (hcs p hp).2.1, fun p hp => (hcs p hp).2.2, fun p hp => (hcs p hp).1, hb kV doc pm an ct, fun H a ns h1 h2 h3 h4 => ?_, fun base hK hN hT => hF base hK hN hT oc od kV doc pm an ct osl lk hcd⟩
  refine hsp H a ns h1 h2 (fun b hb => ?_) h4
  obtain ⟨p, hp, e⟩ := List.mem_map.mp hb
  rw [← e]
  refine ⟨#[], h3 p hp, ?_⟩
  first
    | trivial
    | simp [TriplesOk]
end HK

set_option Elab.async false
set_option linter.all false
set_option maxRecDepth 100000
set_option maxHeartbeats 2000000
/-! a tuple's slice with a step other than 1: t[a:b:c] -/
namespace SL
open PySem PySem.Spec PyProof.Rows L2 HT
/-- the items of xs[lo:hi:st] -/
def pick {α : Type} (xs : List α) (lo hi : Option Int) (st : Int) : List α :=
  (List.range (Builtin.Slice.slicePlaces (Builtin.Slice.sliceAdjust lo hi st (xs.length : Int)).1 (Builtin.Slice.sliceAdjust lo hi st (xs.length : Int)).2 st)).filterMap fun (m : Nat) => xs[((Builtin.Slice.sliceAdjust lo hi st (xs.length : Int)).1 + (m : Int) * st).toNat]?
section
variable {prog : Program} {w : World} {A : Around} {E : Value → Shared → Prop} {s : Shared}
theorem applied {sl : Addr} {vl vu vs : Value} {lo hi : Option Int} {st : Int} {n : Nat} {Q : Int × Int × Nat → Shared → Prop} (hs : s.heap.IsSliceOf sl vl vu vs) (pl : IsPart vl lo) (pu : IsPart vu hi) (ps : IsPart vs (some st)) (h0 : st ≠ 0)
    (h : Q ((Builtin.Slice.sliceAdjust lo hi st (n : Int)).1, st, Builtin.Slice.slicePlaces (Builtin.Slice.sliceAdjust lo hi st (n : Int)).1 (Builtin.Slice.sliceAdjust lo hi st (n : Int)).2 st) s) : wpAny (model prog w) A (Builtin.Slice.sliceApplied (.ref sl) (pure (n : Int))) Q E s := by
  obtain ⟨os, hos, hcs, hds⟩ := id hs
  unfold Builtin.Slice.sliceApplied Builtin.Slice.sliceFields
  refine wpAny_bind (wpAny_bind (wpAny_field hos hds (x := vl) rfl (wpAny_bind (wpAny_field hos hds (x := vu) rfl (wpAny_bind (wpAny_field hos hds (x := vs) rfl (wpAny_pure ?_)))))))
  refine wpAny_bind (slicePart_ ps ?_)
  show wpAny _ _ (if (st == 0) = true then _ else _) _ _ s
  rw [if_neg (by simpa using h0)]
  refine wpAny_bind (slicePart_ pl (wpAny_bind (slicePart_ pu (wpAny_bind (wpAny_pure ?_)))))
  exact wpAny_pure h
theorem pick_size (xs : List Value) (lo hi : Option Int) (st : Int) : (pick xs lo hi st).length ≤ Builtin.Slice.slicePlaces (Builtin.Slice.sliceAdjust lo hi st (xs.length : Int)).1 (Builtin.Slice.sliceAdjust lo hi st (xs.length : Int)).2 st := by
  unfold pick
  refine Nat.le_trans (List.length_filterMap_le _ _) ?_
  rw [List.length_range]
  exact Nat.le_refl _
theorem getItem_step {t sl : Addr} {items : Array Value} {vl vu vs : Value} {lo hi : Option Int} {st : Int} {Q : Value → Shared → Prop} (ht : IsTup s.heap t items) (hs : s.heap.IsSliceOf sl vl vu vs) (pl : IsPart vl lo) (pu : IsPart vu hi) (ps : IsPart vs (some st)) (h0 : st ≠ 0) (h1 : st ≠ 1)
    (hz : (pick items.toList lo hi st).length ≤ sizeLine)
    (h : Q (.ref s.heap.objs.size) { s with heap := s.heap.push { cls := .type "tuple", data := .seq (pick items.toList lo hi st).toArray } }) : wpAny (model prog w) A (getItem (.ref t) (.ref sl)) Q E s := by
  have htake : sizeOk (.seq (pick items.toList lo hi st).toArray) := by
    show (pick items.toList lo hi st).toArray.size ≤ sizeLine
    rw [List.size_toArray]
    exact hz
  obtain ⟨os, hos, hcs, hds⟩ := id hs
  have hTs : s.TypeIs (.ref sl) "slice" := ⟨os, hos, hcs⟩
  unfold getItem
  try with_reducible refine wpAny_holding ?_
  first | refine wpAny_bind (wpAny_pure ?_) | skip
  refine wpAny_bind (wpAny_sequenceKey ht.typeIs (by decide) ?_)
  refine wpAny_bind (wpAny_callSpecial?_slot (name := Str.ofString "__getitem__") ht.typeIs PyProof.Rows.slot_tuple_getitem
    (wpAny_call_entry PyProof.Rows.slot_tuple_getitem ht.typeIs entry_tuple_getitem ?_ (args_tuple_getitem _ _)))
  show wpAny _ _ (Builtin.Tuple.tupleItemsOf (.ref t) >>= _) _ _ s
  refine wpAny_bind (tupleItemsOf_ ht ?_)
  refine wpAny_bind (wpAny_typeOf hTs ?_)
  rw [if_pos (by decide)]
  refine wpAny_bind (applied hs pl pu ps h0 ?_)
  have hno : ¬ (((Builtin.Slice.sliceAdjust lo hi st (items.size : Int)).1 == 0 && st == 1 && Builtin.Slice.slicePlaces (Builtin.Slice.sliceAdjust lo hi st (items.size : Int)).1 (Builtin.Slice.sliceAdjust lo hi st (items.size : Int)).2 st == items.size) = true) := by
    intro q
    rw [Bool.and_eq_true, Bool.and_eq_true] at q
    exact h1 (eq_of_beq q.1.2)
  show wpAny _ _ (if ((Builtin.Slice.sliceAdjust lo hi st (items.size : Int)).1 == 0 && st == 1 && Builtin.Slice.slicePlaces (Builtin.Slice.sliceAdjust lo hi st (items.size : Int)).1 (Builtin.Slice.sliceAdjust lo hi st (items.size : Int)).2 st == items.size) = true then _ else _) _ _ s
  rw [if_neg hno]
  have e : ((List.range (Builtin.Slice.slicePlaces (Builtin.Slice.sliceAdjust lo hi st (items.size : Int)).1 (Builtin.Slice.sliceAdjust lo hi st (items.size : Int)).2 st)).filterMap fun (m : Nat) => items[((Builtin.Slice.sliceAdjust lo hi st (items.size : Int)).1 + (m : Int) * st).toNat]?) = pick items.toList lo hi st := by
    unfold pick
    rw [Array.length_toList]
    congr 1
    funext m
    rw [Array.getElem?_toList]
  rw [e]
  first
    | exact wpAny_bind (m := Builtin.Tuple.tupleExact _) (wpAny_newObj_type (wpAny_pure ⟨_, rfl, wpAny_pure h⟩) htake)
    | exact wpAny_bind (m := Builtin.Tuple.tupleExact _) (wpAny_newObj_type (wpAny_bind (wpAny_pure (wpAny_pure ⟨_, rfl, wpAny_pure h⟩))) htake)
    | exact wpAny_bind (wpAny_bind (m := Builtin.Tuple.tupleExact _) (wpAny_newObj_type (wpAny_pure (wpAny_pure ⟨_, rfl, wpAny_pure h⟩)) htake))
    | exact wpAny_bind (wpAny_bind (m := Builtin.Tuple.tupleExact _) (wpAny_newObj_type (wpAny_pure ⟨_, rfl, wpAny_pure h⟩) htake))
end
theorem fm_get {xs : List V} {us : List Value} (r : Vals xs us) (f : Nat → Nat) : ∀ l : List Nat, Vals (l.filterMap fun m => xs[f m]?) (l.filterMap fun m => us[f m]?)
  | [] => .nil
  | m :: t => by
    have ih := fm_get r f t
    rw [List.filterMap_cons, List.filterMap_cons]
    cases e : xs[f m]? with
    | none =>
      rw [r.none_of e]
      exact ih
    | some x =>
      obtain ⟨u, hu, hx⟩ := r.get e
      rw [hu]
      exact .cons hx ih
theorem pick_vals {xs : List V} {us : List Value} (r : Vals xs us) (lo hi : Option Int) (st : Int) : Vals (pick xs lo hi st) (pick us lo hi st) := by
  unfold pick
  rw [← r.length]
  exact fm_get r _ _
def tStep (K : PySem.W.Frag) (te : TE) (tl th ts : TO) : TE := fun σ H Q => te σ H fun x H1 => tl σ H1 fun l H2 => th σ H2 fun u H3 => ts σ H3 fun o H4 => ∃ a xs st, x = .ref a ∧ o = some st ∧ st ≠ 0 ∧ st ≠ 1 ∧ SqT K H4 a xs ∧ (pick xs l u st).length ≤ sizeLine ∧
  ∀ p, H4 p = none → Q (.ref p) (upd H4 p (.tup (pick xs l u st)))
theorem pe_step {X : Cx} {K : PySem.W.Frag} {e : Expr} {te : TE} {lo hi : Option Expr} {sx : Expr} {tl th ts : TO} {p3 pos : Pos} (hK : X.K = K) (he : PE X e te) (hl : PO X lo tl) (hu : PO X hi th) (hst : PO X (some sx) ts) : PE X (.Subscript e (.Slice lo hi (some sx) p3) pos) (tStep K te tl th ts) := by
  subst hK
  refine ⟨fun pins s σ H Q I h => ?_⟩
  refine Subscript_ (thn (he.run pins s σ H _ I h) fun v s1 ⟨x, H1, I1, r1, q1⟩ => ?_)
  refine wpAny_Slice (thn (hl.run pins s1 σ H1 _ I1 q1) fun vl s2 ⟨l, H2, I2, pl, q2⟩ => thn (hu.run pins s2 σ H2 _ I2 q2) fun vu s3 ⟨u, H3, I3, pu, q3⟩ => ?_)
  refine thn (hst.run pins s3 σ H3 _ I3 q3) fun vs s4 ⟨o, H4, I4, ps, q4⟩ => ?_
  obtain ⟨a, xs, st, ex, eo, h0, h1, hx, hz, q⟩ := q4
  subst ex eo
  cases r1
  have I5 : Inv X pins σ H4 { s4 with heap := s4.heap.push { cls := .type "slice", data := .fields #[vl, vu, vs] } } := I4.kept (t' := s4.toks) fun b ob q => Heap.get?_push_of_some _ q
  obtain ⟨its, r, ht, hzz⟩ := I5.tuple hx
  show wpAny (model X.prog X.w) X.A (subscriptTail e (.Slice lo hi (some sx) p3) (.ref a) (.ref s4.heap.objs.size)) (EP X pins σ Q) X.xe { s4 with heap := s4.heap.push { cls := .type "slice", data := .fields #[vl, vu, vs] } }
  refine tail_any (ops := [.ref a, .ref s4.heap.objs.size]) ht.typeIs PyProof.Rows.slot_tuple_getitem.lookup ?_ (by with_unfolding_all rfl)
  have rp := pick_vals r l u st
  have e1 : its.toArray.toList = its := by simp
  refine getItem_step ht (Heap.IsSliceOf.new _ vl vu vs) pl pu ps h0 h1 (by rw [e1, ← rp.length]; exact hz) ?_
  rw [e1]
  refine ⟨.ref _, _, I5.laid (t' := s4.toks) (o := .tup (pick xs l u st)) (fun b ob q => Heap.get?_push_of_some _ q) (Nat.le_refl _) ?_, rfl, q _ (I5.hok.fresh (Nat.le_refl _))⟩
  exact ⟨hz, _, rp, ⟨_, Heap.get?_push_size _ rfl, rfl, _, rfl⟩⟩
end SL

set_option Elab.async false
set_option linter.all false
set_option maxRecDepth 100000
set_option maxHeartbeats 2000000
/-! data, and what is evaluated to some data -/
namespace DT
open PySem PySem.Spec PyProof.Rows L2 HK
/-- the kind's name -/
def tyN : PyData → String
  | .none => "NoneType"
  | .bool _ => "bool"
  | .int _ => "int"
  | .str _ => "str"
  | .list _ => "list"
  | .tuple _ => "tuple"
  | .dict _ => "dict"
def isTup : PyData → Bool
  | .tuple _ => true
  | _ => false
def isLst : PyData → Bool
  | .list _ => true
  | _ => false
def isStr : PyData → Bool
  | .str _ => true
  | _ => false
def isBl : PyData → Bool
  | .bool _ => true
  | _ => false
def isIntB : PyData → Bool
  | .int _ => true
  | .bool _ => true
  | _ => false
theorem kit_tup : ∀ d : PyData, kitB (tyN d) "tuple" = some (isTup d)
  | .none => show kitB "NoneType" "tuple" = some false by decide +kernel
  | .bool _ => show kitB "bool" "tuple" = some false by decide +kernel
  | .int _ => show kitB "int" "tuple" = some false by decide +kernel
  | .str _ => show kitB "str" "tuple" = some false by decide +kernel
  | .list _ => show kitB "list" "tuple" = some false by decide +kernel
  | .tuple _ => show kitB "tuple" "tuple" = some true by decide +kernel
  | .dict _ => show kitB "dict" "tuple" = some false by decide +kernel
theorem kit_lst : ∀ d : PyData, kitB (tyN d) "list" = some (isLst d)
  | .none => show kitB "NoneType" "list" = some false by decide +kernel
  | .bool _ => show kitB "bool" "list" = some false by decide +kernel
  | .int _ => show kitB "int" "list" = some false by decide +kernel
  | .str _ => show kitB "str" "list" = some false by decide +kernel
  | .list _ => show kitB "list" "list" = some true by decide +kernel
  | .tuple _ => show kitB "tuple" "list" = some false by decide +kernel
  | .dict _ => show kitB "dict" "list" = some false by decide +kernel
theorem kit_str : ∀ d : PyData, kitB (tyN d) "str" = some (isStr d)
  | .none => show kitB "NoneType" "str" = some false by decide +kernel
  | .bool _ => show kitB "bool" "str" = some false by decide +kernel
  | .int _ => show kitB "int" "str" = some false by decide +kernel
  | .str _ => show kitB "str" "str" = some true by decide +kernel
  | .list _ => show kitB "list" "str" = some false by decide +kernel
  | .tuple _ => show kitB "tuple" "str" = some false by decide +kernel
  | .dict _ => show kitB "dict" "str" = some false by decide +kernel
theorem kit_bool : ∀ d : PyData, kitB (tyN d) "bool" = some (isBl d)
  | .none => show kitB "NoneType" "bool" = some false by decide +kernel
  | .bool _ => show kitB "bool" "bool" = some true by decide +kernel
  | .int _ => show kitB "int" "bool" = some false by decide +kernel
  | .str _ => show kitB "str" "bool" = some false by decide +kernel
  | .list _ => show kitB "list" "bool" = some false by decide +kernel
  | .tuple _ => show kitB "tuple" "bool" = some false by decide +kernel
  | .dict _ => show kitB "dict" "bool" = some false by decide +kernel
theorem kit_int : ∀ d : PyData, kitB (tyN d) "int" = some (isIntB d)
  | .none => show kitB "NoneType" "int" = some false by decide +kernel
  | .bool _ => show kitB "bool" "int" = some true by decide +kernel
  | .int _ => show kitB "int" "int" = some true by decide +kernel
  | .str _ => show kitB "str" "int" = some false by decide +kernel
  | .list _ => show kitB "list" "int" = some false by decide +kernel
  | .tuple _ => show kitB "tuple" "int" = some false by decide +kernel
  | .dict _ => show kitB "dict" "int" = some false by decide +kernel
theorem ite_f {b : Bool} {A B : Prop} (e : b = false) (h : B) : if b = true then A else B := by
  subst e
  exact iteF h
theorem ite_t {b : Bool} {A B : Prop} (e : b = true) (h : A) : if b = true then A else B := by
  subst e
  exact iteT h
theorem ite_nf {b : Bool} {A B : Prop} (e : b = false) (h : A) : if (!b) = true then A else B := by
  subst e
  exact iteT h
theorem ite_nt {b : Bool} {A B : Prop} (e : b = true) (h : B) : if (!b) = true then A else B := by
  subst e
  exact iteF h
section
variable {K : PySem.W.Frag} {tb : List Addr} {H H' : Hp} {v : V} {d : PyData}
theorem ty_L {a : Addr} {xs : List V} (h : SqL K H a xs) : TyX K H (.ref a) (.type "list") := by
  rcases h with (h | ⟨o, h⟩) | ⟨o, its, n, h1, h2, _⟩
  · exact .base (.lst h)
  · exact .base (.frz h)
  · exact .kList h1 h2
theorem ty_T {a : Addr} {xs : List V} (h : SqT K H a xs) : TyX K H (.ref a) (.type "tuple") := by
  rcases h with (h | ⟨o, h⟩) | ⟨o, its, n, h1, h2, _⟩
  · exact .base (.tup h)
  · exact .fTuple h
  · exact .kTuple h1 h2
theorem Dp_ty (h : Dp K H v d) : TyX K H v (.type (tyN d)) := by
  cases h with
  | non => exact .base .non
  | bl b => exact .base (.bl b)
  | int i => exact .base (.int i)
  | str x => exact .base (.str x)
  | lst h _ => exact ty_L h
  | tup h _ => exact ty_T h
mutual
theorem Dp_ext (e : Ext tb [] H H') (hT : Tabs tb H) : ∀ (d : PyData) {v : V}, Dp K H v d → Dp K H' v d
  | .none, _, .non => .non
  | .bool b, _, .bl _ => .bl b
  | .int i, _, .int _ => .int i
  | .str s, _, .str _ => .str s
  | .list ds, _, .lst h a => .lst (e.sqL hT h (by simp)) (DpAll_ext e hT ds a)
  | .tuple ds, _, .tup h a => .tup (e.sqT hT h (by simp)) (DpAll_ext e hT ds a)
theorem DpAll_ext (e : Ext tb [] H H') (hT : Tabs tb H) : ∀ (ds : List PyData) {vs : List V}, DpAll K H vs ds → DpAll K H' vs ds
  | [], _, .nil => .nil
  | d :: ds, _, .cons h t => .cons (Dp_ext e hT d h) (DpAll_ext e hT ds t)
end
theorem DpAll_len : ∀ {vs : List V} {ds : List PyData}, DpAll K H vs ds → vs.length = ds.length
  | _, _, .nil => rfl
  | _, _, .cons _ t => by rw [List.length_cons, List.length_cons, DpAll_len t]
theorem DpAll_get : ∀ {vs : List V} {ds : List PyData} {i : Nat} {v : V}, DpAll K H vs ds → vs[i]? = some v → ∃ d, ds[i]? = some d ∧ Dp K H v d
  | _, _, _, _, .nil, e => by simp at e
  | _, _, 0, _, .cons h _, e => by
    simp at e
    subst e
    exact ⟨_, rfl, h⟩
  | _, _, i + 1, v, .cons _ t, e => by
    obtain ⟨d, h1, h2⟩ := DpAll_get (i := i) (v := v) t (by simpa using e)
    exact ⟨d, by simpa using h1, h2⟩
theorem DpAll_ints : ∀ {vs : List V} {ns : List Int}, DpAll K H vs (ns.map PyData.int) → vs = ns.map V.int
  | _, [], .nil => rfl
  | _, n :: r, .cons (.int _) t => by rw [DpAll_ints t] <;> rfl
theorem DpAll_two {vs : List V} {ds : List PyData} (h : DpAll K H vs ds) (hl : vs.length = 2) : ∃ x0 x1 d0 d1, vs = [x0, x1] ∧ ds = [d0, d1] ∧ Dp K H x0 d0 ∧ Dp K H x1 d1 := by
  cases h with
  | nil => cases hl
  | cons k0 h =>
    cases h with
    | nil => cases hl
    | cons k1 h =>
      cases h with
      | nil => exact ⟨_, _, _, _, rfl, rfl, k0, k1⟩
      | cons _ _ => simp at hl
/-- data, or some dict -/
def AnyD (K : PySem.W.Frag) (H : Hp) (v : V) (d : PyData) : Prop := Dp K H v d ∨ ∃ a kvs, v = .ref a ∧ H a = some (.dK kvs) ∧ d = .dict []
theorem AnyD_ty (h : AnyD K H v d) : TyX K H v (.type (tyN d)) := by
  rcases h with h | ⟨a, kvs, rfl, h, rfl⟩
  · exact Dp_ty h
  · exact .base (.dK h)
theorem AnyD_ext (e : Ext tb [] H H') (hT : Tabs tb H) (h : AnyD K H v d) : AnyD K H' v d := by
  rcases h with h | ⟨a, kvs, h1, h2, h3⟩
  · exact .inl (Dp_ext e hT d h)
  · exact .inr ⟨a, kvs, h1, e.dK hT h2 (by simp), h3⟩
theorem AnyD_tup {ds : List PyData} (h : AnyD K H v (.tuple ds)) : ∃ a vs, v = .ref a ∧ SqT K H a vs ∧ DpAll K H vs ds := by
  rcases h with h | ⟨a, kvs, h1, h2, h3⟩
  · cases h with
    | tup h1 h2 => exact ⟨_, _, rfl, h1, h2⟩
  · cases h3
end
/-! ### what evaluates to a value of which G holds, the tables tb growing -/
section
variable {K : PySem.W.Frag} {tb : List Addr} {σ : L2.St} {H : Hp}
def Gv (tb : List Addr) (te : TE) (σ : L2.St) (H : Hp) (G : Hp → V → Prop) : Prop := ∀ H1, Ext tb [] H H1 → ∀ Q : VK, (∀ v H2, Ext tb [] H1 H2 → G H2 v → Q v H2) → te σ H1 Q
def Ga (tb : List Addr) (ta : TA) (σ : L2.St) (H : Hp) (G : Hp → List V → Prop) : Prop := ∀ H1, Ext tb [] H H1 → ∀ Q : List V → Hp → Prop, (∀ vs H2, Ext tb [] H1 H2 → G H2 vs → Q vs H2) → ta σ H1 Q
abbrev GI (P : Int → Prop) : Hp → V → Prop := fun _ v => ∃ i, v = .int i ∧ P i
abbrev GD (K : PySem.W.Frag) : Hp → V → Prop := fun H v => ∃ d, Dp K H v d
abbrev GAny (K : PySem.W.Frag) : Hp → V → Prop := fun H v => ∃ d, AnyD K H v d
theorem Gv.imp {te : TE} {G G' : Hp → V → Prop} (h : Gv tb te σ H G) (w : ∀ H v, G H v → G' H v) : Gv tb te σ H G' := fun H1 e Q q => h H1 e Q fun v H2 e2 g => q v H2 e2 (w H2 v g)
theorem Gv.any {te : TE} (h : Gv tb te σ H (GD K)) : Gv tb te σ H (GAny K) := h.imp fun _ _ ⟨d, g⟩ => ⟨d, .inl g⟩
theorem Gv.int {te : TE} {P : Int → Prop} (h : Gv tb te σ H (GI P)) : Gv tb te σ H (GD K) := h.imp fun _ _ ⟨i, e, _⟩ => ⟨.int i, e ▸ .int i⟩
theorem gv_var {i : Nat} {v : V} {G : Hp → V → Prop} (h : σ[i]? = some (some v)) (g : ∀ H1, Ext tb [] H H1 → G H1 v) : Gv tb (tVar i) σ H G := fun H1 e Q q => ⟨v, h, q v H1 Ext.refl (g H1 e)⟩
theorem gv_c {v : V} {G : Hp → V → Prop} (g : ∀ H1, G H1 v) : Gv tb (tC v) σ H G := fun H1 _ Q q => q v H1 Ext.refl (g H1)
theorem gv_ci {i : Int} : Gv tb (tC (.int i)) σ H (GD K) := gv_c fun _ => ⟨_, .int i⟩
theorem gv_cn : Gv tb (tC .non) σ H (GD K) := gv_c fun _ => ⟨_, .non⟩
theorem gv_cb {b : Bool} : Gv tb (tC (.bl b)) σ H (GD K) := gv_c fun _ => ⟨_, .bl b⟩
theorem gv_cs {s : Str} : Gv tb (tC (.str s)) σ H (GD K) := gv_c fun _ => ⟨_, .str s⟩
theorem gv_d {i : Nat} {v : V} {d : PyData} (hT : Tabs tb H) (h : σ[i]? = some (some v)) (g : Dp K H v d) : Gv tb (tVar i) σ H (GD K) := gv_var h fun H1 e => ⟨d, Dp_ext e hT d g⟩
theorem gv_i {i : Nat} {n : Int} {P : Int → Prop} (h : σ[i]? = some (some (.int n))) (g : P n) : Gv tb (tVar i) σ H (GI P) := gv_var h fun _ _ => ⟨n, rfl, g⟩
theorem ga_nil {G : Hp → List V → Prop} (g : ∀ H1, G H1 []) : Ga tb tNil σ H G := fun H1 _ Q q => q [] H1 Ext.refl (g H1)
/-- items that are data, n of them -/
abbrev GDs (K : PySem.W.Frag) (n : Nat) : Hp → List V → Prop := fun H vs => vs.length = n ∧ ∃ ds, DpAll K H vs ds
theorem ga_nilD : Ga tb tNil σ H (GDs K 0) := ga_nil fun _ => ⟨rfl, [], .nil⟩
theorem ga_consD {te : TE} {ta : TA} {n : Nat} (hT : Tabs tb H) (h : Gv tb te σ H (GD K)) (t : Ga tb ta σ H (GDs K n)) : Ga tb (tCons te ta) σ H (GDs K (n + 1)) := fun H1 e Q q =>
  h H1 e _ fun v H2 e2 ⟨d, hd⟩ => t H2 (e.trans e2) _ fun vs H3 e3 ⟨hl, ds, hds⟩ => q (v :: vs) H3 (e2.trans e3) ⟨by rw [List.length_cons, hl], d :: ds, .cons (Dp_ext e3 ((e.trans e2).tabs hT) d hd) hds⟩
abbrev GAs (K : PySem.W.Frag) (n : Nat) : Hp → List V → Prop := fun H vs => vs.length = n ∧ ∀ v ∈ vs, ∃ d, AnyD K H v d
theorem ga_nilA : Ga tb tNil σ H (GAs K 0) := ga_nil fun _ => ⟨rfl, fun v hv => by cases hv⟩
theorem ga_consA {te : TE} {ta : TA} {n : Nat} (hT : Tabs tb H) (h : Gv tb te σ H (GAny K)) (t : Ga tb ta σ H (GAs K n)) : Ga tb (tCons te ta) σ H (GAs K (n + 1)) := fun H1 e Q q =>
  h H1 e _ fun v H2 e2 ⟨d, hd⟩ => t H2 (e.trans e2) _ fun vs H3 e3 ⟨hl, hds⟩ => q (v :: vs) H3 (e2.trans e3) ⟨by rw [List.length_cons, hl], fun x hx => by
    rcases List.mem_cons.mp hx with rfl | hx
    · exact ⟨d, AnyD_ext e3 ((e.trans e2).tabs hT) hd⟩
    · exact hds x hx⟩
theorem gv_tup {ta : TA} {n : Nat} (hT : Tabs tb H) (hn : n ≤ 100000) (h : Ga tb ta σ H (GDs K n)) : Gv tb (tTup ta) σ H (GD K) := fun H1 e Q q =>
  h H1 e _ fun vs H2 e2 ⟨hl, ds, hds⟩ => ⟨by rw [hl]; exact line_of hn, fun p np => by
    have e3 : Ext tb [] H2 (upd H2 p (.tup vs)) := Ext.new ((e.trans e2).tabs hT) np
    exact q _ _ (e2.trans e3) ⟨.tuple ds, .tup (SqT.of upd_same) (DpAll_ext e3 ((e.trans e2).tabs hT) ds hds)⟩⟩
theorem gv_lst {ta : TA} {n : Nat} (hT : Tabs tb H) (hn : n ≤ 100000) (h : Ga tb ta σ H (GDs K n)) : Gv tb (tLst ta) σ H (GD K) := fun H1 e Q q =>
  h H1 e _ fun vs H2 e2 ⟨hl, ds, hds⟩ => ⟨by rw [hl]; exact line_of hn, fun p np => by
    have e3 : Ext tb [] H2 (upd H2 p (.lst vs)) := Ext.new ((e.trans e2).tabs hT) np
    exact q _ _ (e2.trans e3) ⟨.list ds, .lst (SqL.of upd_same) (DpAll_ext e3 ((e.trans e2).tabs hT) ds hds)⟩⟩
theorem gv_op {ta te : TE} {g : Int → Int → Int} {P P1 P2 : Int → Prop} (ha : Gv tb ta σ H (GI P1)) (hb : Gv tb te σ H (GI P2)) (hp : ∀ i j, P1 i → P2 j → P (g i j)) : Gv tb (tOp (rI0 fun i j => .int (g i j)) ta te) σ H (GI P) := fun H1 e Q q =>
  ha H1 e _ fun _ H2 e2 ⟨i, ei, hi⟩ => hb H2 (e.trans e2) _ fun _ H3 e3 ⟨j, ej, hj⟩ => ⟨i, j, ei, ej, q _ H3 (e2.trans e3) ⟨_, rfl, hp i j hi hj⟩⟩
theorem gv_opC {ta te : TE} {C : Int → Int → Prop} {g : Int → Int → Int} {P P1 P2 : Int → Prop} (ha : Gv tb ta σ H (GI P1)) (hb : Gv tb te σ H (GI P2)) (hc : ∀ i j, P1 i → P2 j → C i j) (hp : ∀ i j, P1 i → P2 j → P (g i j)) : Gv tb (tOp (rI C fun i j => .int (g i j)) ta te) σ H (GI P) := fun H1 e Q q =>
  ha H1 e _ fun _ H2 e2 ⟨i, ei, hi⟩ => hb H2 (e.trans e2) _ fun _ H3 e3 ⟨j, ej, hj⟩ => ⟨i, j, ei, ej, hc i j hi hj, q _ H3 (e2.trans e3) ⟨_, rfl, hp i j hi hj⟩⟩
theorem gv_k {n : Int} {P : Int → Prop} (h : P n) : Gv tb (tC (.int n)) σ H (GI P) := gv_c fun _ => ⟨n, rfl, h⟩
end
/-! ### tuples joined, cut: somewhere there is such a tuple -/
section
variable {K : PySem.W.Frag} {tb : List Addr} {H : Hp} {a b : Addr} {xs ys : List V} {Q : VK}
theorem cat_rd (hT : Tabs tb H) (hx : SqT K H a xs) (hy : SqT K H b ys) (hz : xs.length + ys.length ≤ 100000) (q : ∀ p H', Ext tb [] H H' → SqT K H' p (xs ++ ys) → Q (.ref p) H') : rCatA K (.ref a) (.ref b) H Q := by
  refine ⟨a, b, xs, ys, rfl, rfl, hx, hy, line_of hz, fun e => ?_, fun _ e => ?_, fun _ _ p np => ?_⟩
  · subst e
    exact q b H Ext.refl hy
  · subst e
    refine q a H Ext.refl ?_
    rw [List.append_nil]
    exact hx
  · exact q p _ (Ext.new hT np) (SqT.of upd_same)
theorem cut_rd {lo hi : Option Int} (hT : Tabs tb H) (hx : SqT K H a xs) (q : ∀ p H', Ext tb [] H H' → SqT K H' p (cutV xs lo hi) → Q (.ref p) H') : rSlA K (.ref a) lo hi H Q := by
  refine ⟨a, xs, rfl, hx, fun hw => ?_, fun _ p np => ?_⟩
  · refine q a H Ext.refl ?_
    have : cutV xs lo hi = xs := by
      unfold cutV
      rw [hw.1, hw.2, List.drop_zero, Nat.sub_zero, List.take_length]
    rw [this]
    exact hx
  · exact q p _ (Ext.new hT np) (SqT.of upd_same)
end
theorem cut_to {α : Type} (f : α → V) (l : List α) (n : Nat) (h : n ≤ l.length) : cutV (l.map f) none (some (n : Int)) = (l.take n).map f := by
  unfold cutV
  rw [HT.sIx_nat, HT.sIx_none, List.drop_zero, Nat.sub_zero, List.length_map, List.map_take, Nat.min_eq_left h]
theorem cut_from {α : Type} (f : α → V) (l : List α) (n : Nat) : cutV (l.map f) (some (n : Int)) none = (l.drop n).map f := by
  unfold cutV
  rw [HT.sIx_nat, HT.sIx_none, List.length_map, List.map_drop]
  rcases Nat.le_total n l.length with h | h
  · rw [Nat.min_eq_left h]
    exact List.take_of_length_le (by rw [List.length_drop, List.length_map]; exact Nat.le_refl _)
  · rw [Nat.min_eq_right h, Nat.sub_self, List.take_zero]
    symm
    exact List.drop_eq_nil_of_le (by rw [List.length_map]; exact h)
end DT

set_option Elab.async false
set_option linter.all false
set_option maxRecDepth 100000
set_option maxHeartbeats 4000000
namespace K17
open PySem PySem.Spec PyProof.Rows L2 HK DT
def topS (i : Nat) : Stmt := PySem.Challenge.pw_snapshelf_k17_sums.main.body.getD i (.Pass ⟨0, 0, 0, 0⟩)
/-! is_number: slots one=0; cells [] -/
abbrev s_is_number : Stmt := topS 1
abbrev n_is_number : List Str := ["one"]
theorem sc_is_number : FnScope n_is_number ["one"] (defScope s_is_number) := ⟨rfl, rfl, rfl, by decide +kernel, rfl, by decide +kernel, by decide +kernel⟩
/-! is_content: slots one=0; cells [] -/
abbrev s_is_content : Stmt := topS 2
abbrev n_is_content : List Str := ["one"]
theorem sc_is_content : FnScope n_is_content ["one"] (defScope s_is_content) := ⟨rfl, rfl, rfl, by decide +kernel, rfl, by decide +kernel, by decide +kernel⟩
/-! sum_of: slots spot=0 content=1 total=2 number=3; cells [] -/
abbrev s_sum_of : Stmt := topS 5
abbrev n_sum_of : List Str := ["spot", "content", "total", "number"]
theorem sc_sum_of : FnScope n_sum_of ["spot", "content"] (defScope s_sum_of) := ⟨rfl, rfl, rfl, by decide +kernel, rfl, by decide +kernel, by decide +kernel⟩
/-! cell_of: slots spot=0 content=1; cells [] -/
abbrev s_cell_of : Stmt := topS 6
abbrev n_cell_of : List Str := ["spot", "content"]
theorem sc_cell_of : FnScope n_cell_of ["spot", "content"] (defScope s_cell_of) := ⟨rfl, rfl, rfl, by decide +kernel, rfl, by decide +kernel, by decide +kernel⟩
/-! is_right: slots spot=0 cell=1; cells [] -/
abbrev s_is_right : Stmt := topS 7
abbrev n_is_right : List Str := ["spot", "cell"]
theorem sc_is_right : FnScope n_is_right ["spot", "cell"] (defScope s_is_right) := ⟨rfl, rfl, rfl, by decide +kernel, rfl, by decide +kernel, by decide +kernel⟩
/-! _law_mixed: slots _law_cell=0 _law_k=1 _law_number=2; cells [] -/
abbrev s_l_mixed : Stmt := topS 9
abbrev n_l_mixed : List Str := ["_law_cell", "_law_k", "_law_number"]
theorem sc_l_mixed : FnScope n_l_mixed ["_law_cell", "_law_k"] (defScope s_l_mixed) := ⟨rfl, rfl, rfl, by decide +kernel, rfl, by decide +kernel, by decide +kernel⟩
/-! _law_draws: slots _law_script=0 _law_drawn=1 _law_k=2 _law_cell=3 _law_j=4; cells [] -/
abbrev s_l_draws : Stmt := topS 10
abbrev n_l_draws : List Str := ["_law_script", "_law_drawn", "_law_k", "_law_cell", "_law_j"]
theorem sc_l_draws : FnScope n_l_draws ["_law_script"] (defScope s_l_draws) := ⟨rfl, rfl, rfl, by decide +kernel, rfl, by decide +kernel, by decide +kernel⟩
/-! _law_next: slots _law_drawn=0; cells [] -/
abbrev s_l_next : Stmt := topS 11
abbrev n_l_next : List Str := ["_law_drawn"]
theorem sc_l_next : FnScope n_l_next ["_law_drawn"] (defScope s_l_next) := ⟨rfl, rfl, rfl, by decide +kernel, rfl, by decide +kernel, by decide +kernel⟩
/-! _law_same: slots _law_found=0 _law_due=1; cells [] -/
abbrev s_l_same : Stmt := topS 12
abbrev n_l_same : List Str := ["_law_found", "_law_due"]
theorem sc_l_same : FnScope n_l_same ["_law_found", "_law_due"] (defScope s_l_same) := ⟨rfl, rfl, rfl, by decide +kernel, rfl, by decide +kernel, by decide +kernel⟩
/-! _law_all_same: slots _law_found=0 _law_due=1 _law_one=2 _law_other=3; cells [] -/
abbrev s_l_all_same : Stmt := topS 13
abbrev n_l_all_same : List Str := ["_law_found", "_law_due", "_law_one", "_law_other"]
theorem sc_l_all_same : FnScope n_l_all_same ["_law_found", "_law_due"] (defScope s_l_all_same) := ⟨rfl, rfl, rfl, by decide +kernel, rfl, by decide +kernel, by decide +kernel⟩
/-! _law_sum: slots _law_spot=0 _law_content_here=1 _law_number=2 _law_one=3; cells [] -/
abbrev s_l_sum : Stmt := topS 14
abbrev n_l_sum : List Str := ["_law_spot", "_law_content_here", "_law_number", "_law_one"]
theorem sc_l_sum : FnScope n_l_sum ["_law_spot", "_law_content_here"] (defScope s_l_sum) := ⟨rfl, rfl, rfl, by decide +kernel, rfl, by decide +kernel, by decide +kernel⟩
/-! _law_content: slots _law_drawn=0 _law_number=1 _law_content_here=2 _law_k=3 _law_one=4; cells [] -/
abbrev s_l_content : Stmt := topS 15
abbrev n_l_content : List Str := ["_law_drawn", "_law_number", "_law_content_here", "_law_k", "_law_one"]
theorem sc_l_content : FnScope n_l_content ["_law_drawn"] (defScope s_l_content) := ⟨rfl, rfl, rfl, by decide +kernel, rfl, by decide +kernel, by decide +kernel⟩
/-! _law_is_number: slots _law_one=0; cells [] -/
abbrev s_l_is_number : Stmt := topS 16
abbrev n_l_is_number : List Str := ["_law_one"]
theorem sc_l_is_number : FnScope n_l_is_number ["_law_one"] (defScope s_l_is_number) := ⟨rfl, rfl, rfl, by decide +kernel, rfl, by decide +kernel, by decide +kernel⟩
/-! _law_truth: slots _law_found=0 _law_due=1; cells [] -/
abbrev s_l_truth : Stmt := topS 17
abbrev n_l_truth : List Str := ["_law_found", "_law_due"]
theorem sc_l_truth : FnScope n_l_truth ["_law_found", "_law_due"] (defScope s_l_truth) := ⟨rfl, rfl, rfl, by decide +kernel, rfl, by decide +kernel, by decide +kernel⟩
/-! _law_right: slots _law_spot=0 _law_cell=1 _law_one=2; cells [] -/
abbrev s_l_right : Stmt := topS 18
abbrev n_l_right : List Str := ["_law_spot", "_law_cell", "_law_one"]
theorem sc_l_right : FnScope n_l_right ["_law_spot", "_law_cell"] (defScope s_l_right) := ⟨rfl, rfl, rfl, by decide +kernel, rfl, by decide +kernel, by decide +kernel⟩
/-! _law_bent: slots _law_spot=0 _law_content_here=1 _law_number=2 _law_due=3 _law_at=4 _law_one=5 _law_more=6 _law_some=7 _law_low=8 _law_truth_here=9; cells [] -/
abbrev s_l_bent : Stmt := topS 19
abbrev n_l_bent : List Str := ["_law_spot", "_law_content_here", "_law_number", "_law_due", "_law_at", "_law_one", "_law_more", "_law_some", "_law_low", "_law_truth_here"]
theorem sc_l_bent : FnScope n_l_bent ["_law_spot", "_law_content_here", "_law_number"] (defScope s_l_bent) := ⟨rfl, rfl, rfl, by decide +kernel, rfl, by decide +kernel, by decide +kernel⟩
/-! law: slots _law_script=0 _law_drawn=1 _law_k=2 _law_number=3 _law_spot=4 _law_content_here=5 _law_due=6 _law_cell=7 _law_other=8; cells [] -/
abbrev s_law : Stmt := topS 20
abbrev n_law : List Str := ["_law_script", "_law_drawn", "_law_k", "_law_number", "_law_spot", "_law_content_here", "_law_due", "_law_cell", "_law_other"]
theorem sc_law : FnScope n_law ["_law_script"] (defScope s_law) := ⟨rfl, rfl, rfl, by decide +kernel, rfl, by decide +kernel, by decide +kernel⟩
structure Txt (K : PySem.W.Frag) (mg : Str → Option Value) : Prop where
  b_abs : mg "abs" = none
  b_all : mg "all" = none
  b_bool : mg "bool" = none
  b_int : mg "int" = none
  b_isinstance : mg "isinstance" = none
  b_len : mg "len" = none
  b_list : mg "list" = none
  b_min : mg "min" = none
  b_range : mg "range" = none
  b_str : mg "str" = none
  b_tuple : mg "tuple" = none
  b_zip : mg "zip" = none
  m_MODULUS : GloE mg "MODULUS" (.int 2147483647)
section
variable {P : Program} {w : World} {K : PySem.W.Frag} {mg : Str → Option Value} {base : Heap} {f : Addr} {cd : Value}
/-! ### draws: whole numbers from 0 on, below 2147483629 -/
def Rg (x : Int) : Prop := 0 ≤ x ∧ x < 2147483629
structure Dr (ds : List Int) : Prop where
  len : ds.length ≤ 2000
  rg : ∀ x ∈ ds, Rg x
theorem Dr.snoc {ds : List Int} {x : Int} (h : ∀ x ∈ ds, Rg x) (hx : Rg x) : ∀ y ∈ ds ++ [x], Rg y := fun y hy => by
  rcases List.mem_append.mp hy with h1 | h1
  · exact h y h1
  · rw [List.mem_singleton.mp h1]
    exact hx
theorem rg_mod (x : Int) : Rg (x % 2147483629) := ⟨Int.emod_nonneg _ (by decide), Int.emod_lt_of_pos _ (by decide)⟩
theorem map_snoc (ds : List Int) (x : Int) : (ds ++ [x]).map V.int = ds.map V.int ++ [.int x] := by rw [List.map_append] <;> rfl
/-- _law_mixed: any number in the range -/
def spMixed : Sp := fun vs H Q _ => ∃ c k : Int, vs = [.int c, .int k] ∧ -1000 ≤ k ∧ k ≤ 1000 ∧ ∀ m, Rg m → Q (.int m) H
theorem ok_l_mixed (F : FnAt K mg "_law_mixed" s_l_mixed ["_law_cell", "_law_k"] f cd) : CalE P w K mg base CX0 1 "_law_mixed" spMixed := by
  refine F.cal sc_l_mixed (fun vs H Q E h => ?_) (fun A outer s H vs Q E hr h => ?_)
  · obtain ⟨c, k, rfl, _⟩ := h
    rfl
  · obtain ⟨c, k, rfl, k1, k2, q⟩ := h
    refine ⟨_, (pss_cons (ps_set (i := 2) sc_l_mixed.nd rfl (.inl rfl) (pe_op op_mod (pe_op op_add (pe_op op_add (pe_op op_mul (pe_op op_mod (pv 0) pe_int) pe_int) (pe_op op_mul (pe_op op_mul pe_int (pv 1)) (pv 1))) pe_int) pe_int))
      (pss_one (ps_ret (pe_op op_mod (pe_op op_mul (pv 2) (pv 2)) pe_int)))), ?_⟩
    have h1 : (0:Int) < 2147483647 := by decide
    have a1 := Int.emod_nonneg c (b := 2147483647) (by decide)
    have a2 := Int.emod_lt_of_pos c (b := 2147483647) (by decide)
    refine ⟨_, rfl, _, _, rfl, rfl, h1, _, _, rfl, rfl, .inr ⟨by decide, by decide⟩, _, rfl, _, _, rfl, rfl, .inl ⟨by decide, by decide⟩, _, rfl, _, _, rfl, rfl, .inr ⟨by omega, by omega⟩, _, _, rfl, rfl, _, _, rfl, rfl, _, _, rfl, rfl, h1, ?_⟩
    generalize hz : (c % 2147483647 * 48271 + 7919 * k * k + 104729) = z
    have b1 := Int.emod_nonneg z (b := 2147483647) (by decide)
    have b2 := Int.emod_lt_of_pos z (b := 2147483647) (by decide)
    refine ⟨_, rfl, _, rfl, _, _, rfl, rfl, .inl ⟨by omega, by omega⟩, _, _, rfl, rfl, (by show (0:Int) < 2147483629; decide), ?_⟩
    exact q _ (rg_mod _)
/-- _law_draws: a new list of numbers in the range -/
def spDraws (K : PySem.W.Frag) (tb : List Addr) : Sp := fun vs H Q _ => ∃ (a : Addr) (ns : List Int), vs = [.ref a] ∧ SqL K H a (ns.map V.int) ∧ ns.length ≤ 63 ∧ Tabs tb H ∧
  ∀ H' d ds, Ext tb [] H H' → H d = none → Dr ds → H' d = some (.lst (ds.map V.int)) → Q (.ref d) H'
theorem ok_l_draws {tb : List Addr} (T : Txt K mg) (F : FnAt K mg "_law_draws" s_l_draws ["_law_script"] f cd) (C_l_mixed : CalE P w K mg base CX0 1 "_law_mixed" spMixed) : CalE P w K mg base CX0 2 "_law_draws" (spDraws K tb) := by
  refine F.cal sc_l_draws (fun vs H Q E h => ?_) (fun A outer s H vs Q E hr h => ?_)
  · obtain ⟨a, ns, rfl, _⟩ := h
    rfl
  · obtain ⟨a, ns, rfl, hS, hl, hT, q⟩ := h
    refine ⟨_, (pss_cons (ps_set (i := 1) sc_l_draws.nd rfl (.inl rfl) (pe_lst pa_nil))
      (pss_cons (ps_for PassesOwn.never rfl (pi_range1 (by rfl) T.b_range (pa_cons (pe_callB (call_min2 rfl) (by rfl) T.b_min (by decide +kernel) (pa_cons (pe_callB (q_len (K := K) rfl) (by rfl) T.b_len PySem.boot_len (pa_cons (pv 0) pa_nil)) (pa_cons pe_int pa_nil))) pa_nil)) (pg_name (i := 2) sc_l_draws.nd rfl (.inl rfl)) (pss_cons (ps_set (i := 3) sc_l_draws.nd rfl (.inl rfl) (pe_callB call_abs (by rfl) T.b_abs (by decide +kernel) (pa_cons (pe_ix (q_ixL (K := K) rfl) (pv 0) (pv 2) (fun _ _ => rfl)) pa_nil)))
      (C8.pss_cut (ps_if (pt_cmpR op_lt (pv 3) (pe_op op_pow pe_int pe_int) (nomark _)) (pss_one (ps_for PassesOwn.never rfl (pi_range1 (by rfl) T.b_range (pa_cons pe_int pa_nil)) (pg_name (i := 4) sc_l_draws.nd rfl (.inl rfl)) (pss_one (ps_expr (q_bm (K := K) rfl PySem.F.plainAttrs_list PySem.F.slot_list_append PySem.F.type_list_append mt_append (pv 1) (pa_cons (pe_cal C_l_mixed (hr.mono (by first | decide | omega)) (by rfl) (pa_cons (pe_cal C_l_mixed (hr.mono (by first | decide | omega)) (by rfl) (pa_cons (pv 3) (pa_cons (pe_op op_add (pe_op op_mul pe_int (pv 4)) pe_int) pa_nil))) (pa_cons (pe_op op_add (pe_op op_add (pv 4) (pv 2)) pe_int) pa_nil))) pa_nil)))))) pss_nil)
      (C8.pss_cut (ps_while PassesOwn.never (PW.pt (pw_and (pt_cmpR op_ge (pv 3) (pe_op op_pow pe_int pe_int) (nomark _)) (pw_and1 (pt_cmpR op_lt (pe_callB (q_len (K := K) rfl) (by rfl) T.b_len PySem.boot_len (pa_cons (pv 1) pa_nil)) pe_int (nomark _))))) (pss_cons (ps_expr (q_bm (K := K) rfl PySem.F.plainAttrs_list PySem.F.slot_list_append PySem.F.type_list_append mt_append (pv 1) (pa_cons (pe_op op_mod (pv 3) pe_int) pa_nil)))
      (pss_one (ps_set (i := 3) sc_l_draws.nd rfl (.inl rfl) (pe_op op_fdivW (pv 3) pe_int)))))
      (pss_one (ps_if (pt_cmpR op_ge (pv 3) pe_int (nomark _)) (pss_one (ps_expr (q_bm (K := K) rfl PySem.F.plainAttrs_list PySem.F.slot_list_append PySem.F.type_list_append mt_append (pv 1) (pa_cons (pe_op op_mod (pv 3) pe_int) pa_nil)))) pss_nil))))))
      (pss_one (ps_ret (pv 1))))), ?_⟩
    have p18 : (10:Int) ^ (18:Int).toNat = 1000000000000000000 := by decide
    -- drawn = []
    refine ⟨by show 0 ≤ sizeLine; decide, fun d nd => ?_⟩
    have e0 : Ext tb [] H (upd H d (.lst [])) := Ext.new hT nd
    -- for k in range(min(len(script), 63))
    refine ⟨_, rfl, _, _, rfl, .inl ⟨_, e0.sqL hT hS (by simp), rfl⟩, _, _, rfl, ?_⟩
    have hn : (if (63:Int) < ((ns.map V.int).length : Int) then (63:Int) else ((ns.map V.int).length : Int)) = (ns.length : Int) := by
      rw [List.length_map]
      split <;> omega
    rw [hn]
    refine ⟨_, rfl, by omega, by omega, for_range (lo := 0) (n := (ns.length : Int).toNat) (fun i σ H1 => ∃ (ds : List Int) (y2 y3 y4 : Option V), σ = [some (.ref a), some (.ref d), y2, y3, y4] ∧ Ext tb [] H H1 ∧ H1 d = some (.lst (ds.map V.int)) ∧ (∀ x ∈ ds, Rg x) ∧ ds.length ≤ 900 + 13 * i)
      ⟨[], none, none, none, rfl, e0, upd_same, fun x hx => (by cases hx), by simp⟩ ?_ ?_⟩
    · rintro i σ H1 hi ⟨ds, y2, y3, y4, rfl, ex, hd, hrg, hlen⟩
      have hi' : i < ns.length := by omega
      have g1 : (ns.map V.int)[i]? = some (.int ns[i]) := by rw [List.getElem?_map, List.getElem?_eq_getElem hi'] <;> rfl
      generalize hz : ns[i] = z at g1
      -- cell = abs(script[k])
      refine ⟨_, rfl, _, rfl, a, _, (i : Int), .int z, rfl, by simp, ex.sqL hT hS (by simp), atI_nat g1, _, rfl, ?_⟩
      generalize hc : (if z < 0 then -z else z) = c
      have hc0 : 0 ≤ c := by rw [← hc]; split <;> omega
      -- if cell < 10 ** 18
      refine ⟨fun σ' H2 => ∃ (ds1 : List Int) (y4 : Option V), σ' = [some (.ref a), some (.ref d), some (.int (0 + (i : Int))), some (.int c), y4] ∧ Ext tb [] H H2 ∧ H2 d = some (.lst (ds1.map V.int)) ∧ (∀ x ∈ ds1, Rg x) ∧ (ds1.length ≤ 900 + 13 * i ∨ (ds1.length ≤ 900 + 13 * i + 12 ∧ c < 1000000000000000000)), ?_, ?_⟩
      · refine ⟨_, rfl, _, _, rfl, rfl, ⟨by decide, by decide, by decide⟩, _, _, rfl, rfl, _, rfl, ite2 (fun e => ?_) (fun e => ?_)⟩
        · have hlt : c < 1000000000000000000 := of_decide_eq_true e
          refine ⟨_, rfl, by decide, by decide, for_range (lo := 0) (n := (12 : Int).toNat) (fun j σ H2 => ∃ (ds1 : List Int) (y4 : Option V), σ = [some (.ref a), some (.ref d), some (.int (0 + (i : Int))), some (.int c), y4] ∧ Ext tb [] H H2 ∧ H2 d = some (.lst (ds1.map V.int)) ∧ (∀ x ∈ ds1, Rg x) ∧ ds1.length ≤ 900 + 13 * i + j)
            ⟨ds, y4, rfl, ex, hd, hrg, by omega⟩ ?_ ?_⟩
          · rintro j σ H2 hj ⟨ds1, y4, rfl, ex2, hd2, hrg2, hlen2⟩
            have hj' : j < 12 := hj
            refine ⟨_, rfl, .inl ⟨rfl, _, SqL.of hd2⟩, _, rfl, _, rfl, _, _, rfl, rfl, .inl ⟨by decide, by decide⟩, _, _, rfl, rfl, _, _, rfl, by omega, by omega, fun m hm => ?_⟩
            refine ⟨_, rfl, _, rfl, _, _, rfl, rfl, _, _, rfl, rfl, _, _, rfl, by omega, by omega, fun m2 hm2 => ?_⟩
            refine ⟨d, _, _, rfl, rfl, hd2, ?_, ?_⟩
            · rw [List.length_map]
              exact Nat.lt_of_le_of_lt hlen2 (Nat.lt_of_lt_of_le (show 900 + 13 * i + j < 100000 by omega) (by decide))
            · refine ⟨ds1 ++ [m2], some (.int (0 + (j : Int))), rfl, Ext.own hT ex2 nd, ?_, Dr.snoc hrg2 hm2, by rw [List.length_append]; show ds1.length + 1 ≤ _; omega⟩
              rw [upd_same, map_snoc]
          · rintro σ H2 ⟨ds1, y4, rfl, ex2, hd2, hrg2, hlen2⟩
            exact ⟨ds1, y4, rfl, ex2, hd2, hrg2, .inr ⟨hlen2, hlt⟩⟩
        · exact ⟨ds, y4, rfl, ex, hd, hrg, .inl hlen⟩
      · rintro σ' H2 ⟨ds1, y4, rfl, ex2, hd2, hrg2, hlen2⟩
        -- the while
        refine ⟨fun σ' H2 => ∃ (ds1 : List Int) (c2 : Int) (y4 : Option V), σ' = [some (.ref a), some (.ref d), some (.int (0 + (i : Int))), some (.int c2), y4] ∧ Ext tb [] H H2 ∧ H2 d = some (.lst (ds1.map V.int)) ∧ (∀ x ∈ ds1, Rg x) ∧ ds1.length ≤ 900 + 13 * i + 12, ?_, ?_⟩
        · refine ⟨fun m σ' H2 => ∃ (ds1 : List Int) (c2 : Int), m = c2.toNat ∧ 0 ≤ c2 ∧ σ' = [some (.ref a), some (.ref d), some (.int (0 + (i : Int))), some (.int c2), y4] ∧ Ext tb [] H H2 ∧ H2 d = some (.lst (ds1.map V.int)) ∧ (∀ x ∈ ds1, Rg x) ∧ (ds1.length ≤ 900 + 13 * i ∨ (ds1.length ≤ 900 + 13 * i + 12 ∧ c2 < 1000000000000000000)), ⟨c.toNat, ds1, c, rfl, hc0, rfl, ex2, hd2, hrg2, hlen2⟩, ?_⟩
          rintro m σ' H3 ⟨ds2, c2, rfl, hc2, rfl, ex3, hd3, hrg3, hlen3⟩
          refine ⟨_, rfl, _, _, rfl, rfl, ⟨by decide, by decide, by decide⟩, _, _, rfl, rfl, _, rfl, ite2 (fun e => ?_) (fun e => ?_)⟩
          · have hge : 1000000000000000000 ≤ c2 := of_decide_eq_true e
            refine ⟨_, rfl, _, _, rfl, .inl ⟨_, SqL.of hd3, rfl⟩, _, _, rfl, rfl, _, rfl, ite2 (fun e2 => ?_) (fun e2 => ?_)⟩
            · have h900 : ((ds2.map V.int).length : Int) < 900 := of_decide_eq_true e2
              rw [List.length_map] at h900
              refine ⟨fun σ' H' => ∃ ds3 : List Int, σ' = [some (.ref a), some (.ref d), some (.int (0 + (i : Int))), some (.int (c2 / 2147483629)), y4] ∧ Ext tb [] H H' ∧ H' d = some (.lst (ds3.map V.int)) ∧ (∀ x ∈ ds3, Rg x) ∧ ds3.length ≤ 900 + 13 * i, ?_, ?_⟩
              · rintro σ' H' ⟨ds3, rfl, ex4, hd4, hrg4, hlen4⟩
                have h1 : c2 / 2147483629 < c2 := Int.ediv_lt_self_of_pos_of_ne_one (by omega) (by decide)
                have h2 : 0 ≤ c2 / 2147483629 := Int.ediv_nonneg hc2 (by decide)
                exact ⟨_, by omega, ds3, _, rfl, h2, rfl, ex4, hd4, hrg4, .inl hlen4⟩
              · refine ⟨_, rfl, .inl ⟨rfl, _, SqL.of hd3⟩, _, rfl, _, _, rfl, rfl, (by show (0:Int) < 2147483629; decide), d, _, _, rfl, rfl, hd3, ?_, ?_⟩
                · rw [List.length_map]
                  exact Nat.lt_of_lt_of_le (show ds2.length < 100000 by omega) (by decide)
                · refine ⟨_, rfl, _, _, rfl, rfl, wide_div (b := 31) (by decide) (by decide) (by decide) (by decide), ?_⟩
                  refine ⟨ds2 ++ [c2 % 2147483629], rfl, Ext.own hT ex3 nd, ?_, Dr.snoc hrg3 (rg_mod _), by rw [List.length_append]; show ds2.length + 1 ≤ _; omega⟩
                  rw [upd_same, map_snoc]
            · exact ⟨ds2, c2, y4, rfl, ex3, hd3, hrg3, by omega⟩
          · refine iteF ?_
            exact ⟨ds2, c2, y4, rfl, ex3, hd3, hrg3, by omega⟩
        · rintro σ' H3 ⟨ds2, c2, y4, rfl, ex3, hd3, hrg3, hlen3⟩
          -- if cell >= 2147483629
          refine ⟨_, rfl, _, _, rfl, rfl, _, rfl, ite2 (fun e => ?_) (fun e => ?_)⟩
          · refine ⟨_, rfl, .inl ⟨rfl, _, SqL.of hd3⟩, _, rfl, _, _, rfl, rfl, (by show (0:Int) < 2147483629; decide), d, _, _, rfl, rfl, hd3, ?_, ?_⟩
            · rw [List.length_map]
              exact Nat.lt_of_lt_of_le (show ds2.length < 100000 by omega) (by decide)
            · refine ⟨ds2 ++ [c2 % 2147483629], _, _, _, rfl, Ext.own hT ex3 nd, ?_, Dr.snoc hrg3 (rg_mod _), by rw [List.length_append]; show ds2.length + 1 ≤ _; omega⟩
              rw [upd_same, map_snoc]
          · exact ⟨ds2, _, _, _, rfl, ex3, hd3, hrg3, by omega⟩
    · rintro σ H1 ⟨ds, y2, y3, y4, rfl, ex, hd, hrg, hlen⟩
      refine ⟨_, rfl, q _ d ds ex nd ⟨by omega, hrg⟩ hd⟩
/-- _law_next: a number in the range; the list of draws is another one -/
def spNext (tb : List Addr) : Sp := fun vs H Q _ => ∃ (d : Addr) (ds : List Int), vs = [.ref d] ∧ H d = some (.lst (ds.map V.int)) ∧ Dr ds ∧ Tabs tb H ∧
  ∀ x r H', Rg x → Dr r → Ext tb [d] H H' → H' d = some (.lst (r.map V.int)) → Q (.int x) H'
theorem ok_l_next {tb : List Addr} (F : FnAt K mg "_law_next" s_l_next ["_law_drawn"] f cd) : CalE P w K mg base CX0 1 "_law_next" (spNext tb) := by
  refine F.cal sc_l_next (fun vs H Q E h => ?_) (fun A outer s H vs Q E hr h => ?_)
  · obtain ⟨d, ds, rfl, _⟩ := h
    rfl
  · obtain ⟨d, ds, rfl, hd, hD, hT, q⟩ := h
    refine ⟨_, (pss_cons (ps_if (pt_cmpR (q_eqD (K := K) rfl hr.units) (pv 0) (pe_lst pa_nil) (nomark _)) (pss_one (ps_ret pe_int)) pss_nil)
      (pss_one (ps_ret (q_bm (K := K) rfl PySem.F.plainAttrs_list PySem.F.slot_list_pop PySem.F.type_list_pop mt_popAt (pv 0) (pa_cons pe_int pa_nil))))), ?_⟩
    refine ⟨_, rfl, by show 0 ≤ sizeLine; decide, fun p np => ?_⟩
    have e0 : Ext tb [d] H (upd H p (.lst [])) := Ext.new hT np
    have hd1 : (upd H p (.lst [])) d = some (.lst (ds.map V.int)) := by rw [upd_ne (ne_of_none hd np)]; exact hd
    cases ds with
    | nil =>
      refine ⟨.list [], .list [], .lst (SqL.of hd1) .nil, .lst (SqL.of upd_same) .nil, rfl, rfl, _, rfl, ?_⟩
      refine iteT ?_
      exact q 0 [] _ ⟨by decide, by decide⟩ ⟨by simp, fun x hx => by cases hx⟩ e0 hd1
    | cons x r =>
      refine ⟨.list ((x :: r).map PyData.int), .list [], .lst (SqL.of hd1) (dp_ints _), .lst (SqL.of upd_same) .nil, sh_ints _, rfl, _, rfl, ?_⟩
      refine iteF ?_
      refine ⟨_, rfl, .inl ⟨rfl, _, SqL.of hd1⟩, d, _, 0, 0, .int x, rfl, rfl, hd1, by decide, by decide, ?_, rfl, ?_⟩
      · simp [seqIndex?]
      · exact q x r _ (hD.rg x (List.mem_cons_self ..)) ⟨by have := hD.len; simp at this; omega, fun y hy => hD.rg y (List.mem_cons_of_mem _ hy)⟩ (e0.trans (Ext.mut (by simp) (ne_tab hT hd fun ps z => by cases z))) upd_same

/-! ### _law_same of one data: True -/
mutual
def nb : PyData → Bool
  | .none => true
  | .bool _ => false
  | .int _ => true
  | .str _ => true
  | .list ds => nbAll ds
  | .tuple ds => nbAll ds
  | .dict _ => false
def nbAll : List PyData → Bool
  | [] => true
  | d :: ds => nb d && nbAll ds
end
theorem nb_get : ∀ {ds : List PyData} {i : Nat} {d : PyData}, nbAll ds = true → ds[i]? = some d → nb d = true
  | [], _, _, _, e => by simp at e
  | x :: r, 0, d, h, e => by
    simp at e
    subst e
    exact (Bool.and_eq_true_iff.mp (show (nb x && nbAll r) = true from h)).1
  | x :: r, i + 1, d, h, e => nb_get (ds := r) (i := i) (Bool.and_eq_true_iff.mp (show (nb x && nbAll r) = true from h)).2 (by simpa using e)
theorem dep_get : ∀ {ds : List PyData} {i : Nat} {d : PyData}, ds[i]? = some d → PyData.depth d ≤ PyData.depthAll ds
  | [], _, _, e => by simp at e
  | x :: r, 0, d, e => by
    simp at e
    subst e
    exact Nat.le_max_left _ _
  | x :: r, i + 1, d, e => Nat.le_trans (dep_get (ds := r) (i := i) (by simpa using e)) (Nat.le_max_right _ _)
def spSame (K : PySem.W.Frag) (tb : List Addr) (n : Nat) : Sp := fun vs H Q _ => ∃ (v u : V) (d : PyData), vs = [v, u] ∧ Dp K H v d ∧ Dp K H u d ∧ nb d = true ∧ PyData.depth d ≤ n ∧ Tabs tb H ∧ ∀ H', Ext tb [] H H' → Q (.bl true) H'
def spAllSame (K : PySem.W.Frag) (tb : List Addr) (n : Nat) : Sp := fun vs H Q _ => ∃ (a b : Addr) (xs ys : List V) (ds : List PyData), vs = [.ref a, .ref b] ∧ SqL K H a xs ∧ SqL K H b ys ∧ DpAll K H xs ds ∧ DpAll K H ys ds ∧ nbAll ds = true ∧ PyData.depthAll ds ≤ n ∧ Tabs tb H ∧ ∀ H', Ext tb [] H H' → Q (.bl true) H'
def spNever : Sp := fun _ _ _ _ => False
def spAllO (K : PySem.W.Frag) (tb : List Addr) : Nat → Sp
  | 0 => spNever
  | n + 1 => spAllSame K tb n
theorem ok_l_same {n : Nat} {tb : List Addr} (T : Txt K mg) (F : FnAt K mg "_law_same" s_l_same ["_law_found", "_law_due"] f cd) (C_l_all_same : CalE P w K mg base CX0 (2*n+1) "_law_all_same" (spAllO K tb n)) : CalE P w K mg base CX0 (2*n+1+1) "_law_same" (spSame K tb n) := by
  refine F.cal sc_l_same (fun vs H Q E h => ?_) (fun A outer s H vs Q E hr h => ?_)
  · obtain ⟨v, u, d, rfl, _⟩ := h
    rfl
  · obtain ⟨v, u, d, rfl, hv, hu, hn, hd, hT, q⟩ := h
    refine ⟨_, (pss_cons (ps_if (pt_val (pe_callB (q_isi (K := K) rfl) (by rfl) T.b_isinstance (by decide +kernel) (pa_cons (pv 1) (pa_cons (pe_bltn (v := .ty "tuple") (by rfl) T.b_tuple (by decide +kernel) rfl) pa_nil)))) (pss_cons (ps_if (PW.pt (pw_or (pt_not (pt_val (pe_callB (q_isi (K := K) rfl) (by rfl) T.b_isinstance (by decide +kernel) (pa_cons (pv 0) (pa_cons (pe_bltn (v := .ty "tuple") (by rfl) T.b_tuple (by decide +kernel) rfl) pa_nil))))) (pw_or1 (pt_cmpR op_ne (pe_callB (q_len (K := K) rfl) (by rfl) T.b_len PySem.boot_len (pa_cons (pv 0) pa_nil)) (pe_callB (q_len (K := K) rfl) (by rfl) T.b_len PySem.boot_len (pa_cons (pv 1) pa_nil)) (nomark _))))) (pss_one (ps_ret pe_bl)) pss_nil)
      (pss_one (ps_ret (pe_cal C_l_all_same (hr.mono (by first | decide | omega)) (by rfl) (pa_cons (pe_callTy (q_lst (K := K) rfl) (by rfl) T.b_list (by decide +kernel) (pa_cons (pv 0) pa_nil)) (pa_cons (pe_callTy (q_lst (K := K) rfl) (by rfl) T.b_list (by decide +kernel) (pa_cons (pv 1) pa_nil)) pa_nil)))))) pss_nil)
      (pss_cons (ps_if (pt_val (pe_callB (q_isi (K := K) rfl) (by rfl) T.b_isinstance (by decide +kernel) (pa_cons (pv 1) (pa_cons (pe_bltn (v := .ty "list") (by rfl) T.b_list (by decide +kernel) rfl) pa_nil)))) (pss_one (ps_ret (pe_and (pe_callB (q_isi (K := K) rfl) (by rfl) T.b_isinstance (by decide +kernel) (pa_cons (pv 0) (pa_cons (pe_bltn (v := .ty "list") (by rfl) T.b_list (by decide +kernel) rfl) pa_nil))) (pe_and (pe_cmpR op_eq (pe_callB (q_len (K := K) rfl) (by rfl) T.b_len PySem.boot_len (pa_cons (pv 0) pa_nil)) (pe_callB (q_len (K := K) rfl) (by rfl) T.b_len PySem.boot_len (pa_cons (pv 1) pa_nil)) (nomark _)) (pe_one (pe_cal C_l_all_same (hr.mono (by first | decide | omega)) (by rfl) (pa_cons (pv 0) (pa_cons (pv 1) pa_nil)))))))) pss_nil)
      (pss_cons (ps_if (pt_val (pe_callB (q_isi (K := K) rfl) (by rfl) T.b_isinstance (by decide +kernel) (pa_cons (pv 1) (pa_cons (pe_bltn (v := .ty "str") (by rfl) T.b_str (by decide +kernel) rfl) pa_nil)))) (pss_one (ps_ret (pe_and (pe_callB (q_isi (K := K) rfl) (by rfl) T.b_isinstance (by decide +kernel) (pa_cons (pv 0) (pa_cons (pe_bltn (v := .ty "str") (by rfl) T.b_str (by decide +kernel) rfl) pa_nil))) (pe_one (pe_cmpR op_eq (pv 0) (pv 1) (nomark _)))))) pss_nil)
      (pss_cons (ps_if (pt_cmpR op_isN (pv 1) pe_non (nomark _)) (pss_one (ps_ret (pe_cmpR op_isN (pv 0) pe_non (nomark _)))) pss_nil)
      (pss_one (ps_ret (pe_and (pe_callB (q_isi (K := K) rfl) (by rfl) T.b_isinstance (by decide +kernel) (pa_cons (pv 0) (pa_cons (pe_bltn (v := .ty "int") (by rfl) T.b_int (by decide +kernel) rfl) pa_nil))) (pe_and (pe_not (pe_callB (q_isi (K := K) rfl) (by rfl) T.b_isinstance (by decide +kernel) (pa_cons (pv 0) (pa_cons (pe_bltn (v := .ty "bool") (by rfl) T.b_bool (by decide +kernel) rfl) pa_nil)))) (pe_one (pe_cmpR op_eq (pv 0) (pv 1) (nomark _))))))))))), ?_⟩
    have tv := Dp_ty hv
    have tu := Dp_ty hu
    refine ⟨_, rfl, _, _, .type (tyN d), _, _, rfl, .ty _, tu, kit_ty (kit_tup d), _, rfl, ?_⟩
    cases d with
    | tuple ds =>
      cases n with
      | zero => exact absurd hd (Nat.not_succ_le_zero _)
      | succ n =>
        cases hv with
        | @tup a xs _ ha hxs =>
        cases hu with
        | @tup b ys _ hb hys =>
        refine iteT ?_
        refine ⟨_, rfl, _, _, .type "tuple", _, true, rfl, .ty _, tv, kit_ty (by decide +kernel), true, rfl, iteF ?_⟩
        have hl : xs.length = ys.length := (DpAll_len hxs).trans (DpAll_len hys).symm
        refine ⟨_, rfl, _, _, rfl, .inr ⟨_, ha, rfl⟩, _, rfl, _, _, rfl, .inr ⟨_, hb, rfl⟩, rfl, _, rfl, iteNS (by rw [hl]) ?_⟩
        refine ⟨_, rfl, a, xs, rfl, .inr ha, fun l1 n1 => ?_⟩
        have e1 : Ext tb [] H (upd H l1 (.lst xs)) := Ext.new hT n1
        have hT1 := e1.tabs hT
        refine ⟨_, rfl, b, ys, rfl, .inr (e1.sqT hT hb (by simp)), fun l2 n2 => ?_⟩
        have e2 : Ext tb [] (upd H l1 (.lst xs)) (upd (upd H l1 (.lst xs)) l2 (.lst ys)) := Ext.new hT1 n2
        exact ⟨l1, l2, xs, ys, ds, rfl, e2.sqL hT1 (SqL.of upd_same) (by simp), SqL.of upd_same, DpAll_ext (e1.trans e2) hT ds hxs, DpAll_ext (e1.trans e2) hT ds hys, hn, Nat.le_of_succ_le_succ hd, (e1.trans e2).tabs hT, fun H' e' => q H' ((e1.trans e2).trans e')⟩
    | list ds =>
      cases n with
      | zero => exact absurd hd (Nat.not_succ_le_zero _)
      | succ n =>
        cases hv with
        | @lst a xs _ ha hxs =>
        cases hu with
        | @lst b ys _ hb hys =>
        refine iteF ?_
        refine ⟨_, rfl, _, _, .type "list", _, true, rfl, .ty _, tu, kit_ty (by decide +kernel), _, rfl, iteT ?_⟩
        refine ⟨_, rfl, _, _, .type "list", _, true, rfl, .ty _, tv, kit_ty (by decide +kernel), true, rfl, iteT ?_⟩
        have hl : xs.length = ys.length := (DpAll_len hxs).trans (DpAll_len hys).symm
        refine ⟨_, rfl, _, _, rfl, .inl ⟨_, ha, rfl⟩, _, rfl, _, _, rfl, .inl ⟨_, hb, rfl⟩, rfl, _, rfl, ?_⟩
        rw [hl, decide_eq_true rfl]
        refine iteT ?_
        exact ⟨_, rfl, _, rfl, a, b, xs, ys, ds, rfl, ha, hb, hxs, hys, hn, Nat.le_of_succ_le_succ hd, hT, q⟩
    | str z =>
      cases hv
      cases hu
      refine iteF ?_
      refine ⟨_, rfl, _, _, .type "str", _, false, rfl, .ty _, tu, kit_ty (by decide +kernel), _, rfl, iteF ?_⟩
      refine ⟨_, rfl, _, _, .type "str", _, true, rfl, .ty _, tu, kit_ty (by decide +kernel), _, rfl, iteT ?_⟩
      refine ⟨_, rfl, _, _, .type "str", _, true, rfl, .ty _, tv, kit_ty (by decide +kernel), true, rfl, iteT ?_⟩
      refine ⟨_, rfl, _, rfl, rfl, ?_⟩
      rw [decide_eq_true rfl]
      exact q H Ext.refl
    | none =>
      cases hv
      cases hu
      refine iteF ?_
      refine ⟨_, rfl, _, _, .type "NoneType", _, false, rfl, .ty _, tu, kit_ty (by decide +kernel), _, rfl, iteF ?_⟩
      refine ⟨_, rfl, _, _, .type "NoneType", _, false, rfl, .ty _, tu, kit_ty (by decide +kernel), _, rfl, iteF ?_⟩
      refine ⟨_, rfl, rfl, _, rfl, iteT ?_⟩
      exact ⟨_, rfl, rfl, q H Ext.refl⟩
    | int i =>
      cases hv
      cases hu
      refine iteF ?_
      refine ⟨_, rfl, _, _, .type "int", _, false, rfl, .ty _, tu, kit_ty (by decide +kernel), _, rfl, iteF ?_⟩
      refine ⟨_, rfl, _, _, .type "int", _, false, rfl, .ty _, tu, kit_ty (by decide +kernel), _, rfl, iteF ?_⟩
      refine ⟨_, rfl, rfl, _, rfl, iteF ?_⟩
      refine ⟨_, rfl, _, _, .type "int", _, true, rfl, .ty _, tv, kit_ty (by decide +kernel), true, rfl, iteT ?_⟩
      refine ⟨_, rfl, _, _, .type "int", _, false, rfl, .ty _, tv, kit_ty (by decide +kernel), false, rfl, true, rfl, iteT ?_⟩
      refine ⟨_, rfl, _, rfl, rfl, ?_⟩
      rw [decide_eq_true rfl]
      exact q H Ext.refl
    | bool b => cases hn
    | dict kvs => cases hn
theorem ok_l_all_same {n : Nat} {tb : List Addr} (T : Txt K mg) (F : FnAt K mg "_law_all_same" s_l_all_same ["_law_found", "_law_due"] f cd) (C_l_same : CalE P w K mg base CX0 (2*n+1+1) "_law_same" (spSame K tb n)) : CalE P w K mg base CX0 (2*n+1+1+1) "_law_all_same" (spAllSame K tb n) := by
  refine F.cal sc_l_all_same (fun vs H Q E h => ?_) (fun A outer s H vs Q E hr h => ?_)
  · obtain ⟨a, b, xs, ys, ds, rfl, _⟩ := h
    rfl
  · obtain ⟨a, b, xs, ys, ds, rfl, ha, hb, hxs, hys, hn, hd, hT, q⟩ := h
    refine ⟨_, (pss_cons (ps_for PassesOwn.never rfl (pi_zip (by rfl) T.b_zip (pa_cons (pv 0) (pa_cons (pv 1) pa_nil))) (pg_tup rfl (pgs_cons (pg_name (i := 2) sc_l_all_same.nd rfl (.inl rfl)) (pgs_cons (pg_name (i := 3) sc_l_all_same.nd rfl (.inl rfl)) pgs_nil))) (pss_one (ps_if (pt_not (pt_val (pe_cal C_l_same (hr.mono (by first | decide | omega)) (by rfl) (pa_cons (pv 2) (pa_cons (pv 3) pa_nil))))) (pss_one (ps_ret pe_bl)) pss_nil)))
      (pss_one (ps_ret pe_bl))), ?_⟩
    have hl : xs.length = ys.length := (DpAll_len hxs).trans (DpAll_len hys).symm
    refine ⟨_, rfl, _, rfl, a, b, xs, ys, rfl, ha, hb, RZ.for_zipL hl (fun i σ H1 => Ext tb [] H H1 ∧ ∃ y2 y3, σ = [some (.ref a), some (.ref b), y2, y3]) ⟨Ext.refl, none, none, rfl⟩ (fun i σ H1 h => ⟨h.1.sqL hT ha (by simp), h.1.sqL hT hb (by simp)⟩) ?_ ?_⟩
    · rintro i x y tt σ H1 hx hy ⟨ex, y2, y3, rfl⟩ nt
      have e1 : Ext tb [] H1 (upd H1 tt (.tup [x, y])) := Ext.new (ex.tabs hT) nt
      have e2 := ex.trans e1
      refine ⟨tt, [x, y], rfl, SqT.of upd_same, rfl, x, [y], rfl, y, [], rfl, rfl, ?_⟩
      obtain ⟨d, hdx, hvx⟩ := DpAll_get hxs hx
      obtain ⟨d', hdy, hvy⟩ := DpAll_get hys hy
      rw [hdx] at hdy
      cases hdy
      refine ⟨_, rfl, _, rfl, x, y, d, rfl, Dp_ext e2 hT d hvx, Dp_ext e2 hT d hvy, nb_get hn hdx, Nat.le_trans (dep_get hdx) hd, e2.tabs hT, fun H' e' => ⟨true, rfl, iteF ?_⟩⟩
      exact ⟨e2.trans e', _, _, rfl⟩
    · rintro σ H1 ⟨ex, y2, y3, rfl⟩
      exact q H1 ex
theorem ok_sames {tb : List Addr} {f2 : Addr} {cd2 : Value} (T : Txt K mg) (F : FnAt K mg "_law_same" s_l_same ["_law_found", "_law_due"] f cd) (F2 : FnAt K mg "_law_all_same" s_l_all_same ["_law_found", "_law_due"] f2 cd2) : ∀ n : Nat, (CalE P w K mg base CX0 (2*n+1+1) "_law_same" (spSame K tb n))
  | 0 => ok_l_same T F (F2.cal sc_l_all_same (fun _ _ _ _ h => (show False from h).elim) (fun _ _ _ _ _ _ _ _ h => (show False from h).elim))
  | n + 1 => ok_l_same T F (ok_l_all_same T F2 (ok_sames T F F2 n))

end
end K17

set_option Elab.async false
set_option linter.all false
set_option maxRecDepth 100000
set_option maxHeartbeats 400000
namespace K17
open PySem PySem.Spec PyProof.Rows L2 HK DT
section
variable {P : Program} {w : World} {K : PySem.W.Frag} {mg : Str → Option Value} {base : Heap} {f : Addr} {cd : Value}
/-! ### numbers, contents, sums -/
def isNumD : PyData → Bool
  | .int _ => true
  | _ => false
def isNN : PyData → Bool
  | .int i => decide (0 ≤ i)
  | _ => false
def isContD : PyData → Bool
  | .tuple ds => ds.all isNN
  | _ => false
def numV : PyData → Int
  | .int i => i
  | .bool b => if b then 1 else 0
  | _ => 0
def sumN (spot : Int) (ns : List Int) : Int := ns.foldl (fun t n => (t * 65599 + n + 1) % 2147483647) (spot + 1)
def rightD (spot : Int) : PyData → Bool
  | .tuple [.int s, .tuple cs] => cs.all isNN && decide (s = sumN spot (cs.map numV))
  | _ => false
theorem sumN_take {spot : Int} {ns : List Int} {i : Nat} {n : Int} (h : ns[i]? = some n) : sumN spot (ns.take (i + 1)) = (sumN spot (ns.take i) * 65599 + n + 1) % 2147483647 := by
  unfold sumN
  rw [List.take_add_one, h, List.foldl_append]
  rfl
theorem num_int {d : PyData} (h : isNumD d = true) : ∃ i, d = .int i := by
  cases d with
  | int i => exact ⟨i, rfl⟩
  | _ => cases h
theorem nn_ints : ∀ {cs : List PyData}, cs.all isNN = true → cs = (cs.map numV).map PyData.int
  | [], _ => rfl
  | c :: r, h => by
    rw [List.all_cons, Bool.and_eq_true] at h
    cases c with
    | int i => rw [List.map_cons, List.map_cons, ← nn_ints h.2] <;> rfl
    | _ => exact absurd h.1 (by simp [isNN])
def spIsNum (K : PySem.W.Frag) : Sp := fun vs H Q _ => ∃ (v : V) (d : PyData), vs = [v] ∧ AnyD K H v d ∧ Q (.bl (isNumD d)) H
theorem num_rd {v : V} {d : PyData} {H : Hp} {Q : VK} {σ : L2.St} (h0 : σ[0]? = some (some v)) (h : AnyD K H v d) (q : Q (.bl (isNumD d)) H) :
    tAndV (tCB (rIsi K) (tCons (tVar 0) (tCons (tC (.ty "int")) tNil))) (tNotV (tCB (rIsi K) (tCons (tVar 0) (tCons (tC (.ty "bool")) tNil)))) σ H Q := by
  have ty := AnyD_ty h
  refine ⟨_, h0, _, _, .type (tyN d), _, _, rfl, .ty _, ty, kit_ty (kit_int d), _, rfl, ?_⟩
  cases e : isIntB d with
  | false =>
    refine iteF ?_
    have : isNumD d = false := by cases d <;> first | rfl | cases e
    exact this ▸ q
  | true =>
    refine iteT ?_
    refine ⟨_, h0, _, _, .type (tyN d), _, _, rfl, .ty _, ty, kit_ty (kit_bool d), _, rfl, ?_⟩
    have : isNumD d = !isBl d := by cases d <;> first | rfl | cases e
    exact this ▸ q
theorem ok_is_number (T : Txt K mg) (F : FnAt K mg "is_number" s_is_number ["one"] f cd) : CalE P w K mg base CX0 1 "is_number" (spIsNum K) := by
  refine F.cal sc_is_number (fun vs H Q E h => ?_) (fun A outer s H vs Q E hr h => ?_)
  · obtain ⟨v, d, rfl, _⟩ := h
    rfl
  · obtain ⟨v, d, rfl, hd, q⟩ := h
    refine ⟨_, (pss_one (ps_ret (pe_and (pe_callB (q_isi (K := K) rfl) (by rfl) T.b_isinstance (by decide +kernel) (pa_cons (pv 0) (pa_cons (pe_bltn (v := .ty "int") (by rfl) T.b_int (by decide +kernel) rfl) pa_nil))) (pe_one (pe_not (pe_callB (q_isi (K := K) rfl) (by rfl) T.b_isinstance (by decide +kernel) (pa_cons (pv 0) (pa_cons (pe_bltn (v := .ty "bool") (by rfl) T.b_bool (by decide +kernel) rfl) pa_nil)))))))), ?_⟩
    exact num_rd rfl hd q
def spIsCont (K : PySem.W.Frag) (tb : List Addr) : Sp := fun vs H Q _ => ∃ (v : V) (d : PyData), vs = [v] ∧ AnyD K H v d ∧ Tabs tb H ∧ ∀ H', Ext tb [] H H' → Q (.bl (isContD d)) H'
theorem ok_is_content {c pt : Addr} {tb : List Addr} (T : Txt K mg) (TB : LamX.TabB base mg c pt) (hpt : pt ∈ tb) (F : FnAt K mg "is_content" s_is_content ["one"] f (.ref c)) (C_is_number : CalE P w K mg base CX0 1 "is_number" (spIsNum K)) : CalE P w K mg base CX0 3 "is_content" (spIsCont K tb) := by
  refine F.cal sc_is_content (fun vs H Q E h => ?_) (fun A outer s H vs Q E hr h => ?_)
  · obtain ⟨v, d, rfl, _⟩ := h
    rfl
  · obtain ⟨v, d, rfl, hd, hT, q⟩ := h
    refine ⟨_, (pss_one (ps_ret (pe_and (pe_callB (q_isi (K := K) rfl) (by rfl) T.b_isinstance (by decide +kernel) (pa_cons (pv 0) (pa_cons (pe_bltn (v := .ty "tuple") (by rfl) T.b_tuple (by decide +kernel) rfl) pa_nil))) (pe_one (GX.pe_allG (N := ["number"]) hr (by rfl) T.b_all TB rfl ⟨rfl, rfl, by decide +kernel, by decide +kernel, by rfl⟩ (q_piT (K := K) rfl (pv 0)) (fun Xg hX => ⟨by obtain ⟨_, _, _, _, _, _, _, rfl⟩ := hX; exact (pg_name (i := 0) (show (["number"] : List Str).Nodup by decide) rfl (.inl rfl)), by have hrg := hX.room hr; obtain ⟨_, _, _, _, _, _, _, rfl⟩ := hX; exact (pe_and (pe_cal C_is_number (hrg.mono (by first | decide | omega)) (by rfl) (pa_cons (pv 0) pa_nil)) (pe_one (pe_cmpR op_ge (pv 0) pe_int (nomark _))))⟩)))))), ?_⟩
    refine ⟨_, rfl, _, _, .type (tyN d), _, _, rfl, .ty _, AnyD_ty hd, kit_ty (kit_tup d), _, rfl, ?_⟩
    cases d with
    | tuple ds =>
      obtain ⟨a, xs, rfl, ha, hxs⟩ := AnyD_tup hd
      refine iteT ?_
      refine ⟨_, rfl, a, rfl, ⟨_, ha⟩, hT pt hpt, fun H2 hH2 => ?_⟩
      have e2 : Ext tb [] H H2 := Ext.tabbed hH2 hpt
      have hl := DpAll_len hxs
      refine allG_by ds.length (trV isNN ds) (fun H3 => Ext tb [] H H3) e2 (fun H3 ex => ⟨_, ex.sqT hT ha (by simp), by omega⟩) (fun i H3 hi ex => ⟨_, _, ex.sqT hT ha (by simp), List.getElem?_eq_getElem (by omega)⟩) ?_ ?_
      · rintro i H3 x H4 hi ex ⟨rfl, hy⟩ R hR
        have hx := hy _ (ex.sqT hT ha (by simp))
        obtain ⟨d, h1, h2⟩ := DpAll_get hxs hx
        have hR' := hR H4 ex
        rw [trV_some h1] at hR'
        refine ⟨_, rfl, x, d, rfl, .inl (Dp_ext ex hT d h2), _, rfl, ?_⟩
        cases hn : isNumD d with
        | true =>
          obtain ⟨n, rfl⟩ := num_int hn
          cases h2
          refine iteT ?_
          exact ⟨_, rfl, _, _, rfl, rfl, hR'⟩
        | false =>
          refine iteF ?_
          have : isNN d = false := by
            cases d with
            | int n => cases hn
            | _ => rfl
          rw [this] at hR'
          exact hR'
      · rintro H3 b ex rfl
        rw [all_trV]
        exact q H3 ex
    | _ =>
      refine iteF ?_
      exact q H Ext.refl
def spSum (K : PySem.W.Frag) : Sp := fun vs H Q _ => ∃ (spot : Int) (a : Addr) (ns : List Int), vs = [.int spot, .ref a] ∧ SqT K H a (ns.map V.int) ∧ Q (.int (sumN spot ns)) H
theorem ok_sum_of (T : Txt K mg) (F : FnAt K mg "sum_of" s_sum_of ["spot", "content"] f cd) : CalE P w K mg base CX0 1 "sum_of" (spSum K) := by
  refine F.cal sc_sum_of (fun vs H Q E h => ?_) (fun A outer s H vs Q E hr h => ?_)
  · obtain ⟨spot, a, ns, rfl, _⟩ := h
    rfl
  · obtain ⟨spot, a, ns, rfl, ha, q⟩ := h
    refine ⟨_, (pss_cons (ps_set (i := 2) sc_sum_of.nd rfl (.inl rfl) (pe_op op_add (pv 0) pe_int))
      (pss_cons (ps_for PassesOwn.never rfl (q_piT (K := K) rfl (pv 1)) (pg_name (i := 3) sc_sum_of.nd rfl (.inl rfl)) (pss_one (ps_set (i := 2) sc_sum_of.nd rfl (.inl rfl) (pe_op op_mod (pe_op op_add (pe_op op_add (pe_op op_mul (pv 2) pe_int) (pv 3)) pe_int) (pe_glo (by rfl) T.m_MODULUS)))))
      (pss_one (ps_ret (pv 2))))), ?_⟩
    refine ⟨_, rfl, _, _, rfl, rfl, _, rfl, a, rfl, ⟨_, ha⟩, for_tup (K := K) (a := a) (xs := ns.map V.int) (fun i σ H1 => H1 = H ∧ ∃ y, σ = [some (.int spot), some (.ref a), some (.int (sumN spot (ns.take i))), y]) ⟨rfl, none, rfl⟩ (fun i σ H1 _ h => by rw [h.1]; exact ha) ?_ ?_⟩
    · rintro i x σ H1 hx ⟨rfl, y, rfl⟩
      rw [List.getElem?_map] at hx
      obtain ⟨n, hn, rfl⟩ := Option.map_eq_some_iff.mp hx
      refine ⟨_, rfl, _, _, rfl, rfl, .inr ⟨by decide, by decide⟩, _, rfl, _, _, rfl, rfl, _, _, rfl, rfl, _, _, rfl, rfl, (by show (0:Int) < 2147483647; decide), rfl, some (.int n), ?_⟩
      rw [sumN_take hn] <;> rfl
    · rintro σ H1 ⟨rfl, y, rfl⟩
      rw [List.length_map, List.take_length]
      exact ⟨_, rfl, q⟩
def spCell (K : PySem.W.Frag) (tb : List Addr) : Sp := fun vs H Q _ => ∃ (spot : Int) (a : Addr) (ns : List Int), vs = [.int spot, .ref a] ∧ SqT K H a (ns.map V.int) ∧ Tabs tb H ∧ ∀ p H', H p = none → Ext tb [] H H' → H' p = some (.tup [.int (sumN spot ns), .ref a]) → Q (.ref p) H'
theorem ok_cell_of {tb : List Addr} (F : FnAt K mg "cell_of" s_cell_of ["spot", "content"] f cd) (C_sum_of : CalE P w K mg base CX0 1 "sum_of" (spSum K)) : CalE P w K mg base CX0 2 "cell_of" (spCell K tb) := by
  refine F.cal sc_cell_of (fun vs H Q E h => ?_) (fun A outer s H vs Q E hr h => ?_)
  · obtain ⟨spot, a, ns, rfl, _⟩ := h
    rfl
  · obtain ⟨spot, a, ns, rfl, ha, hT, q⟩ := h
    refine ⟨_, (pss_one (ps_ret (pe_tup (pa_cons (pe_cal C_sum_of (hr.mono (by first | decide | omega)) (by rfl) (pa_cons (pv 0) (pa_cons (pv 1) pa_nil))) (pa_cons (pv 1) pa_nil))))), ?_⟩
    exact ⟨_, rfl, _, rfl, spot, a, ns, rfl, ha, _, rfl, by show 2 ≤ sizeLine; decide, fun p np => q p _ np (Ext.new hT np) upd_same⟩
theorem right_no {spot : Int} : ∀ {ds : List PyData}, ds.length ≠ 2 → rightD spot (.tuple ds) = false
  | [], _ => rfl
  | [a], _ => by cases a <;> rfl
  | [_, _], h => absurd rfl h
  | a :: b :: c :: r, _ => by cases a <;> cases b <;> rfl
theorem right_two (spot : Int) (d0 d1 : PyData) : rightD spot (.tuple [d0, d1]) = (isNumD d0 && (isContD d1 && (match d1 with | .tuple cs => decide (numV d0 = sumN spot (cs.map numV)) | _ => false))) := by
  cases d0 <;> cases d1 <;> first | rfl | (simp only [isNumD, isContD, Bool.false_and, Bool.and_false]; rfl)
theorem right_not {spot : Int} {d : PyData} (h : isTup d = false) : rightD spot d = false := by
  cases d <;> first | rfl | cases h
def spRight (K : PySem.W.Frag) (tb : List Addr) : Sp := fun vs H Q _ => ∃ (spot : Int) (v : V) (d : PyData), vs = [.int spot, v] ∧ AnyD K H v d ∧ Tabs tb H ∧ ∀ H', Ext tb [] H H' → Q (.bl (rightD spot d)) H'
theorem ok_is_right {tb : List Addr} (T : Txt K mg) (F : FnAt K mg "is_right" s_is_right ["spot", "cell"] f cd) (C_is_number : CalE P w K mg base CX0 1 "is_number" (spIsNum K)) (C_is_content : CalE P w K mg base CX0 3 "is_content" (spIsCont K tb)) (C_sum_of : CalE P w K mg base CX0 1 "sum_of" (spSum K)) : CalE P w K mg base CX0 4 "is_right" (spRight K tb) := by
  refine F.cal sc_is_right (fun vs H Q E h => ?_) (fun A outer s H vs Q E hr h => ?_)
  · obtain ⟨spot, v, d, rfl, _⟩ := h
    rfl
  · obtain ⟨spot, v, d, rfl, hd, hT, q⟩ := h
    refine ⟨_, (pss_cons (ps_if (PW.pt (pw_or (pt_not (pt_val (pe_callB (q_isi (K := K) rfl) (by rfl) T.b_isinstance (by decide +kernel) (pa_cons (pv 1) (pa_cons (pe_bltn (v := .ty "tuple") (by rfl) T.b_tuple (by decide +kernel) rfl) pa_nil))))) (pw_or1 (pt_cmpR op_ne (pe_callB (q_len (K := K) rfl) (by rfl) T.b_len PySem.boot_len (pa_cons (pv 1) pa_nil)) pe_int (nomark _))))) (pss_one (ps_ret pe_bl)) pss_nil)
      (pss_cons (ps_if (PW.pt (pw_or (pt_not (pt_val (pe_cal C_is_number (hr.mono (by first | decide | omega)) (by rfl) (pa_cons (pe_ix (q_ixT (K := K) rfl) (pv 1) pe_int (fun _ _ => rfl)) pa_nil)))) (pw_or1 (pt_not (pt_val (pe_cal C_is_content (hr.mono (by first | decide | omega)) (by rfl) (pa_cons (pe_ix (q_ixT (K := K) rfl) (pv 1) pe_int (fun _ _ => rfl)) pa_nil))))))) (pss_one (ps_ret pe_bl)) pss_nil)
      (pss_one (ps_ret (pe_cmpR op_eq (pe_ix (q_ixT (K := K) rfl) (pv 1) pe_int (fun _ _ => rfl)) (pe_cal C_sum_of (hr.mono (by first | decide | omega)) (by rfl) (pa_cons (pv 0) (pa_cons (pe_ix (q_ixT (K := K) rfl) (pv 1) pe_int (fun _ _ => rfl)) pa_nil))) (nomark _)))))), ?_⟩
    refine ⟨_, rfl, _, _, .type (tyN d), _, _, rfl, .ty _, AnyD_ty hd, kit_ty (kit_tup d), _, rfl, ?_⟩
    cases et : isTup d with
    | false =>
      refine iteT ?_
      refine iteT ?_
      exact right_not et ▸ q H Ext.refl
    | true =>
    obtain ⟨ds, rfl⟩ : ∃ ds, d = .tuple ds := by cases d <;> first | exact ⟨_, rfl⟩ | cases et
    obtain ⟨a, xs, rfl, ha, hxs⟩ := AnyD_tup hd
    refine iteF ?_
    have hl := DpAll_len hxs
    refine ⟨_, rfl, _, _, rfl, .inr ⟨_, ha, rfl⟩, rfl, _, rfl, ?_⟩
    by_cases h2 : xs.length = 2
    · refine iteNS (by rw [h2] <;> rfl) ?_
      obtain ⟨x0, x1, d0, d1, rfl, rfl, k0, k1⟩ := DpAll_two hxs h2
      refine ⟨_, rfl, a, _, _, x0, rfl, rfl, ha, rfl, x0, d0, rfl, .inl k0, _, rfl, ?_⟩
      have ev := right_two spot d0 d1
      cases hn : isNumD d0 with
      | false =>
        rw [hn, Bool.false_and] at ev
        refine iteT ?_
        refine iteT ?_
        exact ev ▸ q H Ext.refl
      | true =>
        rw [hn, Bool.true_and] at ev
        refine iteF ?_
        refine ⟨_, rfl, a, _, _, x1, rfl, rfl, ha, rfl, x1, d1, rfl, .inl k1, hT, fun H1 e1 => ⟨_, rfl, ?_⟩⟩
        cases hc : isContD d1 with
        | false =>
          rw [hc, Bool.false_and] at ev
          refine iteT ?_
          exact ev ▸ q H1 e1
        | true =>
          rw [hc, Bool.true_and] at ev
          refine iteF ?_
          obtain ⟨i, rfl⟩ := num_int hn
          cases k0
          obtain ⟨cs, rfl⟩ : ∃ cs, d1 = .tuple cs := by cases d1 <;> first | exact ⟨_, rfl⟩ | cases hc
          have hcs := nn_ints (cs := cs) hc
          cases k1 with
          | @tup b ys _ hb hys =>
          rw [hcs] at hys
          have hy := DpAll_ints hys
          subst hy
          have ha1 := e1.sqT hT ha (by simp)
          refine ⟨_, rfl, a, _, _, .int i, rfl, rfl, ha1, rfl, _, rfl, _, rfl, a, _, _, .ref b, rfl, rfl, ha1, rfl, spot, b, _, rfl, e1.sqT hT hb (by simp), rfl, ?_⟩
          have e2 : rightD spot (.tuple [.int i, .tuple cs]) = decide (V.int i = V.int (sumN spot (cs.map numV))) := by
            rw [ev]
            exact decide_eq_decide.mpr ⟨fun z => congrArg V.int z, fun z => V.int.inj z⟩
          exact e2 ▸ q H1 e1
    · have hne : ¬ V.int (xs.length : Int) = V.int 2 := fun z => h2 (by have := V.int.inj z; omega)
      rw [decide_eq_false hne]
      refine iteT ?_
      exact right_no (spot := spot) (ds := ds) (by omega) ▸ q H Ext.refl

end
end K17

set_option Elab.async false
set_option linter.all false
set_option maxRecDepth 100000
set_option maxHeartbeats 400000
namespace K17
open PySem PySem.Spec PyProof.Rows L2 HK DT
section
variable {P : Program} {w : World} {K : PySem.W.Frag} {mg : Str → Option Value} {base : Heap} {f : Addr} {cd : Value}
/-! ### the law's own sums -/
def isIB : PyData → Bool
  | .int _ => true
  | .bool _ => true
  | _ => false
theorem b2i_num (b : Bool) : b2i b = numV (.bool b) := by cases b <;> rfl
def spLSum (K : PySem.W.Frag) : Sp := fun vs H Q _ => ∃ (spot : Int) (a : Addr) (xs : List V) (cs : List PyData), vs = [.int spot, .ref a] ∧ SqT K H a xs ∧ DpAll K H xs cs ∧ cs.all isIB = true ∧ Q (.int (sumN spot (cs.map numV))) H
theorem ok_l_sum (F : FnAt K mg "_law_sum" s_l_sum ["_law_spot", "_law_content_here"] f cd) : CalE P w K mg base CX0 1 "_law_sum" (spLSum K) := by
  refine F.cal sc_l_sum (fun vs H Q E h => ?_) (fun A outer s H vs Q E hr h => ?_)
  · obtain ⟨spot, a, xs, cs, rfl, _⟩ := h
    rfl
  · obtain ⟨spot, a, xs, cs, rfl, ha, hxs, hcs, q⟩ := h
    refine ⟨_, (pss_cons (ps_set (i := 2) sc_l_sum.nd rfl (.inl rfl) (pe_op op_add (pv 0) pe_int))
      (pss_cons (ps_for PassesOwn.never rfl (q_piT (K := K) rfl (pv 1)) (pg_name (i := 3) sc_l_sum.nd rfl (.inl rfl)) (pss_one (ps_set (i := 2) sc_l_sum.nd rfl (.inl rfl) (pe_op op_mod (pe_op op_add (pe_op (op_add.or op_add_ib) (pe_op op_mul (pv 2) pe_int) (pv 3)) pe_int) pe_int))))
      (pss_one (ps_ret (pv 2))))), ?_⟩
    refine ⟨_, rfl, _, _, rfl, rfl, _, rfl, a, rfl, ⟨_, ha⟩, for_tup (K := K) (a := a) (xs := xs) (fun i σ H1 => H1 = H ∧ ∃ y, σ = [some (.int spot), some (.ref a), some (.int (sumN spot ((cs.map numV).take i))), y]) ⟨rfl, none, rfl⟩ (fun i σ H1 _ h => by rw [h.1]; exact ha) ?_ ?_⟩
    · rintro i x σ H1 hx ⟨rfl, y, rfl⟩
      obtain ⟨d, hd, hdx⟩ := DpAll_get hxs hx
      have hib : isIB d = true := List.all_eq_true.mp hcs d (List.mem_of_getElem? hd)
      have hn : (cs.map numV)[i]? = some (numV d) := by rw [List.getElem?_map, hd] <;> rfl
      refine ⟨_, rfl, _, _, rfl, rfl, .inr ⟨by decide, by decide⟩, _, rfl, ?_⟩
      cases d with
      | int n =>
        cases hdx
        refine .inl ⟨_, _, rfl, rfl, _, _, rfl, rfl, _, _, rfl, rfl, (by show (0:Int) < 2147483647; decide), rfl, some (.int n), ?_⟩
        rw [sumN_take hn] <;> rfl
      | bool b =>
        cases hdx
        refine .inr ⟨_, _, rfl, rfl, _, _, rfl, rfl, _, _, rfl, rfl, (by show (0:Int) < 2147483647; decide), rfl, some (.bl b), ?_⟩
        rw [sumN_take hn, ← b2i_num] <;> rfl
      | _ => cases hib
    · rintro σ H1 ⟨rfl, y, rfl⟩
      have : xs.length = (cs.map numV).length := by rw [List.length_map]; exact DpAll_len hxs
      rw [this, List.take_length]
      exact ⟨_, rfl, q⟩
theorem ib_ints (ns : List Int) : (ns.map PyData.int).all isIB = true := by
  rw [List.all_eq_true]
  intro d hd
  obtain ⟨n, _, rfl⟩ := List.mem_map.mp hd
  rfl
theorem num_ints (ns : List Int) : (ns.map PyData.int).map numV = ns := by
  rw [List.map_map]
  exact List.map_id' ns
theorem ok_l_is_number (T : Txt K mg) (F : FnAt K mg "_law_is_number" s_l_is_number ["_law_one"] f cd) : CalE P w K mg base CX0 1 "_law_is_number" (spIsNum K) := by
  refine F.cal sc_l_is_number (fun vs H Q E h => ?_) (fun A outer s H vs Q E hr h => ?_)
  · obtain ⟨v, d, rfl, _⟩ := h
    rfl
  · obtain ⟨v, d, rfl, hd, q⟩ := h
    refine ⟨_, (pss_one (ps_ret (pe_and (pe_callB (q_isi (K := K) rfl) (by rfl) T.b_isinstance (by decide +kernel) (pa_cons (pv 0) (pa_cons (pe_bltn (v := .ty "int") (by rfl) T.b_int (by decide +kernel) rfl) pa_nil))) (pe_one (pe_not (pe_callB (q_isi (K := K) rfl) (by rfl) T.b_isinstance (by decide +kernel) (pa_cons (pv 0) (pa_cons (pe_bltn (v := .ty "bool") (by rfl) T.b_bool (by decide +kernel) rfl) pa_nil)))))))), ?_⟩
    exact num_rd rfl hd q
def spTruth : Sp := fun vs H Q _ => ∃ (b c : Bool), vs = [.bl b, .bl c] ∧ Q (.bl (decide (b = c))) H
theorem ok_l_truth (T : Txt K mg) (F : FnAt K mg "_law_truth" s_l_truth ["_law_found", "_law_due"] f cd) : CalE P w K mg base CX0 1 "_law_truth" spTruth := by
  refine F.cal sc_l_truth (fun vs H Q E h => ?_) (fun A outer s H vs Q E hr h => ?_)
  · obtain ⟨b, c, rfl, _⟩ := h
    rfl
  · obtain ⟨b, c, rfl, q⟩ := h
    refine ⟨_, (pss_one (ps_ret (pe_and (pe_callB (q_isi (K := K) rfl) (by rfl) T.b_isinstance (by decide +kernel) (pa_cons (pv 0) (pa_cons (pe_bltn (v := .ty "bool") (by rfl) T.b_bool (by decide +kernel) rfl) pa_nil))) (pe_one (pe_cmpR op_eq (pv 0) (pv 1) (nomark _)))))), ?_⟩
    refine ⟨_, rfl, _, _, .type "bool", _, true, rfl, .ty _, .base (.bl _), kit_ty (by decide +kernel), _, rfl, iteT ?_⟩
    refine ⟨_, rfl, _, rfl, rfl, ?_⟩
    have : decide (V.bl b = V.bl c) = decide (b = c) := decide_eq_decide.mpr ⟨fun z => V.bl.inj z, fun z => congrArg V.bl z⟩
    exact this ▸ q
def spLRight (K : PySem.W.Frag) : Sp := fun vs H Q _ => ∃ (spot : Int) (v : V) (d : PyData), vs = [.int spot, v] ∧ AnyD K H v d ∧ Q (.bl (rightD spot d)) H
theorem ok_l_right (T : Txt K mg) (F : FnAt K mg "_law_right" s_l_right ["_law_spot", "_law_cell"] f cd) (C_l_is_number : CalE P w K mg base CX0 1 "_law_is_number" (spIsNum K)) (C_l_sum : CalE P w K mg base CX0 1 "_law_sum" (spLSum K)) : CalE P w K mg base CX0 2 "_law_right" (spLRight K) := by
  refine F.cal sc_l_right (fun vs H Q E h => ?_) (fun A outer s H vs Q E hr h => ?_)
  · obtain ⟨spot, v, d, rfl, _⟩ := h
    rfl
  · obtain ⟨spot, v, d, rfl, hd, q⟩ := h
    refine ⟨_, (pss_cons (ps_if (PW.pt (pw_or (pt_not (pt_val (pe_callB (q_isi (K := K) rfl) (by rfl) T.b_isinstance (by decide +kernel) (pa_cons (pv 1) (pa_cons (pe_bltn (v := .ty "tuple") (by rfl) T.b_tuple (by decide +kernel) rfl) pa_nil))))) (pw_or (pt_cmpR op_ne (pe_callB (q_len (K := K) rfl) (by rfl) T.b_len PySem.boot_len (pa_cons (pv 1) pa_nil)) pe_int (nomark _)) (pw_or (pt_not (pt_val (pe_cal C_l_is_number (hr.mono (by first | decide | omega)) (by rfl) (pa_cons (pe_ix (q_ixT (K := K) rfl) (pv 1) pe_int (fun _ _ => rfl)) pa_nil)))) (pw_or1 (pt_not (pt_val (pe_callB (q_isi (K := K) rfl) (by rfl) T.b_isinstance (by decide +kernel) (pa_cons (pe_ix (q_ixT (K := K) rfl) (pv 1) pe_int (fun _ _ => rfl)) (pa_cons (pe_bltn (v := .ty "tuple") (by rfl) T.b_tuple (by decide +kernel) rfl) pa_nil)))))))))) (pss_one (ps_ret pe_bl)) pss_nil)
      (pss_cons (ps_for PassesOwn.never rfl (q_piT (K := K) rfl (pe_ix (q_ixT (K := K) rfl) (pv 1) pe_int (fun _ _ => rfl))) (pg_name (i := 2) sc_l_right.nd rfl (.inl rfl)) (pss_one (ps_if (PW.pt (pw_or (pt_not (pt_val (pe_cal C_l_is_number (hr.mono (by first | decide | omega)) (by rfl) (pa_cons (pv 2) pa_nil)))) (pw_or1 (pt_cmpR op_lt (pv 2) pe_int (nomark _))))) (pss_one (ps_ret pe_bl)) pss_nil)))
      (pss_one (ps_ret (pe_cmpR op_eq (pe_ix (q_ixT (K := K) rfl) (pv 1) pe_int (fun _ _ => rfl)) (pe_cal C_l_sum (hr.mono (by first | decide | omega)) (by rfl) (pa_cons (pv 0) (pa_cons (pe_ix (q_ixT (K := K) rfl) (pv 1) pe_int (fun _ _ => rfl)) pa_nil))) (nomark _)))))), ?_⟩
    refine ⟨_, rfl, _, _, .type (tyN d), _, _, rfl, .ty _, AnyD_ty hd, kit_ty (kit_tup d), _, rfl, ?_⟩
    cases et : isTup d with
    | false =>
      refine iteT ?_
      refine iteT ?_
      exact right_not et ▸ q
    | true =>
    obtain ⟨ds, rfl⟩ : ∃ ds, d = .tuple ds := by cases d <;> first | exact ⟨_, rfl⟩ | cases et
    obtain ⟨a, xs, rfl, ha, hxs⟩ := AnyD_tup hd
    refine iteF ?_
    have hl := DpAll_len hxs
    refine ⟨_, rfl, _, _, rfl, .inr ⟨_, ha, rfl⟩, rfl, _, rfl, ?_⟩
    by_cases h2 : xs.length = 2
    · refine iteNS (by rw [h2] <;> rfl) ?_
      obtain ⟨x0, x1, d0, d1, rfl, rfl, k0, k1⟩ := DpAll_two hxs h2
      refine ⟨_, rfl, a, _, _, x0, rfl, rfl, ha, rfl, x0, d0, rfl, .inl k0, _, rfl, ?_⟩
      have ev := right_two spot d0 d1
      cases hn : isNumD d0 with
      | false =>
        rw [hn, Bool.false_and] at ev
        refine iteT ?_
        refine iteT ?_
        exact ev ▸ q
      | true =>
        rw [hn, Bool.true_and] at ev
        refine iteF ?_
        refine ⟨_, rfl, a, _, _, x1, rfl, rfl, ha, rfl, _, _, .type (tyN d1), _, _, rfl, .ty _, Dp_ty k1, kit_ty (kit_tup d1), _, rfl, ?_⟩
        cases ht : isTup d1 with
        | false =>
          have : isContD d1 = false := by cases d1 <;> first | rfl | cases ht
          rw [this, Bool.false_and] at ev
          refine iteT ?_
          exact ev ▸ q
        | true =>
          refine iteF ?_
          obtain ⟨i, rfl⟩ := num_int hn
          cases k0
          obtain ⟨cs, rfl⟩ : ∃ cs, d1 = .tuple cs := by cases d1 <;> first | exact ⟨_, rfl⟩ | cases ht
          cases k1 with
          | @tup b ys _ hb hys =>
          have hl2 := DpAll_len hys
          -- for one in cell[1]
          refine ⟨_, rfl, a, _, _, .ref b, rfl, rfl, ha, rfl, b, rfl, ⟨_, hb⟩, for_tup (K := K) (a := b) (xs := ys) (fun j σ H1 => H1 = H ∧ (∀ m, m < j → trV isNN cs m = true) ∧ ∃ y, σ = [some (.int spot), some (.ref a), y]) ⟨rfl, fun m hm => absurd hm (Nat.not_lt_zero _), none, rfl⟩ (fun j σ H1 _ h => by rw [h.1]; exact hb) ?_ ?_⟩
          · rintro j x σ H1 hx ⟨rfl, hj, y, rfl⟩
            obtain ⟨d, hdj, hdx⟩ := DpAll_get hys hx
            refine ⟨_, rfl, x, d, rfl, .inl hdx, _, rfl, ?_⟩
            have no : isNN d = false → rightD spot (.tuple [.int i, .tuple cs]) = false := fun z => by
              have : cs.all isNN = false := by
                rw [List.all_eq_false]
                exact ⟨d, List.mem_of_getElem? hdj, by rw [z]; exact Bool.false_ne_true⟩
              show (cs.all isNN && _) = false
              rw [this, Bool.false_and]
            cases hnn : isNumD d with
            | false =>
              have : isNN d = false := by cases d <;> first | rfl | cases hnn
              refine iteT ?_
              refine iteT ?_
              exact no this ▸ q
            | true =>
              obtain ⟨n, rfl⟩ := num_int hnn
              cases hdx
              refine iteF ?_
              refine ⟨_, rfl, _, _, rfl, rfl, _, rfl, ite2 (fun e => ?_) (fun e => ?_)⟩
              · have hneg : n < 0 := of_decide_eq_true e
                have : isNN (.int n) = false := decide_eq_false (by omega)
                exact no this ▸ q
              · have hneg : ¬ n < 0 := fun z => e (decide_eq_true z)
                refine ⟨rfl, fun m hm => ?_, _, rfl⟩
                rcases Nat.lt_or_ge m j with z | z
                · exact hj m z
                · have : m = j := by omega
                  rw [this, trV_some hdj]
                  exact decide_eq_true (by omega)
          · rintro σ H1 ⟨rfl, hj, y, rfl⟩
            have hall : cs.all isNN = true := by
              rw [← all_trV, List.all_eq_true]
              exact fun m hm => hj m (by rw [hl2]; exact List.mem_range.mp hm)
            have hcs := nn_ints hall
            rw [hcs] at hys
            refine ⟨_, rfl, a, _, _, .int i, rfl, rfl, ha, rfl, _, rfl, _, rfl, a, _, _, .ref b, rfl, rfl, ha, rfl, spot, b, ys, _, rfl, hb, hys, ib_ints _, rfl, ?_⟩
            rw [num_ints]
            have e2 : rightD spot (.tuple [.int i, .tuple cs]) = decide (V.int i = V.int (sumN spot (cs.map numV))) := by
              show (cs.all isNN && _) = _
              rw [hall, Bool.true_and]
              exact decide_eq_decide.mpr ⟨fun z => congrArg V.int z, fun z => V.int.inj z⟩
            exact e2 ▸ q
    · have hne : ¬ V.int (xs.length : Int) = V.int 2 := fun z => h2 (by have := V.int.inj z; omega)
      rw [decide_eq_false hne]
      refine iteT ?_
      refine iteT ?_
      exact right_no (spot := spot) (ds := ds) (by omega) ▸ q

end
end K17

set_option Elab.async false
set_option linter.all false
set_option maxRecDepth 100000
set_option maxHeartbeats 8000000
namespace K17
open PySem PySem.Spec PyProof.Rows L2 HK DT
section
variable {P : Program} {w : World} {K : PySem.W.Frag} {mg : Str → Option Value} {base : Heap} {f : Addr} {cd : Value}
/-! ### what is bent -/
theorem cutV_to (xs : List V) (k : Nat) (h : k ≤ xs.length) : cutV xs none (some (k : Int)) = xs.take k := by
  unfold cutV
  rw [HT.sIx_nat, HT.sIx_none, List.drop_zero, Nat.sub_zero, Nat.min_eq_left h]
theorem cutV_from (xs : List V) (k : Nat) : cutV xs (some (k : Int)) none = xs.drop k := by
  unfold cutV
  rw [HT.sIx_nat, HT.sIx_none]
  rcases Nat.le_total k xs.length with h | h
  · rw [Nat.min_eq_left h]
    exact List.take_of_length_le (by rw [List.length_drop]; exact Nat.le_refl _)
  · rw [Nat.min_eq_right h, Nat.sub_self, List.take_zero]
    exact (List.drop_eq_nil_of_le h).symm
theorem DpAll_app {K : PySem.W.Frag} {H : Hp} : ∀ {xs ys : List V} {cs ds : List PyData}, DpAll K H xs cs → DpAll K H ys ds → DpAll K H (xs ++ ys) (cs ++ ds)
  | _, _, _, _, .nil, t => t
  | _, _, _, _, .cons h r, t => .cons h (DpAll_app r t)
theorem DpAll_take {K : PySem.W.Frag} {H : Hp} : ∀ {xs : List V} {cs : List PyData} (k : Nat), DpAll K H xs cs → DpAll K H (xs.take k) (cs.take k)
  | _, _, 0, _ => .nil
  | _, _, _ + 1, .nil => .nil
  | _, _, k + 1, .cons h r => .cons h (DpAll_take k r)
theorem DpAll_drop {K : PySem.W.Frag} {H : Hp} : ∀ {xs : List V} {cs : List PyData} (k : Nat), DpAll K H xs cs → DpAll K H (xs.drop k) (cs.drop k)
  | _, _, 0, h => h
  | _, _, _ + 1, .nil => .nil
  | _, _, k + 1, .cons _ r => DpAll_drop k r
theorem DpAll_any {K : PySem.W.Frag} {H : Hp} : ∀ {xs : List V}, (∀ x ∈ xs, ∃ d, Dp K H x d) → ∃ ds, DpAll K H xs ds
  | [], _ => ⟨[], .nil⟩
  | x :: r, h => by
    obtain ⟨d, hd⟩ := h x (List.mem_cons_self ..)
    obtain ⟨ds, hds⟩ := DpAll_any fun y hy => h y (List.mem_cons_of_mem _ hy)
    exact ⟨d :: ds, .cons hd hds⟩
section
variable {tb : List Addr} {σ : L2.St} {H H0 : Hp} {Q : VK}
theorem catl_rd {i : Nat} {L : Addr} {vs : List V} {ta : TA} {n : Nat} (hT : Tabs tb H) (hL : H L = some (.lst vs)) (hvs : ∀ v ∈ vs, ∃ d, AnyD K H v d) (h : σ[i]? = some (some (.ref L))) (hlen : vs.length ≤ 1000) (hn : n ≤ 1000) (e0 : Ext tb [] H0 H) (ga : Ga tb ta σ H0 (GAs K n))
    (q : ∀ L' vs' H', H L' = none → Ext tb [] H H' → H' L' = some (.lst vs') → (∀ v ∈ vs', ∃ d, AnyD K H' v d) → vs'.length = vs.length + n → Q (.ref L') H') : tOp rCat (tVar i) (tLst ta) σ H Q := by
  refine ⟨_, h, ?_⟩
  refine ga H e0 _ fun us H1 e1 ⟨hl, hus⟩ => ?_
  refine ⟨line_of (by omega), fun p np => ?_⟩
  have hT1 := e1.tabs hT
  have e2 : Ext tb [] H1 (upd H1 p (.lst us)) := Ext.new hT1 np
  have e12 := e1.trans e2
  have hT2 := e12.tabs hT
  refine ⟨L, p, vs, us, rfl, rfl, e12.lst hT hL (by simp), upd_same, line_of (by omega), fun p2 np2 => ?_⟩
  have e3 : Ext tb [] (upd H1 p (.lst us)) (upd (upd H1 p (.lst us)) p2 (.lst (vs ++ us))) := Ext.new hT2 np2
  refine q p2 _ _ (e12.free hT np2 (by simp)) (e12.trans e3) upd_same (fun v hv => ?_) (by rw [List.length_append, hl])
  rcases List.mem_append.mp hv with hv | hv
  · obtain ⟨d, hd⟩ := hvs v hv
    exact ⟨d, AnyD_ext (e12.trans e3) hT hd⟩
  · obtain ⟨d, hd⟩ := hus v hv
    exact ⟨d, AnyD_ext (e2.trans e3) hT1 hd⟩
theorem asg_use {te : TE} {i : Nat} {rest : TS} {D : Ends} (h : te σ H fun x H1 => rest D (σ.set i (some x)) H1) : tSeq (tAsg te (gName i)) rest D σ H := h
theorem nm_use {i : Nat} {v : V} {Q : L2.St → Hp → Prop} (h : Q (σ.set i (some v)) H) : gName i v σ H Q := h
theorem nm_asg {j i : Nat} {v : V} {te : TE} {rest : TS} {D : Ends} {rt : VK} {bk ct : L2.St → Hp → Prop} (h : te (σ.set j (some v)) H fun x H1 => rest D ((σ.set j (some v)).set i (some x)) H1) : gName j v σ H (Ends.mk (tSeq (tAsg te (gName i)) rest D) rt bk ct).nx := h
theorem ret_use {te : TE} {D : Ends} (h : te σ H D.rt) : tRet te D σ H := h
theorem lst_use {ta : TA} {n : Nat} (hT : Tabs tb H) (hn : n ≤ 1000) (e0 : Ext tb [] H0 H) (ga : Ga tb ta σ H0 (GAs K n))
    (q : ∀ L' vs' H', H L' = none → Ext tb [] H H' → H' L' = some (.lst vs') → (∀ v ∈ vs', ∃ d, AnyD K H' v d) → vs'.length = n → Q (.ref L') H') : tLst ta σ H Q := by
  refine ga H e0 _ fun us H1 e1 ⟨hl, hus⟩ => ?_
  refine ⟨line_of (by omega), fun p np => ?_⟩
  have hT1 := e1.tabs hT
  have e2 : Ext tb [] H1 (upd H1 p (.lst us)) := Ext.new hT1 np
  refine q p _ _ (e1.free hT np (by simp)) (e1.trans e2) upd_same (fun v hv => ?_) hl
  obtain ⟨d, hd⟩ := hus v hv
  exact ⟨d, AnyD_ext e2 hT1 hd⟩
theorem gv_sum {te ta : TE} {a : Addr} {xs : List V} {cs : List PyData} (hT : Tabs tb H) (hs : Gv tb te σ H (GI fun _ => True)) (h : ∀ H1, Ext tb [] H H1 → ∀ Q : VK, Q (.ref a) H1 → ta σ H1 Q) (ha : SqT K H a xs) (hxs : DpAll K H xs cs) (hib : cs.all isIB = true) :
    Gv tb (tCal (spLSum K) (fun _ => E0) (tCons te (tCons ta tNil))) σ H (GD K) := fun H1 e Q q =>
  hs H1 e _ fun v H2 e2 ⟨spot, ev, _⟩ => h H2 (e.trans e2) _ ⟨spot, a, xs, cs, by rw [ev], (e.trans e2).sqT hT ha (by simp), DpAll_ext (e.trans e2) hT cs hxs, hib, q _ H2 e2 ⟨_, .int _⟩⟩
theorem gv_sum0 {te : TE} (hT : Tabs tb H) (hs : Gv tb te σ H (GI fun _ => True)) : Gv tb (tCal (spLSum K) (fun _ => E0) (tCons te (tCons (tTup tNil) tNil))) σ H (GD K) := fun H1 e Q q =>
  hs H1 e _ fun v H2 e2 ⟨spot, ev, _⟩ => ⟨Nat.zero_le _, fun p np => by
    have e3 : Ext tb [] H2 (upd H2 p (.tup [])) := Ext.new ((e.trans e2).tabs hT) np
    exact ⟨spot, p, [], [], by rw [ev], SqT.of upd_same, .nil, rfl, q _ _ (e2.trans e3) ⟨_, .int _⟩⟩⟩
theorem gv_list {i : Nat} {a : Addr} {xs : List V} {cs : List PyData} (hT : Tabs tb H) (h : σ[i]? = some (some (.ref a))) (ha : SqT K H a xs) (hxs : DpAll K H xs cs) : Gv tb (tCB (rLstK K) (tCons (tVar i) tNil)) σ H (GD K) := fun H1 e Q q =>
  ⟨_, h, a, xs, rfl, .inr (e.sqT hT ha (by simp)), fun l nl => by
    have e2 : Ext tb [] H1 (upd H1 l (.lst xs)) := Ext.new (e.tabs hT) nl
    exact q _ _ e2 ⟨.list cs, .lst (SqL.of upd_same) (DpAll_ext (e.trans e2) hT cs hxs)⟩⟩
theorem gv_rev {i : Nat} {a : Addr} {xs : List V} {cs : List PyData} (hT : Tabs tb H) (h : σ[i]? = some (some (.ref a))) (ha : SqT K H a xs) (hxs : DpAll K H xs cs) (hl : (SL.pick xs none none (-1)).length ≤ 1000) :
    Gv tb (SL.tStep K (tVar i) tNoPart tNoPart (tPart (tUn (rU fun i => .int (-i)) (tC (.int 1))))) σ H (GD K) := fun H1 e Q q =>
  ⟨_, h, 1, rfl, -1, rfl, a, xs, -1, rfl, rfl, by decide, by decide, e.sqT hT ha (by simp), line_of (by omega), fun p np => by
    have e2 : Ext tb [] H1 (upd H1 p (.tup (SL.pick xs none none (-1)))) := Ext.new (e.tabs hT) np
    obtain ⟨ds, hds⟩ := DpAll_any (K := K) (H := upd H1 p (.tup (SL.pick xs none none (-1)))) (xs := SL.pick xs none none (-1)) fun x hx => by
      unfold SL.pick at hx
      obtain ⟨m, _, hm⟩ := List.mem_filterMap.mp hx
      obtain ⟨d, _, hd⟩ := DpAll_get hxs hm
      exact ⟨d, Dp_ext (e.trans e2) hT d hd⟩
    exact q _ _ e2 ⟨.tuple ds, .tup (SqT.of upd_same) hds⟩⟩
theorem gv_dict0 (hT : Tabs tb H) : Gv tb tDNewK σ H (GAny K) := fun H1 e Q q p np => q _ _ (Ext.new (e.tabs hT) np) ⟨_, .inr ⟨p, [], rfl, upd_same, rfl⟩⟩
theorem gv_dict1 {i j : Nat} {n : Int} {v : V} (hT : Tabs tb H) (hi : σ[i]? = some (some (.int n))) (hj : σ[j]? = some (some v)) : Gv tb (tDisp [(tVar i, tVar j)]) σ H (GAny K) := fun H1 e Q q p np => by
  refine ⟨_, hi, _, hj, upd_same, [(.inl n, v)], rfl, (by show 1 ≤ 15; decide), ?_⟩
  have e1 : Ext tb [] H1 (upd H1 p (.dK [])) := Ext.new (e.tabs hT) np
  exact q _ _ (Ext.own (e.tabs hT) e1 np) ⟨_, .inr ⟨p, _, rfl, upd_same, rfl⟩⟩
theorem gv_strI {i : Nat} {n : Int} (hi : σ[i]? = some (some (.int n))) (hn : n.natAbs.log2 < 1920) : Gv tb (tCB (fun xs H Q => ∃ i, xs = [.int i] ∧ i.natAbs.log2 < 1920 ∧ Q (.str (toString i)) H) (tCons (tVar i) tNil)) σ H (GD K) := fun H1 e Q q =>
  ⟨_, hi, n, rfl, hn, q _ H1 Ext.refl ⟨_, .str _⟩⟩
theorem gv_cat0 {i : Nat} {a : Addr} {xs : List V} {cs : List PyData} (hT : Tabs tb H) (h : σ[i]? = some (some (.ref a))) (ha : SqT K H a xs) (hxs : DpAll K H xs cs) (hl : xs.length ≤ 1000) : Gv tb (tOp (rCatA K) (tVar i) (tTup (tCons (tC (.int 0)) tNil))) σ H (GD K) := fun H1 e Q q => by
  refine ⟨_, h, by show 1 ≤ sizeLine; decide, fun p np => ?_⟩
  have hT1 := e.tabs hT
  have e1 : Ext tb [] H1 (upd H1 p (.tup [.int 0])) := Ext.new hT1 np
  refine cat_rd (e1.tabs hT1) ((e.trans e1).sqT hT ha (by simp)) (SqT.of upd_same) (by show xs.length + 1 ≤ 100000; omega) fun p2 H2 e2 h2 => ?_
  exact q _ _ (e1.trans e2) ⟨.tuple (cs ++ [.int 0]), .tup h2 (DpAll_app (DpAll_ext ((e.trans e1).trans e2) hT cs hxs) (.cons (.int 0) .nil))⟩
end
theorem sumN_rg {spot : Int} (h0 : 0 ≤ spot) (h1 : spot ≤ 1000) (ns : List Int) : 0 ≤ sumN spot ns ∧ sumN spot ns < 2147483647 := by
  rcases List.eq_nil_or_concat ns with rfl | ⟨r, n, rfl⟩
  · exact ⟨by show 0 ≤ spot + 1; omega, by show spot + 1 < 2147483647; omega⟩
  · unfold sumN
    rw [List.concat_eq_append, List.foldl_append]
    exact ⟨Int.emod_nonneg _ (by decide), Int.emod_lt_of_pos _ (by decide)⟩
theorem small_log {n : Int} (h0 : 0 ≤ n) (h : n < 2147483647) : n.natAbs.log2 < 1920 := by
  have : n.natAbs < 2 ^ 31 := by omega
  by_cases hz : n.natAbs = 0
  · rw [hz]
    decide
  · exact Nat.lt_trans ((Nat.log2_lt hz).mpr this) (by decide)
theorem pick_len (xs : List V) (lo hi : Option Int) (st : Int) : (SL.pick xs lo hi st).length ≤ Builtin.Slice.slicePlaces (Builtin.Slice.sliceAdjust lo hi st (xs.length : Int)).1 (Builtin.Slice.sliceAdjust lo hi st (xs.length : Int)).2 st := by
  unfold SL.pick
  refine Nat.le_trans (List.length_filterMap_le _ _) ?_
  rw [List.length_range]
  exact Nat.le_refl _
theorem rev_len {xs : List V} (h : xs.length ≤ 1000) : (SL.pick xs none none (-1)).length ≤ 1000 := by
  refine Nat.le_trans (pick_len xs none none (-1)) ?_
  show (if (-1 : Int) > 0 then _ else (if ((xs.length : Int) - 1) > -1 then (((xs.length : Int) - 1) - -1 - 1) / (- -1) + 1 else 0)).toNat ≤ 1000
  rw [if_neg (by decide)]
  split
  · rw [show (- -1 : Int) = 1 by decide, Int.ediv_one]
    omega
  · decide
def spBent (K : PySem.W.Frag) (tb : List Addr) : Sp := fun vs H Q _ => ∃ (spot : Int) (a : Addr) (number : Int) (ns : List Int), vs = [.int spot, .ref a, .int number] ∧ 0 ≤ spot ∧ spot ≤ 1000 ∧ SqT K H a (ns.map V.int) ∧ ns.length ≤ 100 ∧ Rg number ∧ Tabs tb H ∧
  ∀ p us H', Ext tb [] H H' → H p = none → H' p = some (.lst us) → (∀ v ∈ us, ∃ d, AnyD K H' v d) → us.length ≤ 1000 → Q (.ref p) H'
theorem ok_l_bent {tb : List Addr} (T : Txt K mg) (F : FnAt K mg "_law_bent" s_l_bent ["_law_spot", "_law_content_here", "_law_number"] f cd) (C_l_sum : CalE P w K mg base CX0 1 "_law_sum" (spLSum K)) : CalE P w K mg base CX0 2 "_law_bent" (spBent K tb) := by
  refine F.cal sc_l_bent (fun vs H Q E h => ?_) (fun A outer s H vs Q E hr h => ?_)
  · obtain ⟨spot, a, number, ns, rfl, _⟩ := h
    rfl
  · obtain ⟨spot, a, number, ns, rfl, hs0, hs1, ha, hl, hrg, hT, q⟩ := h
    refine ⟨_, (pss_cons (ps_set (i := 3) sc_l_bent.nd rfl (.inl rfl) (pe_cal C_l_sum (hr.mono (by first | decide | omega)) (by rfl) (pa_cons (pv 0) (pa_cons (pv 1) pa_nil))))
      (pss_cons (ps_set (i := 4) sc_l_bent.nd rfl (.inl rfl) (pe_op op_mod (pv 2) (pe_op op_add (pe_callB (q_len (K := K) rfl) (by rfl) T.b_len PySem.boot_len (pa_cons (pv 1) pa_nil)) pe_int)))
      (pss_cons (ps_set (i := 5) sc_l_bent.nd rfl (.inl rfl) (pe_op (q_catT (K := K) rfl) (pe_slice (q_slT (K := K) rfl) (pv 1) po_none (po_some (pv 4))) (pe_slice (q_slT (K := K) rfl) (pv 1) (po_some (pe_op op_add (pv 4) pe_int)) po_none)))
      (pss_cons (ps_set (i := 6) sc_l_bent.nd rfl (.inl rfl) (pe_op (q_catT (K := K) rfl) (pe_op (q_catT (K := K) rfl) (pe_slice (q_slT (K := K) rfl) (pv 1) po_none (po_some (pv 4))) (pe_tup (pa_cons (pe_op op_mod (pv 2) pe_int) pa_nil))) (pe_slice (q_slT (K := K) rfl) (pv 1) (po_some (pv 4)) po_none)))
      (pss_cons (ps_set (i := 7) sc_l_bent.nd rfl (.inl rfl) (pe_lst (pa_cons (pe_tup (pa_cons (pe_op op_add (pv 3) pe_int) (pa_cons (pv 1) pa_nil))) (pa_cons (pe_tup (pa_cons (pe_op op_sub (pv 3) pe_int) (pa_cons (pv 1) pa_nil))) (pa_cons (pe_tup (pa_cons (pe_op op_add (pv 3) pe_int) (pa_cons (pv 1) pa_nil))) (pa_cons (pe_tup (pa_cons (pv 3) (pa_cons (pv 5) pa_nil))) (pa_cons (pe_tup (pa_cons (pv 3) (pa_cons (pv 6) pa_nil))) pa_nil)))))))
      (pss_cons (ps_set (i := 7) sc_l_bent.nd rfl (.inl rfl) (pe_op op_cat (pv 7) (pe_lst (pa_cons (pe_tup (pa_cons (pv 3) (pa_cons (pe_callTy (q_lst (K := K) rfl) (by rfl) T.b_list (by decide +kernel) (pa_cons (pv 1) pa_nil)) pa_nil))) (pa_cons (pe_lst (pa_cons (pv 3) (pa_cons (pv 1) pa_nil))) (pa_cons (pe_tup (pa_cons (pv 3) (pa_cons (pv 1) (pa_cons pe_int pa_nil)))) (pa_cons (pe_tup (pa_cons (pv 3) pa_nil)) (pa_cons (pe_tup pa_nil) (pa_cons (pe_tup (pa_cons (pv 1) (pa_cons (pv 3) pa_nil))) pa_nil)))))))))
      (pss_cons (ps_set (i := 7) sc_l_bent.nd rfl (.inl rfl) (pe_op op_cat (pv 7) (pe_lst (pa_cons (pe_tup (pa_cons (pv 3) (pa_cons (SL.pe_step (K := K) rfl (pv 1) po_none po_none (po_some (pe_un un_neg pe_int))) pa_nil))) (pa_cons (pe_tup (pa_cons (pe_callTy call_str_int (by rfl) T.b_str (by decide +kernel) (pa_cons (pv 3) pa_nil)) (pa_cons (pv 1) pa_nil))) (pa_cons (pe_tup (pa_cons (pe_cal C_l_sum (hr.mono (by first | decide | omega)) (by rfl) (pa_cons (pe_op op_add (pv 0) pe_int) (pa_cons (pv 1) pa_nil))) (pa_cons (pv 1) pa_nil))) pa_nil))))))
      (pss_cons (ps_set (i := 7) sc_l_bent.nd rfl (.inl rfl) (pe_op op_cat (pv 7) (pe_lst (pa_cons (pe_tup (pa_cons (pe_cal C_l_sum (hr.mono (by first | decide | omega)) (by rfl) (pa_cons (pv 0) (pa_cons (pv 6) pa_nil))) (pa_cons (pv 6) pa_nil))) (pa_cons (pe_tup (pa_cons (pv 3) (pa_cons (pe_op (q_catT (K := K) rfl) (pv 1) (pe_tup (pa_cons pe_int pa_nil))) pa_nil))) (pa_cons (pe_tup (pa_cons pe_bl (pa_cons (pv 1) pa_nil))) pa_nil))))))
      (pss_cons (ps_set (i := 8) sc_l_bent.nd rfl (.inl rfl) (pe_op (q_catT (K := K) rfl) (pe_op (q_catT (K := K) rfl) (pe_slice (q_slT (K := K) rfl) (pv 1) po_none (po_some (pv 4))) (pe_tup (pa_cons (pe_op op_sub (pe_un un_neg pe_int) (pe_op op_mod (pv 2) pe_int)) pa_nil))) (pe_slice (q_slT (K := K) rfl) (pv 1) (po_some (pv 4)) po_none)))
      (pss_cons (ps_set (i := 9) sc_l_bent.nd rfl (.inl rfl) (pe_op (q_catT (K := K) rfl) (pe_op (q_catT (K := K) rfl) (pe_slice (q_slT (K := K) rfl) (pv 1) po_none (po_some (pv 4))) (pe_tup (pa_cons (pe_cmpR op_eq (pe_op op_mod (pe_op op_fdiv (pv 2) pe_int) pe_int) pe_int (nomark _)) pa_nil))) (pe_slice (q_slT (K := K) rfl) (pv 1) (po_some (pv 4)) po_none)))
      (pss_cons (ps_set (i := 7) sc_l_bent.nd rfl (.inl rfl) (pe_op op_cat (pv 7) (pe_lst (pa_cons (pe_tup (pa_cons (pe_cal C_l_sum (hr.mono (by first | decide | omega)) (by rfl) (pa_cons (pv 0) (pa_cons (pv 8) pa_nil))) (pa_cons (pv 8) pa_nil))) (pa_cons (pe_tup (pa_cons (pe_cal C_l_sum (hr.mono (by first | decide | omega)) (by rfl) (pa_cons (pv 0) (pa_cons (pv 9) pa_nil))) (pa_cons (pv 9) pa_nil))) (pa_cons (pe_tup (pa_cons (pe_cal C_l_sum (hr.mono (by first | decide | omega)) (by rfl) (pa_cons (pv 0) (pa_cons (pe_tup pa_nil) pa_nil))) (pa_cons pe_non pa_nil))) pa_nil))))))
      (pss_cons (ps_set (i := 7) sc_l_bent.nd rfl (.inl rfl) (pe_op op_cat (pv 7) (pe_lst (pa_cons pe_non (pa_cons pe_int (pa_cons (pv 3) (pa_cons pe_bl (pa_cons pe_str (pa_cons pe_str (pa_cons (pv 1) (pa_cons (pe_callTy (q_lst (K := K) rfl) (by rfl) T.b_list (by decide +kernel) (pa_cons (pv 1) pa_nil)) (pa_cons pe_dnewK (pa_cons (pe_disp (pps_cons (pv 3) (pv 1) pps_nil) (by rfl) (by rfl) (fun z => by cases z) (by decide)) pa_nil)))))))))))))
      (pss_one (ps_ret (pe_op op_cat (pv 7) (pe_lst (pa_cons (pe_tup (pa_cons (pe_tup (pa_cons (pv 3) (pa_cons (pv 1) pa_nil))) pa_nil)) (pa_cons (pe_tup (pa_cons (pv 3) (pa_cons pe_non pa_nil))) pa_nil)))))))))))))))))), ?_⟩
    unfold tNoPart
    generalize hxs0 : ns.map V.int = xs at ha
    have hxl : xs.length = ns.length := by rw [← hxs0, List.length_map]
    have hxs : DpAll K H xs (ns.map PyData.int) := by rw [← hxs0]; exact dp_ints ns
    -- due, at
    refine ⟨_, rfl, _, rfl, spot, a, xs, _, rfl, ha, hxs, ib_ints ns, ?_⟩
    rw [num_ints]
    have hdue := sumN_rg hs0 hs1 ns
    generalize sumN spot ns = due at hdue
    refine ⟨_, rfl, _, rfl, _, _, rfl, .inr ⟨_, ha, rfl⟩, _, _, rfl, rfl, _, _, rfl, rfl, (by show (0:Int) < (xs.length : Int) + 1; omega), ?_⟩
    obtain ⟨k, hk, hkl⟩ : ∃ k : Nat, number % ((xs.length : Int) + 1) = (k : Int) ∧ k ≤ xs.length := by
      have b1 := Int.emod_nonneg number (b := (xs.length : Int) + 1) (by omega)
      have b2 := Int.emod_lt_of_pos number (b := (xs.length : Int) + 1) (by omega)
      exact ⟨(number % ((xs.length : Int) + 1)).toNat, by omega, by omega⟩
    simp only [hk]
    have hkt := cutV_to xs k hkl
    have hkf := cutV_from xs k
    have hkf1 := cutV_from xs (k + 1)
    have lt : (xs.take k).length ≤ 100 := by rw [List.length_take]; omega
    have ld : (xs.drop k).length ≤ 100 := by rw [List.length_drop]; omega
    have ld1 : (xs.drop (k + 1)).length ≤ 100 := by rw [List.length_drop]; omega
    -- one
    refine ⟨_, rfl, _, rfl, _, rfl, ?_⟩
    refine cut_rd hT ha fun p1 H1 e1 h1 => ?_
    rw [hkt] at h1
    have hT1 := e1.tabs hT
    refine ⟨_, rfl, _, rfl, _, _, rfl, rfl, _, rfl, ?_⟩
    refine cut_rd hT1 (e1.sqT hT ha (by simp)) fun p2 H2 e2 h2 => ?_
    rw [show ((k : Int) + 1) = ((k + 1 : Nat) : Int) from rfl, hkf1] at h2
    have hT2 := e2.tabs hT1
    refine cat_rd hT2 (e2.sqT hT1 h1 (by simp)) h2 (by omega) fun pO H3 e3 hO => ?_
    have e13 := (e1.trans e2).trans e3
    have hT3 := e13.tabs hT
    -- more
    refine ⟨_, rfl, _, rfl, _, rfl, ?_⟩
    refine cut_rd hT3 (e13.sqT hT ha (by simp)) fun p4 H4 e4 h4 => ?_
    rw [hkt] at h4
    have hT4 := e4.tabs hT3
    refine ⟨_, rfl, _, _, rfl, rfl, (by show (0:Int) < 7; decide), by show 1 ≤ sizeLine; decide, fun p5 n5 => ?_⟩
    have e5 : Ext tb [] H4 (upd H4 p5 (.tup [.int (number % 7)])) := Ext.new hT4 n5
    have hT5 := e5.tabs hT4
    refine cat_rd hT5 (e5.sqT hT4 h4 (by simp)) (SqT.of upd_same) (by show (xs.take k).length + 1 ≤ 100000; omega) fun p6 H6 e6 h6 => ?_
    have hT6 := e6.tabs hT5
    have e16 := ((e13.trans e4).trans e5).trans e6
    refine ⟨_, rfl, _, rfl, _, rfl, ?_⟩
    refine cut_rd hT6 (e16.sqT hT ha (by simp)) fun p7 H7 e7 h7 => ?_
    rw [hkf] at h7
    have hT7 := e7.tabs hT6
    refine cat_rd hT7 (e7.sqT hT6 h6 (by simp)) h7 (by rw [List.length_append]; show (xs.take k).length + 1 + _ ≤ 100000; omega) fun pM H8 e8 hM => ?_
    have e18 := (e16.trans e7).trans e8
    have hT8 := e18.tabs hT
    have e38 := (((e4.trans e5).trans e6).trans e7).trans e8
    have ha8 := e18.sqT hT ha (by simp)
    have hO8 := e38.sqT hT3 hO (by simp)
    have hx8 := DpAll_ext e18 hT _ hxs
    have hcO := DpAll_app (DpAll_take k hx8) (DpAll_drop (k + 1) hx8)
    have hcM := DpAll_app (DpAll_app (DpAll_take k hx8) (.cons (.int (number % 7)) .nil)) (DpAll_drop k hx8)
    have ibM : (((ns.map PyData.int).take k ++ [PyData.int (number % 7)]) ++ (ns.map PyData.int).drop k).all isIB = true := by
      rw [List.all_eq_true]
      intro d hd
      have ib := List.all_eq_true.mp (ib_ints ns)
      rcases List.mem_append.mp hd with hd | hd
      · rcases List.mem_append.mp hd with hd | hd
        · exact ib d (List.mem_of_mem_take hd)
        · rw [List.mem_singleton.mp hd]
          rfl
      · exact ib d (List.mem_of_mem_drop hd)
    have dC := Dp.tup ha8 hx8
    have dO := Dp.tup hO8 hcO
    have dM := Dp.tup hM hcM
    -- some = [..]
    refine nm_asg ?_
    refine lst_use (K := K) (n := 5) hT8 (by decide) Ext.refl ?ga1 fun L1 vs1 H10 nL1 e810 hL10 hv10 hl9 => ?_
    case ga1 =>
      refine ga_consA hT8 (Gv.any (gv_tup hT8 (by decide) (ga_consD hT8 ?_ (ga_consD hT8 (gv_d hT8 rfl dC) ga_nilD)))) (ga_consA hT8 (Gv.any (gv_tup hT8 (by decide) (ga_consD hT8 ?_ (ga_consD hT8 (gv_d hT8 rfl dC) ga_nilD)))) (ga_consA hT8 (Gv.any (gv_tup hT8 (by decide) (ga_consD hT8 ?_ (ga_consD hT8 (gv_d hT8 rfl dC) ga_nilD)))) (ga_consA hT8 (Gv.any (gv_tup hT8 (by decide) (ga_consD hT8 (gv_d hT8 rfl (Dp.int due)) (ga_consD hT8 (gv_d hT8 rfl dO) ga_nilD)))) (ga_consA hT8 (Gv.any (gv_tup hT8 (by decide) (ga_consD hT8 (gv_d hT8 rfl (Dp.int due)) (ga_consD hT8 (gv_d hT8 rfl dM) ga_nilD)))) ga_nilA))))
      all_goals exact Gv.int (P := fun _ => True) (gv_op (P1 := fun _ => True) (P2 := fun _ => True) (gv_i rfl trivial) (gv_k trivial) (fun _ _ _ _ => trivial))
    have hT10 := e810.tabs hT8
    -- some + [..]
    refine asg_use ?_
    refine catl_rd (K := K) hT10 hL10 hv10 rfl (by omega) (n := 6) (by decide) e810
      (ga_consA hT8 (Gv.any (gv_tup hT8 (by decide) (ga_consD hT8 (gv_d hT8 rfl (Dp.int due)) (ga_consD hT8 (gv_list hT8 rfl ha8 hx8) ga_nilD))))
      (ga_consA hT8 (Gv.any (gv_lst hT8 (by decide) (ga_consD hT8 (gv_d hT8 rfl (Dp.int due)) (ga_consD hT8 (gv_d hT8 rfl dC) ga_nilD))))
      (ga_consA hT8 (Gv.any (gv_tup hT8 (by decide) (ga_consD hT8 (gv_d hT8 rfl (Dp.int due)) (ga_consD hT8 (gv_d hT8 rfl dC) (ga_consD hT8 gv_ci ga_nilD)))))
      (ga_consA hT8 (Gv.any (gv_tup hT8 (by decide) (ga_consD hT8 (gv_d hT8 rfl (Dp.int due)) ga_nilD)))
      (ga_consA hT8 (Gv.any (gv_tup hT8 (by decide) ga_nilD))
      (ga_consA hT8 (Gv.any (gv_tup hT8 (by decide) (ga_consD hT8 (gv_d hT8 rfl dC) (ga_consD hT8 (gv_d hT8 rfl (Dp.int due)) ga_nilD)))) ga_nilA)))))) fun L2 vs2 H11 nL2 e11 hL11 hv11 hl11 => ?_
    have e811 := e810.trans e11
    have hT11 := e811.tabs hT8
    refine asg_use ?_
    refine catl_rd (K := K) hT11 hL11 hv11 rfl (by omega) (n := 3) (by decide) e811
      (ga_consA hT8 (Gv.any (gv_tup hT8 (by decide) (ga_consD hT8 (gv_d hT8 rfl (Dp.int due)) (ga_consD hT8 (gv_rev hT8 rfl ha8 hx8 (rev_len (by omega))) ga_nilD))))
      (ga_consA hT8 (Gv.any (gv_tup hT8 (by decide) (ga_consD hT8 (gv_strI rfl (small_log hdue.1 hdue.2)) (ga_consD hT8 (gv_d hT8 rfl dC) ga_nilD))))
      (ga_consA hT8 (Gv.any (gv_tup hT8 (by decide) (ga_consD hT8 (gv_sum hT8 (gv_op (P1 := fun _ => True) (P2 := fun _ => True) (gv_i rfl trivial) (gv_k trivial) (fun _ _ _ _ => trivial)) (fun H1 _ Q q => ⟨_, rfl, q⟩) ha8 hx8 (ib_ints ns)) (ga_consD hT8 (gv_d hT8 rfl dC) ga_nilD)))) ga_nilA))) fun L3 vs3 H12 nL3 e12 hL12 hv12 hl12 => ?_
    have e812 := e811.trans e12
    have hT12 := e812.tabs hT8
    refine asg_use ?_
    refine catl_rd (K := K) hT12 hL12 hv12 rfl (by omega) (n := 3) (by decide) e812
      (ga_consA hT8 (Gv.any (gv_tup hT8 (by decide) (ga_consD hT8 (gv_sum hT8 (gv_i rfl trivial) (fun H1 _ Q q => ⟨_, rfl, q⟩) hM hcM ibM) (ga_consD hT8 (gv_d hT8 rfl dM) ga_nilD))))
      (ga_consA hT8 (Gv.any (gv_tup hT8 (by decide) (ga_consD hT8 (gv_d hT8 rfl (Dp.int due)) (ga_consD hT8 (gv_cat0 hT8 rfl ha8 hx8 (by omega)) ga_nilD))))
      (ga_consA hT8 (Gv.any (gv_tup hT8 (by decide) (ga_consD hT8 gv_cb (ga_consD hT8 (gv_d hT8 rfl dC) ga_nilD)))) ga_nilA))) fun L4 vs4 H13 nL4 e13' hL13 hv13 hl13 => ?_
    have e813 := e812.trans e13'
    have hT13 := e813.tabs hT8
    have ha13 := e813.sqT hT8 ha8 (by simp)
    -- low
    refine asg_use ?_
    refine ⟨_, rfl, _, rfl, _, rfl, ?_⟩
    refine cut_rd hT13 ha13 fun q1 G1 g1 k1 => ?_
    rw [hkt] at k1
    have t1 := g1.tabs hT13
    refine ⟨1, rfl, _, rfl, _, _, rfl, rfl, (by show (0:Int) < 3; decide), _, _, rfl, rfl, by show 1 ≤ sizeLine; decide, fun q2 m2 => ?_⟩
    have g2 : Ext tb [] G1 (upd G1 q2 (.tup [.int (-1 - number % 3)])) := Ext.new t1 m2
    have t2 := g2.tabs t1
    refine cat_rd t2 (g2.sqT t1 k1 (by simp)) (SqT.of upd_same) (by show (xs.take k).length + 1 ≤ 100000; omega) fun q3 G3 g3 k3 => ?_
    have t3 := g3.tabs t2
    have g13 := (g1.trans g2).trans g3
    refine ⟨_, rfl, _, rfl, _, rfl, ?_⟩
    refine cut_rd t3 (g13.sqT hT13 ha13 (by simp)) fun q4 G4 g4 k4 => ?_
    rw [hkf] at k4
    have t4 := g4.tabs t3
    refine cat_rd t4 (g4.sqT t3 k3 (by simp)) k4 (by rw [List.length_append]; show (xs.take k).length + 1 + _ ≤ 100000; omega) fun pL G5 g5 hLw => ?_
    have g15 := (g13.trans g4).trans g5
    have t5 := g15.tabs hT13
    have ha5 := g15.sqT hT13 ha13 (by simp)
    -- truth
    refine asg_use ?_
    refine ⟨_, rfl, _, rfl, _, rfl, ?_⟩
    refine cut_rd t5 ha5 fun q6 G6 g6 k6 => ?_
    rw [hkt] at k6
    have t6 := g6.tabs t5
    refine ⟨_, rfl, _, _, rfl, rfl, ⟨by decide, by decide⟩, _, _, rfl, rfl, (by show (0:Int) < 2; decide), rfl, by show 1 ≤ sizeLine; decide, fun q7 m7 => ?_⟩
    generalize hbv : (decide (V.int (number / 64 % 2) = V.int 0)) = bv
    have g7 : Ext tb [] G6 (upd G6 q7 (.tup [.bl bv])) := Ext.new t6 m7
    have t7 := g7.tabs t6
    refine cat_rd t7 (g7.sqT t6 k6 (by simp)) (SqT.of upd_same) (by show (xs.take k).length + 1 ≤ 100000; omega) fun q8 G8 g8 k8 => ?_
    have t8 := g8.tabs t7
    have g68 := (g6.trans g7).trans g8
    refine ⟨_, rfl, _, rfl, _, rfl, ?_⟩
    refine cut_rd t8 (g68.sqT t5 ha5 (by simp)) fun q9 G9 g9 k9 => ?_
    rw [hkf] at k9
    have t9 := g9.tabs t8
    refine cat_rd t9 (g9.sqT t8 k8 (by simp)) k9 (by rw [List.length_append]; show (xs.take k).length + 1 + _ ≤ 100000; omega) fun pT G10 g10 hTr => ?_
    have g510 := (g68.trans g9).trans g10
    have gall := g15.trans g510
    have t10 := gall.tabs hT13
    have haZ := gall.sqT hT13 ha13 (by simp)
    have hLZ := g510.sqT t5 hLw (by simp)
    have hxZ := DpAll_ext (e813.trans gall) hT8 _ hx8
    have hcL := DpAll_app (DpAll_app (DpAll_take k hxZ) (.cons (.int (-1 - number % 3)) .nil)) (DpAll_drop k hxZ)
    have hcT := DpAll_app (DpAll_app (DpAll_take k hxZ) (.cons (.bl bv) .nil)) (DpAll_drop k hxZ)
    have ibx : ∀ d0 : PyData, isIB d0 = true → (((ns.map PyData.int).take k ++ [d0]) ++ (ns.map PyData.int).drop k).all isIB = true := fun d0 h0 => by
      rw [List.all_eq_true]
      intro d hd
      have ib := List.all_eq_true.mp (ib_ints ns)
      rcases List.mem_append.mp hd with hd | hd
      · rcases List.mem_append.mp hd with hd | hd
        · exact ib d (List.mem_of_mem_take hd)
        · rw [List.mem_singleton.mp hd]
          exact h0
      · exact ib d (List.mem_of_mem_drop hd)
    have dCZ := Dp.tup haZ hxZ
    have dL := Dp.tup hLZ hcL
    have dT := Dp.tup hTr hcT
    have hL14 := gall.lst hT13 hL13 (by simp)
    have hv14 : ∀ v ∈ vs4, ∃ d, AnyD K G10 v d := fun v hv => by
      obtain ⟨d, hd⟩ := hv13 v hv
      exact ⟨d, AnyD_ext gall hT13 hd⟩
    refine asg_use ?_
    refine catl_rd (K := K) t10 hL14 hv14 rfl (by omega) (n := 3) (by decide) Ext.refl
      (ga_consA t10 (Gv.any (gv_tup t10 (by decide) (ga_consD t10 (gv_sum t10 (gv_i rfl trivial) (fun H1 _ Q q => ⟨_, rfl, q⟩) hLZ hcL (ibx (.int (-1 - number % 3)) rfl)) (ga_consD t10 (gv_d t10 rfl dL) ga_nilD))))
      (ga_consA t10 (Gv.any (gv_tup t10 (by decide) (ga_consD t10 (gv_sum t10 (gv_i rfl trivial) (fun H1 _ Q q => ⟨_, rfl, q⟩) hTr hcT (ibx (.bool bv) rfl)) (ga_consD t10 (gv_d t10 rfl dT) ga_nilD))))
      (ga_consA t10 (Gv.any (gv_tup t10 (by decide) (ga_consD t10 (gv_sum0 t10 (gv_i rfl trivial)) (ga_consD t10 gv_cn ga_nilD)))) ga_nilA))) fun L5 vs5 H15 nL5 e15 hL15 hv15 hl15 => ?_
    have hT15 := e15.tabs t10
    refine asg_use ?_
    refine catl_rd (K := K) hT15 hL15 hv15 rfl (by omega) (n := 10) (by decide) e15
      (ga_consA t10 (Gv.any gv_cn) (ga_consA t10 (Gv.any gv_ci) (ga_consA t10 (Gv.any (gv_d t10 rfl (Dp.int due))) (ga_consA t10 (Gv.any gv_cb) (ga_consA t10 (Gv.any gv_cs) (ga_consA t10 (Gv.any gv_cs) (ga_consA t10 (Gv.any (gv_d t10 rfl dCZ))
      (ga_consA t10 (Gv.any (gv_list t10 rfl haZ hxZ)) (ga_consA t10 (gv_dict0 t10) (ga_consA t10 (gv_dict1 t10 rfl rfl) ga_nilA)))))))))) fun L6 vs6 H16 nL6 e16' hL16 hv16 hl16 => ?_
    have e1516 := e15.trans e16'
    have hT16 := e1516.tabs t10
    refine ret_use ?_
    show tOp rCat (tVar 7) (tLst _) _ H16 Q
    refine catl_rd (K := K) (i := 7) (L := L6) hT16 hL16 hv16 rfl (by omega) (n := 2) (by decide) e1516
      (ga_consA t10 (Gv.any (gv_tup t10 (by decide) (ga_consD t10 (gv_tup t10 (by decide) (ga_consD t10 (gv_d t10 rfl (Dp.int due)) (ga_consD t10 (gv_d t10 rfl dCZ) ga_nilD))) ga_nilD)))
      (ga_consA t10 (Gv.any (gv_tup t10 (by decide) (ga_consD t10 (gv_d t10 rfl (Dp.int due)) (ga_consD t10 gv_cn ga_nilD)))) ga_nilA)) fun L7 vs7 H17 nL7 e17 hL17 hv17 hl17 => ?_
    have eE := ((e18.trans e813).trans gall).trans (e1516.trans e17)
    exact q L7 vs7 H17 eE (((e18.trans e813).trans gall).trans e1516 |>.free hT nL7 (by simp)) hL17 hv17 (by omega)

end
end K17

set_option Elab.async false
set_option linter.all false
set_option maxRecDepth 100000
set_option maxHeartbeats 2000000
namespace K17
open PySem PySem.Spec PyProof.Rows L2 HK DT
theorem mod_rg (x n : Int) (h : 0 < n) : 0 ≤ x % n ∧ x % n < n := ⟨Int.emod_nonneg _ (by omega), Int.emod_lt_of_pos _ h⟩
theorem at_two {u v : Int} {i : Int} (h : 0 ≤ i ∧ i < 2) : ∃ m : Int, atI [V.int u, V.int v] i = some (.int m) ∧ (m = u ∨ m = v) := by
  have : i = 0 ∨ i = 1 := by omega
  rcases this with rfl | rfl
  · exact ⟨u, rfl, .inl rfl⟩
  · exact ⟨v, rfl, .inr rfl⟩
theorem at_four {a b c e : Int} {i : Int} (h : 0 ≤ i ∧ i < 4) : ∃ m : Int, atI [V.int a, V.int b, V.int c, V.int e] i = some (.int m) ∧ (m = a ∨ m = b ∨ m = c ∨ m = e) := by
  have : i = 0 ∨ i = 1 ∨ i = 2 ∨ i = 3 := by omega
  rcases this with rfl | rfl | rfl | rfl
  · exact ⟨a, rfl, .inl rfl⟩
  · exact ⟨b, rfl, .inr (.inl rfl)⟩
  · exact ⟨c, rfl, .inr (.inr (.inl rfl))⟩
  · exact ⟨e, rfl, .inr (.inr (.inr rfl))⟩
section
variable {P : Program} {w : World} {K : PySem.W.Frag} {mg : Str → Option Value} {base : Heap} {f : Addr} {cd : Value} {tb : List Addr}
def spContent (tb : List Addr) : Sp := fun vs H Q _ => ∃ (d : Addr) (ds : List Int), vs = [.ref d] ∧ H d = some (.lst (ds.map V.int)) ∧ Dr ds ∧ Tabs tb H ∧
  ∀ (ns r : List Int) p H', (∀ n ∈ ns, 0 ≤ n) → ns.length ≤ 40 → Dr r → Ext tb [d] H H' → H' d = some (.lst (r.map V.int)) → H' p = some (.tup (ns.map V.int)) → Q (.ref p) H'
theorem ok_l_content (T : Txt K mg) (F : FnAt K mg "_law_content" s_l_content ["_law_drawn"] f cd) (C_l_next : CalE P w K mg base CX0 1 "_law_next" (spNext tb)) : CalE P w K mg base CX0 2 "_law_content" (spContent tb) := by
  refine F.cal sc_l_content (fun vs H Q E h => ?_) (fun A outer s H vs Q E hr h => ?_)
  · obtain ⟨d, ds, rfl, _⟩ := h
    rfl
  · obtain ⟨d, ds, rfl, hd, hD, hT, q⟩ := h
    refine ⟨_, (pss_cons (ps_set (i := 1) sc_l_content.nd rfl (.inl rfl) (pe_cal C_l_next (hr.mono (by first | decide | omega)) (by rfl) (pa_cons (pv 0) pa_nil)))
      (pss_cons (ps_set (i := 2) sc_l_content.nd rfl (.inl rfl) (pe_lst pa_nil))
      (pss_cons (ps_for PassesOwn.never rfl (pi_range1 (by rfl) T.b_range (pa_cons (pe_ix (q_ixL (K := K) rfl) (pe_lst (pa_cons (pe_op op_mod (pe_op op_fdiv (pv 1) pe_int) pe_int) (pa_cons (pe_op op_mod (pe_op op_fdiv (pv 1) pe_int) pe_int) pa_nil))) (pe_op op_mod (pv 1) pe_int) (fun _ _ => rfl)) pa_nil)) (pg_name (i := 3) sc_l_content.nd rfl (.inl rfl)) (pss_cons (ps_set (i := 4) sc_l_content.nd rfl (.inl rfl) (pe_cal C_l_next (hr.mono (by first | decide | omega)) (by rfl) (pa_cons (pv 0) pa_nil)))
      (pss_one (ps_expr (q_bm (K := K) rfl PySem.F.plainAttrs_list PySem.F.slot_list_append PySem.F.type_list_append mt_append (pv 2) (pa_cons (pe_ix (q_ixL (K := K) rfl) (pe_lst (pa_cons (pe_op op_mod (pv 4) pe_int) (pa_cons (pe_op op_mod (pv 4) pe_int) (pa_cons (pv 4) (pa_cons (pe_op op_add (pe_op op_mul (pv 4) (pe_op op_add (pe_op op_pow pe_int pe_int) pe_int)) (pv 4)) pa_nil))))) (pe_op op_mod (pe_op op_fdiv (pv 4) pe_int) pe_int) (fun _ _ => rfl)) pa_nil))))))
      (pss_one (ps_ret (pe_callTy (q_tup (K := K) rfl) (by rfl) T.b_tuple (by decide +kernel) (pa_cons (pv 2) pa_nil))))))), ?_⟩
    refine ⟨_, rfl, d, ds, rfl, hd, hD, hT, fun x r H1 hx hD1 ex1 hd1 => ?_⟩
    have hT1 := ex1.tabs hT
    refine ⟨Nat.zero_le _, fun c nc => ?_⟩
    have ncd : c ≠ d := fun z => by rw [z, hd1] at nc; cases nc
    have nc0 : H c = none := ex1.free hT nc (by simp [ncd])
    have ex2 : Ext tb [d] H (upd H1 c (.lst [])) := Ext.own hT ex1 nc0
    have hd2 : (upd H1 c (.lst [])) d = some (.lst (r.map V.int)) := by rw [upd_ne (Ne.symm ncd)]; exact hd1
    obtain ⟨m, hm, hmm⟩ := at_two (u := x / 8 % 5) (v := x / 8 % 41) (mod_rg x 2 (by decide))
    have hm40 : 0 ≤ m ∧ m ≤ 40 := by
      have h5 := mod_rg (x / 8) 5 (by decide)
      have h41 := mod_rg (x / 8) 41 (by decide)
      rcases hmm with rfl | rfl <;> omega
    refine ⟨_, rfl, _, _, rfl, rfl, ⟨by decide, by decide⟩, _, _, rfl, rfl, (by show (0:Int) < 5; decide), _, rfl, _, _, rfl, rfl, ⟨by decide, by decide⟩, _, _, rfl, rfl, (by show (0:Int) < 41; decide), by show 2 ≤ sizeLine; decide, fun t nt => ?_⟩
    have ex3 : Ext tb [d] H (upd (upd H1 c (.lst [])) t (.lst [.int (x / 8 % 5), .int (x / 8 % 41)])) := ex2.trans (Ext.new (ex2.tabs hT) nt)
    have ntd : t ≠ d := fun z => by rw [z, hd2] at nt; cases nt
    have ntc : t ≠ c := fun z => by rw [z, upd_same] at nt; cases nt
    refine ⟨_, rfl, _, _, rfl, rfl, (by show (0:Int) < 2; decide), t, _, _, .int m, rfl, rfl, SqL.of upd_same, hm, _, rfl, by omega, by omega, ?_⟩
    refine for_range (lo := 0) (n := m.toNat) (fun i σ H2 => ∃ (ns r : List Int) (y3 y4 : Option V), σ = [some (.ref d), some (.int x), some (.ref c), y3, y4] ∧ ns.length = i ∧ (∀ n ∈ ns, 0 ≤ n) ∧ Dr r ∧ Ext tb [d] H H2 ∧ H2 d = some (.lst (r.map V.int)) ∧ H2 c = some (.lst (ns.map V.int))) ?_ ?_ ?_
    · exact ⟨[], r, none, none, rfl, rfl, (fun n hn => by cases hn), hD1, ex3, by rw [upd_ne (Ne.symm ntd)]; exact hd2, by rw [upd_ne (Ne.symm ntc)]; exact upd_same⟩
    · rintro i σ H2 hi ⟨ns, r2, y3, y4, rfl, hl, hnn, hD2, ex, hd2', hc2⟩
      have hTx := ex.tabs hT
      refine ⟨_, rfl, d, r2, rfl, hd2', hD2, hTx, fun o r3 H3 ho hD3 ex3' hd3 => ?_⟩
      have hc3 := ex3'.lst hTx hc2 (by simp [ncd])
      have exx := ex.trans ex3'
      obtain ⟨m4, hm4, hmm4⟩ := at_four (a := o % 3) (b := o % 300) (c := o) (e := o * (10 ^ (20:Int).toNat + 7) + o) (mod_rg (o / 7) 4 (by decide))
      have h0 : 0 ≤ m4 := by
        have h3 := mod_rg o 3 (by decide)
        have h300 := mod_rg o 300 (by decide)
        have ho0 := ho.1
        have hbig : 0 ≤ o * (10 ^ (20:Int).toNat + 7) := Int.mul_nonneg ho0 (by decide)
        rcases hmm4 with rfl | rfl | rfl | rfl <;> omega
      refine ⟨_, rfl, .inl ⟨rfl, _, SqL.of hc3⟩, _, rfl, _, _, rfl, rfl, (by show (0:Int) < 3; decide), _, rfl, _, _, rfl, rfl, (by show (0:Int) < 300; decide), _, rfl, _, rfl, _, _, rfl, rfl, ⟨by decide, by decide, by decide⟩, _, _, rfl, rfl, _, _, rfl, rfl, .inl ⟨by have := ho.1; omega, by have := ho.2; omega⟩, _, rfl, _, _, rfl, rfl, by show 4 ≤ sizeLine; decide, fun t2 nt2 => ?_⟩
      have ex4 := exx.trans (Ext.new (ch := [d]) (o := .lst [.int (o % 3), .int (o % 300), .int o, .int (o * (10 ^ (20:Int).toNat + 7) + o)]) (exx.tabs hT) nt2)
      have nt2d : t2 ≠ d := fun z => by rw [z, hd3] at nt2; cases nt2
      have nt2c : t2 ≠ c := fun z => by rw [z, hc3] at nt2; cases nt2
      refine ⟨_, rfl, _, _, rfl, rfl, ⟨by decide, by decide⟩, _, _, rfl, rfl, (by show (0:Int) < 4; decide), t2, _, _, .int m4, rfl, rfl, SqL.of upd_same, hm4, c, _, _, rfl, rfl, by rw [upd_ne (Ne.symm nt2c)]; exact hc3, line_lt (by rw [List.length_map]; omega), ?_⟩
      refine ⟨ns ++ [m4], r3, _, _, rfl, by rw [List.length_append, hl] <;> rfl, fun n hn => ?_, hD3, Ext.own hT ex4 nc0, by rw [upd_ne (Ne.symm ncd), upd_ne (Ne.symm nt2d)]; exact hd3, by rw [upd_same, map_snoc]⟩
      rcases List.mem_append.mp hn with h | h
      · exact hnn n h
      · rw [List.mem_singleton.mp h]
        exact h0
    · rintro σ H2 ⟨ns, r2, y3, y4, rfl, hl, hnn, hD2, ex, hd2', hc2⟩
      refine ⟨_, rfl, c, _, rfl, .inl ⟨SqL.of hc2, fun l nl => ?_⟩⟩
      have nld : l ≠ d := fun z => by rw [z, hd2'] at nl; cases nl
      exact q ns r2 l _ hnn (by omega) hD2 (ex.trans (Ext.new (ex.tabs hT) nl)) (by rw [upd_ne (Ne.symm nld)]; exact hd2') upd_same
theorem right_cell {spot : Int} {ns : List Int} (h : ∀ n ∈ ns, 0 ≤ n) : rightD spot (.tuple [.int (sumN spot ns), .tuple (ns.map PyData.int)]) = true := by
  show ((ns.map PyData.int).all isNN && decide (sumN spot ns = sumN spot ((ns.map PyData.int).map numV))) = true
  rw [num_ints, decide_eq_true rfl, Bool.and_true, List.all_eq_true]
  intro d hd
  obtain ⟨n, hn, rfl⟩ := List.mem_map.mp hd
  exact decide_eq_true (h n hn)
theorem nb_ints : ∀ ns : List Int, nbAll (ns.map PyData.int) = true
  | [] => rfl
  | n :: r => by
    show (true && nbAll (r.map PyData.int)) = true
    rw [nb_ints r] <;> rfl
def spLaw (K : PySem.W.Frag) (tb : List Addr) : Sp := fun vs H Q _ => ∃ (a : Addr) (ns : List Int), vs = [.ref a] ∧ SqL K H a (ns.map V.int) ∧ ns.length ≤ 63 ∧ Tabs tb H ∧ ∀ H', Q (.bl true) H'
theorem ok_law (T : Txt K mg) (C_l_draws : CalE P w K mg base CX0 2 "_law_draws" (spDraws K tb)) (C_l_next : CalE P w K mg base CX0 1 "_law_next" (spNext tb)) (C_l_content : CalE P w K mg base CX0 2 "_law_content" (spContent tb)) (C_l_sum : CalE P w K mg base CX0 1 "_law_sum" (spLSum K)) (C_sum_of : CalE P w K mg base CX0 1 "sum_of" (spSum K)) (C_cell_of : CalE P w K mg base CX0 2 "cell_of" (spCell K tb))
    (C_l_same : CalE P w K mg base CX0 8 "_law_same" (spSame K tb 3)) (C_is_right : CalE P w K mg base CX0 4 "is_right" (spRight K tb)) (C_l_bent : CalE P w K mg base CX0 2 "_law_bent" (spBent K tb)) (C_l_truth : CalE P w K mg base CX0 1 "_law_truth" spTruth) (C_l_right : CalE P w K mg base CX0 2 "_law_right" (spLRight K)) : FnG P w K mg base CX0 9 "law" s_law ["_law_script"] f cd (spLaw K tb) := by
  refine law_of sc_law (fun vs H Q E h => ?_) (fun A outer s H vs Q E hr h => ?_)
  · obtain ⟨a, ns, rfl, _⟩ := h
    rfl
  · obtain ⟨a, ns0, rfl, hS, hl, hT, q⟩ := h
    refine ⟨_, (pss_cons (ps_set (i := 1) sc_law.nd rfl (.inl rfl) (pe_cal C_l_draws (hr.mono (by first | decide | omega)) (by rfl) (pa_cons (pv 0) pa_nil)))
      (pss_cons (ps_for PassesOwn.never rfl (pi_range1 (by rfl) T.b_range (pa_cons (pe_op op_add pe_int (pe_op op_mod (pe_cal C_l_next (hr.mono (by first | decide | omega)) (by rfl) (pa_cons (pv 1) pa_nil)) pe_int)) pa_nil)) (pg_name (i := 2) sc_law.nd rfl (.inl rfl)) (pss_cons (ps_set (i := 3) sc_law.nd rfl (.inl rfl) (pe_cal C_l_next (hr.mono (by first | decide | omega)) (by rfl) (pa_cons (pv 1) pa_nil)))
      (pss_cons (ps_set (i := 4) sc_law.nd rfl (.inl rfl) (pe_ix (q_ixL (K := K) rfl) (pe_lst (pa_cons (pe_op op_mod (pv 3) pe_int) (pa_cons (pe_op op_mod (pv 3) pe_int) pa_nil))) (pe_op op_mod (pe_op op_fdiv (pv 3) pe_int) pe_int) (fun _ _ => rfl)))
      (pss_cons (ps_set (i := 5) sc_law.nd rfl (.inl rfl) (pe_cal C_l_content (hr.mono (by first | decide | omega)) (by rfl) (pa_cons (pv 1) pa_nil)))
      (pss_cons (ps_set (i := 6) sc_law.nd rfl (.inl rfl) (pe_cal C_l_sum (hr.mono (by first | decide | omega)) (by rfl) (pa_cons (pv 4) (pa_cons (pv 5) pa_nil))))
      (pss_cons (ps_if (PW.pt (pw_or (pt_not (pt_val (pe_cal C_l_same (hr.mono (by first | decide | omega)) (by rfl) (pa_cons (pe_cal C_sum_of (hr.mono (by first | decide | omega)) (by rfl) (pa_cons (pv 4) (pa_cons (pv 5) pa_nil))) (pa_cons (pv 6) pa_nil))))) (pw_or1 (pt_not (pt_val (pe_cal C_l_same (hr.mono (by first | decide | omega)) (by rfl) (pa_cons (pe_cal C_cell_of (hr.mono (by first | decide | omega)) (by rfl) (pa_cons (pv 4) (pa_cons (pv 5) pa_nil))) (pa_cons (pe_tup (pa_cons (pv 6) (pa_cons (pv 5) pa_nil))) pa_nil)))))))) (pss_one (ps_ret pe_bl)) pss_nil)
      (pss_cons (ps_if (pt_cmpR op_notBl (pe_cal C_is_right (hr.mono (by first | decide | omega)) (by rfl) (pa_cons (pv 4) (pa_cons (pe_tup (pa_cons (pv 6) (pa_cons (pv 5) pa_nil))) pa_nil))) pe_bl (nomark _)) (pss_one (ps_ret pe_bl)) pss_nil)
      (pss_cons (ps_for PassesOwn.never rfl (q_piL (K := K) rfl (pe_cal C_l_bent (hr.mono (by first | decide | omega)) (by rfl) (pa_cons (pv 4) (pa_cons (pv 5) (pa_cons (pe_cal C_l_next (hr.mono (by first | decide | omega)) (by rfl) (pa_cons (pv 1) pa_nil)) pa_nil))))) (pg_name (i := 7) sc_law.nd rfl (.inl rfl)) (pss_one (ps_if (pt_not (pt_val (pe_cal C_l_truth (hr.mono (by first | decide | omega)) (by rfl) (pa_cons (pe_cal C_is_right (hr.mono (by first | decide | omega)) (by rfl) (pa_cons (pv 4) (pa_cons (pv 7) pa_nil))) (pa_cons (pe_cal C_l_right (hr.mono (by first | decide | omega)) (by rfl) (pa_cons (pv 4) (pa_cons (pv 7) pa_nil))) pa_nil))))) (pss_one (ps_ret pe_bl)) pss_nil)))
      (pss_cons (ps_set (i := 8) sc_law.nd rfl (.inl rfl) (pe_op op_mod (pe_op op_add (pv 4) pe_int) pe_int))
      (pss_one (ps_if (pt_not (pt_val (pe_cal C_l_truth (hr.mono (by first | decide | omega)) (by rfl) (pa_cons (pe_cal C_is_right (hr.mono (by first | decide | omega)) (by rfl) (pa_cons (pv 8) (pa_cons (pe_tup (pa_cons (pv 6) (pa_cons (pv 5) pa_nil))) pa_nil))) (pa_cons (pe_cal C_l_right (hr.mono (by first | decide | omega)) (by rfl) (pa_cons (pv 8) (pa_cons (pe_tup (pa_cons (pv 6) (pa_cons (pv 5) pa_nil))) pa_nil))) pa_nil))))) (pss_one (ps_ret pe_bl)) pss_nil)))))))))))
      (pss_one (ps_ret pe_bl)))), ?_⟩
    refine ⟨_, rfl, a, ns0, rfl, hS, hl, hT, fun H1 d ds ex1 nd hD hd1 => ?_⟩
    have hT1 := ex1.tabs hT
    refine ⟨_, rfl, d, ds, rfl, hd1, hD, hT1, fun x0 r0 H2 hx0 hD2 ex2 hd2 => ?_⟩
    have e12 : Ext tb [d] H H2 := ex1.of0.trans ex2
    have b4 := mod_rg x0 4 (by decide)
    refine ⟨_, _, rfl, rfl, (by show (0:Int) < 4; decide), _, _, rfl, rfl, _, rfl, by omega, by omega, for_range (lo := 0) (n := (1 + x0 % 4).toNat) (fun i σ H3 => ∃ (r : List Int) (y2 y3 y4 y5 y6 y7 y8 : Option V), σ = [some (.ref a), some (.ref d), y2, y3, y4, y5, y6, y7, y8] ∧ Dr r ∧ Ext tb [d] H H3 ∧ H3 d = some (.lst (r.map V.int)))
      ⟨r0, _, _, _, _, _, _, _, rfl, hD2, e12, hd2⟩ ?_ ?_⟩
    · rintro i σ H3 hi ⟨r3, y2, y3, y4, y5, y6, y7, y8, rfl, hD3, ex3, hd3⟩
      have hT3 := ex3.tabs hT
      -- number, spot, content, due
      refine ⟨_, rfl, d, r3, rfl, hd3, hD3, hT3, fun x r4 H4 hx hD4 ex4 hd4 => ?_⟩
      have ex04 := ex3.trans ex4
      have hT4 := ex04.tabs hT
      obtain ⟨spot, hsp, hss⟩ := at_two (u := x % 4) (v := x % 404) (mod_rg (x / 404) 2 (by decide))
      have hs : 0 ≤ spot ∧ spot ≤ 403 := by
        have h4 := mod_rg x 4 (by decide)
        have h404 := mod_rg x 404 (by decide)
        rcases hss with rfl | rfl <;> omega
      refine ⟨_, rfl, _, _, rfl, rfl, (by show (0:Int) < 4; decide), _, rfl, _, _, rfl, rfl, (by show (0:Int) < 404; decide), by show 2 ≤ sizeLine; decide, fun t nt => ?_⟩
      have ex05 := ex04.trans (Ext.new (ch := [d]) (o := .lst [.int (x % 4), .int (x % 404)]) hT4 nt)
      have ntd : t ≠ d := fun z => by rw [z, hd4] at nt; cases nt
      refine ⟨_, rfl, _, _, rfl, rfl, ⟨by decide, by decide⟩, _, _, rfl, rfl, (by show (0:Int) < 2; decide), t, _, _, .int spot, rfl, rfl, SqL.of upd_same, hsp, ?_⟩
      refine ⟨_, rfl, d, r4, rfl, by rw [upd_ne (Ne.symm ntd)]; exact hd4, hD4, ex05.tabs hT, fun ns r6 p H6 hnn hnl hD6 ex6 hd6 hp6 => ?_⟩
      have ex06 := ex05.trans ex6
      have hT6 := ex06.tabs hT
      refine ⟨_, rfl, _, rfl, spot, p, _, _, rfl, SqT.of hp6, dp_ints ns, ib_ints ns, ?_⟩
      rw [num_ints]
      generalize hdue : sumN spot ns = due
      -- same(sum_of, due)
      refine ⟨_, rfl, _, rfl, spot, p, ns, rfl, SqT.of hp6, _, rfl, _, _, .int (sumN spot ns), rfl, .int _, hdue ▸ .int _, rfl, Nat.zero_le _, hT6, fun H7 e7 => ⟨true, rfl, iteF ?_⟩⟩
      have hT7 := e7.tabs hT6
      have hp7 := e7.tup hT6 hp6 (by simp)
      -- same(cell_of, (due, content))
      refine ⟨_, rfl, _, rfl, spot, p, ns, rfl, SqT.of hp7, hT7, fun pc H8 npc e8 hpc => ?_⟩
      have hT8 := e8.tabs hT7
      refine ⟨_, rfl, _, rfl, by show 2 ≤ sizeLine; decide, fun t9 nt9 => ?_⟩
      have e9 : Ext tb [] H8 (upd H8 t9 (.tup [.int due, .ref p])) := Ext.new hT8 nt9
      have hT9 := e9.tabs hT8
      have hp9 := (e8.trans e9).tup hT7 hp7 (by simp)
      have dC : Dp K (upd H8 t9 (.tup [.int due, .ref p])) (.ref p) (.tuple (ns.map PyData.int)) := .tup (SqT.of hp9) (dp_ints ns)
      have dd : PyData.depthAll [.int due, .tuple (ns.map PyData.int)] + 1 ≤ 3 := by
        show max 0 (max (PyData.depthAll (ns.map PyData.int) + 1) 0) + 1 ≤ 3
        rw [depAll_ints]
        decide
      have nbd : nb (.tuple [.int due, .tuple (ns.map PyData.int)]) = true := by
        show (true && (nbAll (ns.map PyData.int) && true)) = true
        rw [nb_ints] <;> rfl
      refine ⟨_, _, .tuple [.int due, .tuple (ns.map PyData.int)], rfl, .tup (e9.sqT hT8 (SqT.of hpc) (by simp)) (.cons (hdue ▸ .int _) (.cons dC .nil)), .tup (SqT.of upd_same) (.cons (.int _) (.cons dC .nil)), nbd, dd, hT9, fun H10 e10 => ⟨true, rfl, iteF ?_⟩⟩
      have hT10 := e10.tabs hT9
      have hp10 := e10.tup hT9 hp9 (by simp)
      -- is_right(spot, (due, content)) is not True
      refine ⟨_, rfl, _, rfl, _, rfl, by show 2 ≤ sizeLine; decide, fun t11 nt11 => ?_⟩
      have e11 : Ext tb [] H10 (upd H10 t11 (.tup [.int due, .ref p])) := Ext.new hT10 nt11
      have hT11 := e11.tabs hT10
      have hp11 := e11.tup hT10 hp10 (by simp)
      refine ⟨spot, _, .tuple [.int due, .tuple (ns.map PyData.int)], rfl, .inl (.tup (SqT.of upd_same) (.cons (.int _) (.cons (.tup (SqT.of hp11) (dp_ints ns)) .nil))), hT11, fun H12 e12' => ⟨_, _, rfl, rfl, _, rfl, ?_⟩⟩
      rw [← hdue, right_cell hnn]
      refine iteF ?_
      have hT12 := e12'.tabs hT11
      have hp12 := e12'.tup hT11 hp11 (by simp)
      have e612 := ((((e7.trans e8).trans e9).trans e10).trans e11).trans e12'
      have hd12 := e612.lst hT6 hd6 (by simp)
      -- for cell in bent(..)
      refine ⟨_, rfl, _, rfl, _, rfl, d, r6, rfl, hd12, hD6, hT12, fun x13 r13 H13 hx13 hD13 ex13 hd13 => ?_⟩
      have ex013 := (ex06.trans e612.of0).trans ex13
      have hT13 := ex013.tabs hT
      have npd : p ≠ d := ne_of hp12 hd12 (by intro z; cases z)
      have hp13 := ex13.tup hT12 hp12 (by simp [npd])
      refine ⟨spot, p, x13, ns, rfl, hs.1, by omega, SqT.of hp13, by omega, hx13, hT13, fun pb us H14 e14 npb hpb hus hul => ?_⟩
      have hT14 := e14.tabs hT13
      have ex014 := ex013.trans e14.of0
      have hd14 := e14.lst hT13 hd13 (by simp)
      have hp14 := e14.tup hT13 hp13 (by simp)
      refine ⟨pb, rfl, ⟨_, SqL.of hpb⟩, for_list (K := K) (a := pb) (xs := us) (fun j σ H15 => Ext tb [] H14 H15 ∧ ∃ y7 y8, σ = [some (.ref a), some (.ref d), some (.int (0 + (i : Int))), some (.int x), some (.int spot), some (.ref p), some (.int (sumN spot ns)), y7, y8]) ⟨Ext.refl, _, _, by rw [hdue] <;> rfl⟩ (fun j σ H15 _ h => h.1.sqL hT14 (SqL.of hpb) (by simp)) ?_ ?_⟩
      · rintro j u σ H15 hu ⟨e15, y7, y8, rfl⟩
        obtain ⟨dd, hdd⟩ := hus u (List.mem_of_getElem? hu)
        have hT15 := e15.tabs hT14
        have hd15 := AnyD_ext e15 hT14 hdd
        refine ⟨_, rfl, _, rfl, spot, u, dd, rfl, hd15, hT15, fun H16 e16 => ?_⟩
        refine ⟨_, rfl, _, rfl, spot, u, dd, rfl, AnyD_ext e16 hT15 hd15, _, _, rfl, _, rfl, ?_⟩
        rw [decide_eq_true rfl]
        refine iteF ?_
        exact ⟨e15.trans e16, _, _, rfl⟩
      · rintro σ H15 ⟨e15, y7, y8, rfl⟩
        have hT15 := e15.tabs hT14
        have hp15 := e15.tup hT14 hp14 (by simp)
        have hd15 := e15.lst hT14 hd14 (by simp)
        -- other
        refine ⟨_, rfl, _, _, rfl, rfl, _, _, rfl, rfl, (by show (0:Int) < 404; decide), ?_⟩
        generalize hoth : (spot + 1) % 404 = other
        refine ⟨_, rfl, _, rfl, _, rfl, by show 2 ≤ sizeLine; decide, fun t16 nt16 => ?_⟩
        have e16 : Ext tb [] H15 (upd H15 t16 (.tup [.int (sumN spot ns), .ref p])) := Ext.new hT15 nt16
        have hT16 := e16.tabs hT15
        have hp16 := e16.tup hT15 hp15 (by simp)
        have dA : AnyD K (upd H15 t16 (.tup [.int (sumN spot ns), .ref p])) (.ref t16) (.tuple [.int (sumN spot ns), .tuple (ns.map PyData.int)]) := .inl (.tup (SqT.of upd_same) (.cons (.int _) (.cons (.tup (SqT.of hp16) (dp_ints ns)) .nil)))
        refine ⟨other, _, _, by rw [← hoth] <;> rfl, dA, hT16, fun H17 e17 => ?_⟩
        have hT17 := e17.tabs hT16
        have hp17 := e17.tup hT16 hp16 (by simp)
        refine ⟨_, rfl, _, rfl, _, rfl, by show 2 ≤ sizeLine; decide, fun t18 nt18 => ?_⟩
        have e18 : Ext tb [] H17 (upd H17 t18 (.tup [.int (sumN spot ns), .ref p])) := Ext.new hT17 nt18
        have hp18 := e18.tup hT17 hp17 (by simp)
        refine ⟨other, _, .tuple [.int (sumN spot ns), .tuple (ns.map PyData.int)], by rw [← hoth] <;> rfl, .inl (.tup (SqT.of upd_same) (.cons (.int _) (.cons (.tup (SqT.of hp18) (dp_ints ns)) .nil))), _, _, rfl, _, rfl, ?_⟩
        rw [decide_eq_true rfl]
        refine iteF ?_
        have eF := (e16.trans e17).trans e18
        exact ⟨r13, _, _, _, _, _, _, _, rfl, hD13, ex014.trans (e15.trans eF).of0, eF.lst hT15 hd15 (by simp)⟩
    · rintro σ H3 ⟨r3, y2, y3, y4, y5, y6, y7, y8, rfl, hD3, ex3, hd3⟩
      exact q H3
end
end K17

set_option Elab.async false
set_option linter.all false
set_option maxRecDepth 100000
set_option maxHeartbeats 4000000
namespace K17
open PySem PySem.Spec PyProof.Rows L2 HK DT
/-! ### the end -/
theorem all_mk {l : PySem.W.OpenLaw} {w : World} {K : PySem.W.Frag} {h : Heap} {mg : Str → Option Value} {fa : Addr} {q : Program} (X : K.In h) (G : h.Ns mainGlobals mg) (hfa : mg "law" = some (.ref fa)) (tabs : TabAt K mg h q)
    {f_is_number : Addr} {oc_is_number : Value} {od_is_number an_is_number : Option Addr} {kV_is_number dc_is_number pm_is_number ct_is_number : Value} {sl_is_number : Array (Option Value)}
    {cd_is_number : Value}
    {f_is_content : Addr} {oc_is_content : Value} {od_is_content an_is_content : Option Addr} {kV_is_content dc_is_content pm_is_content ct_is_content : Value} {sl_is_content : Array (Option Value)}
    {cc_is_content pt_is_content : Addr} {ec_is_content : Value} {ed_is_content : Option Addr} {ev_is_content : Array Value} {es_is_content : Array (Option Value)}
    {f_sum_of : Addr} {oc_sum_of : Value} {od_sum_of an_sum_of : Option Addr} {kV_sum_of dc_sum_of pm_sum_of ct_sum_of : Value} {sl_sum_of : Array (Option Value)}
    {cd_sum_of : Value}
    {f_cell_of : Addr} {oc_cell_of : Value} {od_cell_of an_cell_of : Option Addr} {kV_cell_of dc_cell_of pm_cell_of ct_cell_of : Value} {sl_cell_of : Array (Option Value)}
    {cd_cell_of : Value}
    {f_is_right : Addr} {oc_is_right : Value} {od_is_right an_is_right : Option Addr} {kV_is_right dc_is_right pm_is_right ct_is_right : Value} {sl_is_right : Array (Option Value)}
    {cd_is_right : Value}
    {f_l_mixed : Addr} {oc_l_mixed : Value} {od_l_mixed an_l_mixed : Option Addr} {kV_l_mixed dc_l_mixed pm_l_mixed ct_l_mixed : Value} {sl_l_mixed : Array (Option Value)}
    {cd_l_mixed : Value}
    {f_l_draws : Addr} {oc_l_draws : Value} {od_l_draws an_l_draws : Option Addr} {kV_l_draws dc_l_draws pm_l_draws ct_l_draws : Value} {sl_l_draws : Array (Option Value)}
    {cd_l_draws : Value}
    {f_l_next : Addr} {oc_l_next : Value} {od_l_next an_l_next : Option Addr} {kV_l_next dc_l_next pm_l_next ct_l_next : Value} {sl_l_next : Array (Option Value)}
    {cd_l_next : Value}
    {f_l_same : Addr} {oc_l_same : Value} {od_l_same an_l_same : Option Addr} {kV_l_same dc_l_same pm_l_same ct_l_same : Value} {sl_l_same : Array (Option Value)}
    {cd_l_same : Value}
    {f_l_all_same : Addr} {oc_l_all_same : Value} {od_l_all_same an_l_all_same : Option Addr} {kV_l_all_same dc_l_all_same pm_l_all_same ct_l_all_same : Value} {sl_l_all_same : Array (Option Value)}
    {cd_l_all_same : Value}
    {f_l_sum : Addr} {oc_l_sum : Value} {od_l_sum an_l_sum : Option Addr} {kV_l_sum dc_l_sum pm_l_sum ct_l_sum : Value} {sl_l_sum : Array (Option Value)}
    {cd_l_sum : Value}
    {f_l_content : Addr} {oc_l_content : Value} {od_l_content an_l_content : Option Addr} {kV_l_content dc_l_content pm_l_content ct_l_content : Value} {sl_l_content : Array (Option Value)}
    {cd_l_content : Value}
    {f_l_is_number : Addr} {oc_l_is_number : Value} {od_l_is_number an_l_is_number : Option Addr} {kV_l_is_number dc_l_is_number pm_l_is_number ct_l_is_number : Value} {sl_l_is_number : Array (Option Value)}
    {cd_l_is_number : Value}
    {f_l_truth : Addr} {oc_l_truth : Value} {od_l_truth an_l_truth : Option Addr} {kV_l_truth dc_l_truth pm_l_truth ct_l_truth : Value} {sl_l_truth : Array (Option Value)}
    {cd_l_truth : Value}
    {f_l_right : Addr} {oc_l_right : Value} {od_l_right an_l_right : Option Addr} {kV_l_right dc_l_right pm_l_right ct_l_right : Value} {sl_l_right : Array (Option Value)}
    {cd_l_right : Value}
    {f_l_bent : Addr} {oc_l_bent : Value} {od_l_bent an_l_bent : Option Addr} {kV_l_bent dc_l_bent pm_l_bent ct_l_bent : Value} {sl_l_bent : Array (Option Value)}
    {cd_l_bent : Value}
    {f_law : Addr} {oc_law : Value} {od_law an_law : Option Addr} {kV_law dc_law pm_law ct_law : Value} {sl_law : Array (Option Value)}
    {cd_law : Value}
    {t_MODULUS : Tok}
    (a_is_number : PySem.W.nsIn K mainGlobals "is_number" = some (some (.ref f_is_number))) (l_is_number : K.lookup f_is_number = some ⟨oc_is_number, od_is_number, .func (PySem.W.fnOf "is_number" "is_number" (defArgs s_is_number) (defBody s_is_number) (defScope s_is_number) .none kV_is_number dc_is_number pm_is_number an_is_number cd_is_number ct_is_number), sl_is_number⟩) (c_is_number : PySem.W.codeIn K cd_is_number "is_number" = true) (k_is_number : PySem.W.keepIn K (.ref f_is_number) = true)
    (a_is_content : PySem.W.nsIn K mainGlobals "is_content" = some (some (.ref f_is_content))) (l_is_content : K.lookup f_is_content = some ⟨oc_is_content, od_is_content, .func (PySem.W.fnOf "is_content" "is_content" (defArgs s_is_content) (defBody s_is_content) (defScope s_is_content) .none kV_is_content dc_is_content pm_is_content an_is_content (.ref cc_is_content) ct_is_content), sl_is_content⟩) (c_is_content : PySem.W.codeIn K (.ref cc_is_content) "is_content" = true) (k_is_content : PySem.W.keepIn K (.ref f_is_content) = true)
    (e_is_content : K.lookup cc_is_content = some ⟨ec_is_content, ed_is_content, .fields ev_is_content, es_is_content⟩) (p_is_content : ev_is_content[11]? = some (.ref pt_is_content)) (o_is_content : K.lookup pt_is_content = none) (r_is_content : ((recsOf q).any fun e => e.name == ("is_content" : Str)) = true)
    (a_sum_of : PySem.W.nsIn K mainGlobals "sum_of" = some (some (.ref f_sum_of))) (l_sum_of : K.lookup f_sum_of = some ⟨oc_sum_of, od_sum_of, .func (PySem.W.fnOf "sum_of" "sum_of" (defArgs s_sum_of) (defBody s_sum_of) (defScope s_sum_of) .none kV_sum_of dc_sum_of pm_sum_of an_sum_of cd_sum_of ct_sum_of), sl_sum_of⟩) (c_sum_of : PySem.W.codeIn K cd_sum_of "sum_of" = true) (k_sum_of : PySem.W.keepIn K (.ref f_sum_of) = true)
    (a_cell_of : PySem.W.nsIn K mainGlobals "cell_of" = some (some (.ref f_cell_of))) (l_cell_of : K.lookup f_cell_of = some ⟨oc_cell_of, od_cell_of, .func (PySem.W.fnOf "cell_of" "cell_of" (defArgs s_cell_of) (defBody s_cell_of) (defScope s_cell_of) .none kV_cell_of dc_cell_of pm_cell_of an_cell_of cd_cell_of ct_cell_of), sl_cell_of⟩) (c_cell_of : PySem.W.codeIn K cd_cell_of "cell_of" = true) (k_cell_of : PySem.W.keepIn K (.ref f_cell_of) = true)
    (a_is_right : PySem.W.nsIn K mainGlobals "is_right" = some (some (.ref f_is_right))) (l_is_right : K.lookup f_is_right = some ⟨oc_is_right, od_is_right, .func (PySem.W.fnOf "is_right" "is_right" (defArgs s_is_right) (defBody s_is_right) (defScope s_is_right) .none kV_is_right dc_is_right pm_is_right an_is_right cd_is_right ct_is_right), sl_is_right⟩) (c_is_right : PySem.W.codeIn K cd_is_right "is_right" = true) (k_is_right : PySem.W.keepIn K (.ref f_is_right) = true)
    (a_l_mixed : PySem.W.nsIn K mainGlobals "_law_mixed" = some (some (.ref f_l_mixed))) (l_l_mixed : K.lookup f_l_mixed = some ⟨oc_l_mixed, od_l_mixed, .func (PySem.W.fnOf "_law_mixed" "_law_mixed" (defArgs s_l_mixed) (defBody s_l_mixed) (defScope s_l_mixed) .none kV_l_mixed dc_l_mixed pm_l_mixed an_l_mixed cd_l_mixed ct_l_mixed), sl_l_mixed⟩) (c_l_mixed : PySem.W.codeIn K cd_l_mixed "_law_mixed" = true) (k_l_mixed : PySem.W.keepIn K (.ref f_l_mixed) = true)
    (a_l_draws : PySem.W.nsIn K mainGlobals "_law_draws" = some (some (.ref f_l_draws))) (l_l_draws : K.lookup f_l_draws = some ⟨oc_l_draws, od_l_draws, .func (PySem.W.fnOf "_law_draws" "_law_draws" (defArgs s_l_draws) (defBody s_l_draws) (defScope s_l_draws) .none kV_l_draws dc_l_draws pm_l_draws an_l_draws cd_l_draws ct_l_draws), sl_l_draws⟩) (c_l_draws : PySem.W.codeIn K cd_l_draws "_law_draws" = true) (k_l_draws : PySem.W.keepIn K (.ref f_l_draws) = true)
    (a_l_next : PySem.W.nsIn K mainGlobals "_law_next" = some (some (.ref f_l_next))) (l_l_next : K.lookup f_l_next = some ⟨oc_l_next, od_l_next, .func (PySem.W.fnOf "_law_next" "_law_next" (defArgs s_l_next) (defBody s_l_next) (defScope s_l_next) .none kV_l_next dc_l_next pm_l_next an_l_next cd_l_next ct_l_next), sl_l_next⟩) (c_l_next : PySem.W.codeIn K cd_l_next "_law_next" = true) (k_l_next : PySem.W.keepIn K (.ref f_l_next) = true)
    (a_l_same : PySem.W.nsIn K mainGlobals "_law_same" = some (some (.ref f_l_same))) (l_l_same : K.lookup f_l_same = some ⟨oc_l_same, od_l_same, .func (PySem.W.fnOf "_law_same" "_law_same" (defArgs s_l_same) (defBody s_l_same) (defScope s_l_same) .none kV_l_same dc_l_same pm_l_same an_l_same cd_l_same ct_l_same), sl_l_same⟩) (c_l_same : PySem.W.codeIn K cd_l_same "_law_same" = true) (k_l_same : PySem.W.keepIn K (.ref f_l_same) = true)
    (a_l_all_same : PySem.W.nsIn K mainGlobals "_law_all_same" = some (some (.ref f_l_all_same))) (l_l_all_same : K.lookup f_l_all_same = some ⟨oc_l_all_same, od_l_all_same, .func (PySem.W.fnOf "_law_all_same" "_law_all_same" (defArgs s_l_all_same) (defBody s_l_all_same) (defScope s_l_all_same) .none kV_l_all_same dc_l_all_same pm_l_all_same an_l_all_same cd_l_all_same ct_l_all_same), sl_l_all_same⟩) (c_l_all_same : PySem.W.codeIn K cd_l_all_same "_law_all_same" = true) (k_l_all_same : PySem.W.keepIn K (.ref f_l_all_same) = true)
    (a_l_sum : PySem.W.nsIn K mainGlobals "_law_sum" = some (some (.ref f_l_sum))) (l_l_sum : K.lookup f_l_sum = some ⟨oc_l_sum, od_l_sum, .func (PySem.W.fnOf "_law_sum" "_law_sum" (defArgs s_l_sum) (defBody s_l_sum) (defScope s_l_sum) .none kV_l_sum dc_l_sum pm_l_sum an_l_sum cd_l_sum ct_l_sum), sl_l_sum⟩) (c_l_sum : PySem.W.codeIn K cd_l_sum "_law_sum" = true) (k_l_sum : PySem.W.keepIn K (.ref f_l_sum) = true)
    (a_l_content : PySem.W.nsIn K mainGlobals "_law_content" = some (some (.ref f_l_content))) (l_l_content : K.lookup f_l_content = some ⟨oc_l_content, od_l_content, .func (PySem.W.fnOf "_law_content" "_law_content" (defArgs s_l_content) (defBody s_l_content) (defScope s_l_content) .none kV_l_content dc_l_content pm_l_content an_l_content cd_l_content ct_l_content), sl_l_content⟩) (c_l_content : PySem.W.codeIn K cd_l_content "_law_content" = true) (k_l_content : PySem.W.keepIn K (.ref f_l_content) = true)
    (a_l_is_number : PySem.W.nsIn K mainGlobals "_law_is_number" = some (some (.ref f_l_is_number))) (l_l_is_number : K.lookup f_l_is_number = some ⟨oc_l_is_number, od_l_is_number, .func (PySem.W.fnOf "_law_is_number" "_law_is_number" (defArgs s_l_is_number) (defBody s_l_is_number) (defScope s_l_is_number) .none kV_l_is_number dc_l_is_number pm_l_is_number an_l_is_number cd_l_is_number ct_l_is_number), sl_l_is_number⟩) (c_l_is_number : PySem.W.codeIn K cd_l_is_number "_law_is_number" = true) (k_l_is_number : PySem.W.keepIn K (.ref f_l_is_number) = true)
    (a_l_truth : PySem.W.nsIn K mainGlobals "_law_truth" = some (some (.ref f_l_truth))) (l_l_truth : K.lookup f_l_truth = some ⟨oc_l_truth, od_l_truth, .func (PySem.W.fnOf "_law_truth" "_law_truth" (defArgs s_l_truth) (defBody s_l_truth) (defScope s_l_truth) .none kV_l_truth dc_l_truth pm_l_truth an_l_truth cd_l_truth ct_l_truth), sl_l_truth⟩) (c_l_truth : PySem.W.codeIn K cd_l_truth "_law_truth" = true) (k_l_truth : PySem.W.keepIn K (.ref f_l_truth) = true)
    (a_l_right : PySem.W.nsIn K mainGlobals "_law_right" = some (some (.ref f_l_right))) (l_l_right : K.lookup f_l_right = some ⟨oc_l_right, od_l_right, .func (PySem.W.fnOf "_law_right" "_law_right" (defArgs s_l_right) (defBody s_l_right) (defScope s_l_right) .none kV_l_right dc_l_right pm_l_right an_l_right cd_l_right ct_l_right), sl_l_right⟩) (c_l_right : PySem.W.codeIn K cd_l_right "_law_right" = true) (k_l_right : PySem.W.keepIn K (.ref f_l_right) = true)
    (a_l_bent : PySem.W.nsIn K mainGlobals "_law_bent" = some (some (.ref f_l_bent))) (l_l_bent : K.lookup f_l_bent = some ⟨oc_l_bent, od_l_bent, .func (PySem.W.fnOf "_law_bent" "_law_bent" (defArgs s_l_bent) (defBody s_l_bent) (defScope s_l_bent) .none kV_l_bent dc_l_bent pm_l_bent an_l_bent cd_l_bent ct_l_bent), sl_l_bent⟩) (c_l_bent : PySem.W.codeIn K cd_l_bent "_law_bent" = true) (k_l_bent : PySem.W.keepIn K (.ref f_l_bent) = true)
    (a_law : PySem.W.nsIn K mainGlobals "law" = some (some (.ref f_law))) (l_law : K.lookup f_law = some ⟨oc_law, od_law, .func (PySem.W.fnOf "law" "law" (defArgs s_law) (defBody s_law) (defScope s_law) .none kV_law dc_law pm_law an_law cd_law ct_law), sl_law⟩) (c_law : PySem.W.codeIn K cd_law "law" = true) (k_law : PySem.W.keepIn K (.ref f_law) = true)
    (z_abs : PySem.W.nsIn K mainGlobals "abs" = some none)
    (z_all : PySem.W.nsIn K mainGlobals "all" = some none)
    (z_bool : PySem.W.nsIn K mainGlobals "bool" = some none)
    (z_int : PySem.W.nsIn K mainGlobals "int" = some none)
    (z_isinstance : PySem.W.nsIn K mainGlobals "isinstance" = some none)
    (z_len : PySem.W.nsIn K mainGlobals "len" = some none)
    (z_list : PySem.W.nsIn K mainGlobals "list" = some none)
    (z_min : PySem.W.nsIn K mainGlobals "min" = some none)
    (z_range : PySem.W.nsIn K mainGlobals "range" = some none)
    (z_str : PySem.W.nsIn K mainGlobals "str" = some none)
    (z_tuple : PySem.W.nsIn K mainGlobals "tuple" = some none)
    (z_zip : PySem.W.nsIn K mainGlobals "zip" = some none)
    (z_MODULUS : PySem.W.nsIn K mainGlobals "MODULUS" = some (some (.int 2147483647 t_MODULUS))) :
    LamX.LawAtS l w K CX0 9 63 "_law_script" mg fa h := by
  have F_is_number := fnAt_mk (st := s_is_number) (ps := ["one"]) (PySem.W.mg_of X G a_is_number) l_is_number c_is_number k_is_number (fun us hl => match us, hl with | [_], _ => rfl)
  have F_is_content := fnAt_mk (st := s_is_content) (ps := ["one"]) (PySem.W.mg_of X G a_is_content) l_is_content c_is_content k_is_content (fun us hl => match us, hl with | [_], _ => rfl)
  have B_is_content := tabs "is_content" f_is_content cc_is_content pt_is_content _ _ _ _ _ _ r_is_content (PySem.W.mg_of X G a_is_content) l_is_content rfl rfl e_is_content p_is_content
  have F_sum_of := fnAt_mk (st := s_sum_of) (ps := ["spot", "content"]) (PySem.W.mg_of X G a_sum_of) l_sum_of c_sum_of k_sum_of (fun us hl => match us, hl with | [_, _], _ => rfl)
  have F_cell_of := fnAt_mk (st := s_cell_of) (ps := ["spot", "content"]) (PySem.W.mg_of X G a_cell_of) l_cell_of c_cell_of k_cell_of (fun us hl => match us, hl with | [_, _], _ => rfl)
  have F_is_right := fnAt_mk (st := s_is_right) (ps := ["spot", "cell"]) (PySem.W.mg_of X G a_is_right) l_is_right c_is_right k_is_right (fun us hl => match us, hl with | [_, _], _ => rfl)
  have F_l_mixed := fnAt_mk (st := s_l_mixed) (ps := ["_law_cell", "_law_k"]) (PySem.W.mg_of X G a_l_mixed) l_l_mixed c_l_mixed k_l_mixed (fun us hl => match us, hl with | [_, _], _ => rfl)
  have F_l_draws := fnAt_mk (st := s_l_draws) (ps := ["_law_script"]) (PySem.W.mg_of X G a_l_draws) l_l_draws c_l_draws k_l_draws (fun us hl => match us, hl with | [_], _ => rfl)
  have F_l_next := fnAt_mk (st := s_l_next) (ps := ["_law_drawn"]) (PySem.W.mg_of X G a_l_next) l_l_next c_l_next k_l_next (fun us hl => match us, hl with | [_], _ => rfl)
  have F_l_same := fnAt_mk (st := s_l_same) (ps := ["_law_found", "_law_due"]) (PySem.W.mg_of X G a_l_same) l_l_same c_l_same k_l_same (fun us hl => match us, hl with | [_, _], _ => rfl)
  have F_l_all_same := fnAt_mk (st := s_l_all_same) (ps := ["_law_found", "_law_due"]) (PySem.W.mg_of X G a_l_all_same) l_l_all_same c_l_all_same k_l_all_same (fun us hl => match us, hl with | [_, _], _ => rfl)
  have F_l_sum := fnAt_mk (st := s_l_sum) (ps := ["_law_spot", "_law_content_here"]) (PySem.W.mg_of X G a_l_sum) l_l_sum c_l_sum k_l_sum (fun us hl => match us, hl with | [_, _], _ => rfl)
  have F_l_content := fnAt_mk (st := s_l_content) (ps := ["_law_drawn"]) (PySem.W.mg_of X G a_l_content) l_l_content c_l_content k_l_content (fun us hl => match us, hl with | [_], _ => rfl)
  have F_l_is_number := fnAt_mk (st := s_l_is_number) (ps := ["_law_one"]) (PySem.W.mg_of X G a_l_is_number) l_l_is_number c_l_is_number k_l_is_number (fun us hl => match us, hl with | [_], _ => rfl)
  have F_l_truth := fnAt_mk (st := s_l_truth) (ps := ["_law_found", "_law_due"]) (PySem.W.mg_of X G a_l_truth) l_l_truth c_l_truth k_l_truth (fun us hl => match us, hl with | [_, _], _ => rfl)
  have F_l_right := fnAt_mk (st := s_l_right) (ps := ["_law_spot", "_law_cell"]) (PySem.W.mg_of X G a_l_right) l_l_right c_l_right k_l_right (fun us hl => match us, hl with | [_, _], _ => rfl)
  have F_l_bent := fnAt_mk (st := s_l_bent) (ps := ["_law_spot", "_law_content_here", "_law_number"]) (PySem.W.mg_of X G a_l_bent) l_l_bent c_l_bent k_l_bent (fun us hl => match us, hl with | [_, _, _], _ => rfl)
  have F_law := fnAt_mk (st := s_law) (ps := ["_law_script"]) (PySem.W.mg_of X G a_law) l_law c_law k_law (fun us hl => match us, hl with | [_], _ => rfl)
  have T : Txt K mg := ⟨PySem.W.mg_none_of X G z_abs, PySem.W.mg_none_of X G z_all, PySem.W.mg_none_of X G z_bool, PySem.W.mg_none_of X G z_int, PySem.W.mg_none_of X G z_isinstance, PySem.W.mg_none_of X G z_len, PySem.W.mg_none_of X G z_list, PySem.W.mg_none_of X G z_min, PySem.W.mg_none_of X G z_range, PySem.W.mg_none_of X G z_str, PySem.W.mg_none_of X G z_tuple, PySem.W.mg_none_of X G z_zip, ⟨_, PySem.W.mg_of X G z_MODULUS, ⟨_, rfl⟩⟩⟩
  refine law_at (cs := [(cc_is_content, pt_is_content)]) (sp := spLaw K [pt_is_content]) (q := q) hfa F_law ?_ (fun kV doc pm an ct s u => .of_eq rfl) (fun H a ns h1 _ h3 h4 => ⟨a, ns, rfl, h4, h1, h3, fun _ => rfl⟩) (fun base _ _ TB => ?_)
  · intro p hp
    simp only [List.mem_cons, List.not_mem_nil, or_false] at hp
    subst hp
    exact ⟨B_is_content.1, B_is_content.2, o_is_content⟩
  · have c1 := ok_is_number (P := l.prog) (w := w) (base := base) T F_is_number
    have c2 := ok_is_content (P := l.prog) (w := w) (tb := [pt_is_content]) T (TB (cc_is_content, pt_is_content) (by simp)) (by simp) F_is_content c1
    have c3 := ok_sum_of (P := l.prog) (w := w) (base := base) T F_sum_of
    have c4 := ok_cell_of (tb := [pt_is_content]) F_cell_of c3
    have c5 := ok_is_right T F_is_right c1 c2 c3
    have c6 := ok_l_mixed (P := l.prog) (w := w) (base := base) F_l_mixed
    have c7 := ok_l_draws (tb := [pt_is_content]) T F_l_draws c6
    have c8 := ok_l_next (P := l.prog) (w := w) (base := base) (tb := [pt_is_content]) F_l_next
    have c9 := ok_sames (P := l.prog) (w := w) (base := base) (tb := [pt_is_content]) T F_l_same F_l_all_same 3
    have c10 := ok_l_sum (P := l.prog) (w := w) (base := base) F_l_sum
    have c11 := ok_l_content T F_l_content c8
    have c12 := ok_l_is_number (P := l.prog) (w := w) (base := base) T F_l_is_number
    have c13 := ok_l_truth (P := l.prog) (w := w) (base := base) T F_l_truth
    have c14 := ok_l_right T F_l_right c12 c10
    have c15 := ok_l_bent (tb := [pt_is_content]) T F_l_bent c10
    exact ok_law T c7 c8 c11 c10 c3 c4 c9 c5 c15 c13 c14
end K17
open PySem PySem.W PyProof.Rows
set_option maxRecDepth 100000 in
set_option maxHeartbeats 0 in
theorem PySem.Challenge.cw_snapshelf_k17_sums_holds : PySem.Challenge.rw_snapshelf_k17_sums.Holds := by
  w_on; o_law; k_head; (case hw => w_witness2)
  k_fill
  refine HK.walk_tabs (l := PySem.Challenge.rw_snapshelf_k17_sums) (n := 63) (k := 9) (x := "_law_script") (CX := fun _ => L2.CX0) rfl (by decide) rfl ⟨rfl, by decide, by decide⟩ (fun w h Y => PySem.W.kIn_of Y) ?F (fun _ _ _ _ _ h => h)
  case F =>
    intro w mg fa h Y KX G hmg tabs
    refine' K17.all_mk KX G hmg tabs ?a_is_number ?l_is_number ?c_is_number ?k_is_number ?a_is_content ?l_is_content ?c_is_content ?k_is_content ?e_is_content ?p_is_content ?o_is_content ?r_is_content ?a_sum_of ?l_sum_of ?c_sum_of ?k_sum_of ?a_cell_of ?l_cell_of ?c_cell_of ?k_cell_of ?a_is_right ?l_is_right ?c_is_right ?k_is_right ?a_l_mixed ?l_l_mixed ?c_l_mixed ?k_l_mixed ?a_l_draws ?l_l_draws ?c_l_draws ?k_l_draws ?a_l_next ?l_l_next ?c_l_next ?k_l_next ?a_l_same ?l_l_same ?c_l_same ?k_l_same ?a_l_all_same ?l_l_all_same ?c_l_all_same ?k_l_all_same ?a_l_sum ?l_l_sum ?c_l_sum ?k_l_sum ?a_l_content ?l_l_content ?c_l_content ?k_l_content ?a_l_is_number ?l_l_is_number ?c_l_is_number ?k_l_is_number ?a_l_truth ?l_l_truth ?c_l_truth ?k_l_truth ?a_l_right ?l_l_right ?c_l_right ?k_l_right ?a_l_bent ?l_l_bent ?c_l_bent ?k_l_bent ?a_law ?l_law ?c_law ?k_law ?z_abs ?z_all ?z_bool ?z_int ?z_isinstance ?z_len ?z_list ?z_min ?z_range ?z_str ?z_tuple ?z_zip ?z_MODULUS
    (case a_is_number => k_is)
    (case l_is_number => k_is)
    (case c_is_number => k_is)
    (case k_is_number => k_is)
    (case a_is_content => k_is)
    (case l_is_content => k_is)
    (case c_is_content => k_is)
    (case k_is_content => k_is)
    (case e_is_content => k_is)
    (case p_is_content => rfl)
    (case o_is_content => first | k_is | rfl | decide +kernel)
    (case r_is_content => decide +kernel)
    (case a_sum_of => k_is)
    (case l_sum_of => k_is)
    (case c_sum_of => k_is)
    (case k_sum_of => k_is)
    (case a_cell_of => k_is)
    (case l_cell_of => k_is)
    (case c_cell_of => k_is)
    (case k_cell_of => k_is)
    (case a_is_right => k_is)
    (case l_is_right => k_is)
    (case c_is_right => k_is)
    (case k_is_right => k_is)
    (case a_l_mixed => k_is)
    (case l_l_mixed => k_is)
    (case c_l_mixed => k_is)
    (case k_l_mixed => k_is)
    (case a_l_draws => k_is)
    (case l_l_draws => k_is)
    (case c_l_draws => k_is)
    (case k_l_draws => k_is)
    (case a_l_next => k_is)
    (case l_l_next => k_is)
    (case c_l_next => k_is)
    (case k_l_next => k_is)
    (case a_l_same => k_is)
    (case l_l_same => k_is)
    (case c_l_same => k_is)
    (case k_l_same => k_is)
    (case a_l_all_same => k_is)
    (case l_l_all_same => k_is)
    (case c_l_all_same => k_is)
    (case k_l_all_same => k_is)
    (case a_l_sum => k_is)
    (case l_l_sum => k_is)
    (case c_l_sum => k_is)
    (case k_l_sum => k_is)
    (case a_l_content => k_is)
    (case l_l_content => k_is)
    (case c_l_content => k_is)
    (case k_l_content => k_is)
    (case a_l_is_number => k_is)
    (case l_l_is_number => k_is)
    (case c_l_is_number => k_is)
    (case k_l_is_number => k_is)
    (case a_l_truth => k_is)
    (case l_l_truth => k_is)
    (case c_l_truth => k_is)
    (case k_l_truth => k_is)
    (case a_l_right => k_is)
    (case l_l_right => k_is)
    (case c_l_right => k_is)
    (case k_l_right => k_is)
    (case a_l_bent => k_is)
    (case l_l_bent => k_is)
    (case c_l_bent => k_is)
    (case k_l_bent => k_is)
    (case a_law => k_is)
    (case l_law => k_is)
    (case c_law => k_is)
    (case k_law => k_is)
    (case z_abs => k_is)
    (case z_all => k_is)
    (case z_bool => k_is)
    (case z_int => k_is)
    (case z_isinstance => k_is)
    (case z_len => k_is)
    (case z_list => k_is)
    (case z_min => k_is)
    (case z_range => k_is)
    (case z_str => k_is)
    (case z_tuple => k_is)
    (case z_zip => k_is)
    (case z_MODULUS => k_is)

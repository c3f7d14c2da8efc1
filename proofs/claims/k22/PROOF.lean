import PyProof.Rows.All
import Wide.All
import OpenK.AllK
import Wide.FinOn
import HandS.GenList
import HandS.AnyAll
import HandS.EndOwn
import HandS.ForMost
import HandS.ForExc
import HandS.IsInst
import HandS.TupAny
import HandS.Wide
import HandS.Style
import HandS.Small
import HandS.Flow
import HandS.Replace
import HandS.Codes
import HandS.Rev
import HandS.MapObj
import HandS.MapJoin
import HandS.Zip
import HandS.TupMul
import HandS.DictComp
import HandS.Iter
import HandS.Walk
import PySem.Challenge.RW_snapshelf_k22_steps_cut
import HandS.Conv
set_option Elab.async false
set_option linter.all false
set_option maxRecDepth 100000
set_option maxHeartbeats 2000000
namespace GX
open PySem PySem.Spec PyProof.Rows L2 GenW

/-- the frame of a generator expression that is woken by a builtin of this def -/
def gcx (X : Cx) (cenv : Env) (N : List Str) (s4 : Shared) (H4 : Hp) (fp : List Addr) (pn : List (Addr × Obj)) : Cx :=
  { prog := X.prog, w := X.w, K := X.K, mg := X.mg, base := X.base, A := X.A.in1.in1.deeper cenv, N := N, s_0 := s4, H_0 := H4, env := cenv, outer := X.stack, stack := cenv :: X.stack, ex := fp, fn := fun _ => false, calm := true, pn := pn, xe := fun _ _ => False }

theorem clo_nil {cells : List (Str × Addr)} : ∀ {names : List (Str × NameKind)}, (∀ y ∈ names, y.2 ≠ .free) → cloFrom cells names [] = []
  | [], _ => rfl
  | (n, k) :: r, h => by
    unfold cloFrom
    have hk : ¬ (k == NameKind.free) = true := by
      have := h (n, k) List.mem_cons_self
      simpa using this
    rw [if_neg hk]
    exact clo_nil fun y hy => h y (List.mem_cons_of_mem _ hy)

/-- the scope of a generator expression that captures nothing -/
structure GScp (scope : Scope) : Prop where
  kind : scope.kind = .function
  co : scope.isCoroutine = false
  cell : ∀ y ∈ scope.names, y.2 ≠ .cell
  free : ∀ y ∈ scope.names, y.2 ≠ .free
  dot : scope.names.lookup (".0" : Str) = some NameKind.local

def Slp (s s' : Shared) : Prop := s'.os = s.os ∧ AllBare s'.gens ∧ ∀ b o, s.heap.get? b = some o → s'.heap.get? b = some o
def tau0 (N : List Str) : L2.St := N.map fun _ => none

/-- what is known where the generator stands at turn i -/
def At (Xg : Cx) (fp : List Addr) (tn : Nat → Heap → Prop) (i : Nat) (H : Hp) (s : Shared) : Prop :=
  Inv Xg [] (tau0 Xg.N) H s ∧ tn i s.heap ∧ ∀ b ∈ fp, H b = none
theorem At.slp {Xg : Cx} {fp : List Addr} {tn : Nat → Heap → Prop} {i : Nat} {H : Hp} {s s' : Shared} (hk : ∀ i h h', tn i h → (∀ b ∈ fp, ∀ o, h.get? b = some o → h'.get? b = some o) → tn i h') (h : At Xg fp tn i H s) (z : Slp s s') : At Xg fp tn i H s' := by
  obtain ⟨I, st, fr⟩ := h
  exact ⟨I.call' (ch := []) z.1 (Un.kept z.2.2) (I.hok.kept z.2.2) z.2.1 (fun b hb => by simp at hb), hk _ _ _ st fun b _ o e => z.2.2 b o e, fr⟩
theorem inv_forget {X : Cx} {pins : List (Addr × Obj)} {σ : L2.St} {H : Hp} {s : Shared} (I : Inv X pins σ H s) : Inv X pins (tau0 X.N) H s :=
  I.weak (by rw [I.len]; simp [tau0]) fun i v e => by
    unfold tau0 at e
    rw [List.getElem?_map] at e
    cases q : X.N[i]? with
    | none => rw [q] at e; cases e
    | some y => rw [q] at e; cases e

def RX (Xg : Cx) (fp : List Addr) (Endp : Hp → Prop) : GenEnd := fun n s₀ r s => ((r = .ok (.ret .none) ∨ r = .ok .next) ∧ ∃ H, Inv Xg [] (tau0 Xg.N) H s ∧ Endp H) ∨ ∃ e, r = .error e ∧ False
def YX (Xg : Cx) (fp : List Addr) (tn : Nat → Heap → Prop) (len : Nat) (W : Nat → Hp → Prop) (Yp : Nat → V → Hp → Prop) : Protocol := fun n s₀ v s kap =>
  ∃ i y H, n + 1 + i = len ∧ RelV y v ∧ At Xg fp tn (i + 1) H s ∧ Yp i y H ∧ (W (i + 1) H → ∀ s', Slp s s' → kap (.send .none) s')

section
variable {X : Cx} {scope : Scope} {cenv : Env} {N : List Str} {s4 : Shared} {H4 : Hp} {fp : List Addr} {pn : List (Addr × Obj)} {tg elt iter : Expr} {pos : Pos} {it : Addr} {tn : Nat → Heap → Prop} {J : It} {len : Nat} {W : Nat → Hp → Prop} {Yp : Nat → V → Hp → Prop} {Endp : Hp → Prop} {g : TG} {te : TE}

theorem seg_gx (hco : cenv.scope.isCoroutine = false) (T : Turn X.prog X.w X.K tg J fp it tn) (hfp : ∀ H, (∀ b ∈ fp, H b = none) → ∀ b ∈ fp, FpOk (gcx X cenv N s4 H4 fp pn) [] H b)
    (hg : PG (gcx X cenv N s4 H4 fp pn) tg g) (he : PE (gcx X cenv N s4 H4 fp pn) elt te)
    (hW : ∀ i H, W i H → i ≤ len ∧ ((J.stop i H ∧ Endp H) ∨ (i < len ∧ J.go i H ∧ ∀ x H', J.yld i H x H' → g x (tau0 N) H' fun τ2 H2 => te τ2 H2 fun y H3 => Yp i y H3))) :
    ∀ (k i : Nat) (s₀ s : Shared) (H : Hp), len - i = k → At (gcx X cenv N s4 H4 fp pn) fp tn i H s → W i H →
      Seg (model X.prog X.w) X.A.in1.in1 (RX (gcx X cenv N s4 H4 fp pn) fp Endp) (YX (gcx X cenv N s4 H4 fp pn) fp tn len W Yp) (len - i) s₀
        (.compLoop (.GeneratorExp elt [⟨tg, iter, [], 0⟩] scope pos) 0 (.ref it) .none cenv)
        ((model X.prog X.w).den (.compLoop (.GeneratorExp elt [⟨tg, iter, [], 0⟩] scope pos) 0 (.ref it) .none cenv)) [] s := by
  have hov : X.A.in1.in1.over (.compLoop (.GeneratorExp elt [⟨tg, iter, [], 0⟩] scope pos) 0 (.ref it) .none cenv) [] = (gcx X cenv N s4 H4 fp pn).A := rfl
  intro k
  induction k with
  | zero =>
    intro i s₀ s H hk hA w
    obtain ⟨hil, hc⟩ := hW i H w
    obtain ⟨stop, hE⟩ : J.stop i H ∧ Endp H := by
      rcases hc with hc | ⟨hlt, _⟩
      · exact hc
      · omega
    obtain ⟨I, st, fr⟩ := hA
    show Seg _ X.A.in1.in1 _ _ _ s₀ _ ((compTurn (.GeneratorExp elt [⟨tg, iter, [], 0⟩] scope pos) 0 (.ref it) .none cenv).onRaise (leaving cenv)) [] s
    rw [compTurn_gen, Sem.onRaise_eq_wrap]
    refine seg_bind_wrap (wpAny_standAt ?_)
    refine seg_bind_wrap ?_
    rw [hov]
    refine thn (T.done (gcx X cenv N s4 H4 fp pn) rfl rfl rfl rfl i [] s (tau0 N) H _ I (hfp H fr) st stop) fun r s1 ⟨hr, I1⟩ => ?_
    subst hr
    exact seg_end (.ok .next) (.inl ⟨.inr rfl, H, I1, hE⟩)
  | succ k ih =>
    intro i s₀ s H hk hA w
    obtain ⟨hil, hc⟩ := hW i H w
    obtain ⟨I, st, fr⟩ := hA
    show Seg _ X.A.in1.in1 _ _ _ s₀ _ ((compTurn (.GeneratorExp elt [⟨tg, iter, [], 0⟩] scope pos) 0 (.ref it) .none cenv).onRaise (leaving cenv)) [] s
    rw [compTurn_gen, Sem.onRaise_eq_wrap]
    refine seg_bind_wrap (wpAny_standAt ?_)
    refine seg_bind_wrap ?_
    rw [hov]
    rcases hc with ⟨stop, hE⟩ | ⟨hlt, go, step⟩
    · refine thn (T.done (gcx X cenv N s4 H4 fp pn) rfl rfl rfl rfl i [] s (tau0 N) H _ I (hfp H fr) st stop) fun r s1 ⟨hr, I1⟩ => ?_
      subst hr
      exact seg_end (.ok .next) (.inl ⟨.inr rfl, H, I1, hE⟩)
    · refine thn (T.item (gcx X cenv N s4 H4 fp pn) rfl rfl rfl rfl i [] s (tau0 N) H _ I (hfp H fr) st go) fun r s1 ⟨u, hr, h1⟩ => ?_
      subst hr
      refine seg_bind_wrap ?_
      rw [hov]
      refine thn h1 fun _ s2 ⟨x, H', I2, r2, y2, st2, fr2⟩ => ?_
      have I2' := I2.pinned (hfp H' fr2) (T.obj _ _ st2)
      refine seg_bind_wrap ?_
      rw [hov]
      refine wpAny_mono (hg.run _ s2 _ H' x u _ I2' r2 (step x H' y2)) (fun _ s3 ⟨τ3, H3, I3, q3⟩ => ?_) fun _ _ e => (show False from e).elim
      refine seg_bind_wrap (wpAny_of_eq (a := true) (by first | rfl | exact List.forIn_nil ..) ?_)
      simp only [if_true]
      have hy : ∀ v, yieldOut cenv v = yieldValue v := fun v => by simp only [yieldOut, hco, Bool.false_eq_true, if_false]
      simp only [hy]
      rw [Sem.bind_eq_wrap', Sem.bind_eq_wrap', Sem.wrap_wrap, Sem.wrap_wrap]
      refine seg_wrap ?_
      rw [hov]
      refine wpAny_mono (he.run _ s3 τ3 H3 _ I3 q3) (fun v s5 h5 => ?_) fun _ _ e => (show False from e).elim
      obtain ⟨y, H5, I5, r5, q5⟩ := h5
      have A5 : At (gcx X cenv N s4 H4 fp pn) fp tn (i + 1) H5 s5 := by
        refine ⟨inv_forget (I5.unpinned (pins := [])), T.keep _ _ _ st2 fun b hb o e => (I5.pin (b, o) (List.mem_append_right _ (List.mem_append_right _ (mem_pinsAt hb e)))).1, fun b hb => ?_⟩
        obtain ⟨o, e, d⟩ := T.obj _ _ st2 b hb
        exact (I5.pin (b, o) (List.mem_append_right _ (List.mem_append_right _ (mem_pinsAt hb e)))).2.1
      have hl : len - i = (len - (i + 1)) + 1 := by omega
      rw [hl]
      refine seg_at (seg_yield rfl rfl rfl ⟨i, y, H5, by omega, r5, A5, q5, fun w1 s'' hz => ?_⟩)
      exact seg_again rfl (ih (i + 1) s'' s'' H5 (by omega) (A5.slp T.keep hz) w1)

theorem seg_gs (hco : cenv.scope.isCoroutine = false) (T : Turn X.prog X.w X.K tg J fp it tn) (hfp : ∀ H, (∀ b ∈ fp, H b = none) → ∀ b ∈ fp, FpOk (gcx X cenv N s4 H4 fp pn) [] H b)
    (hg : PG (gcx X cenv N s4 H4 fp pn) tg g) (he : PE (gcx X cenv N s4 H4 fp pn) elt te)
    (hW : ∀ i H, W i H → i ≤ len ∧ ((J.stop i H ∧ Endp H) ∨ (i < len ∧ J.go i H ∧ ∀ x H', J.yld i H x H' → g x (tau0 N) H' fun τ2 H2 => te τ2 H2 fun y H3 => Yp i y H3)))
    (s₀ s : Shared) (H : Hp) (hA : At (gcx X cenv N s4 H4 fp pn) fp tn 0 H s) (w : W 0 H) :
      Seg (model X.prog X.w) X.A.in1.in1 (RX (gcx X cenv N s4 H4 fp pn) fp Endp) (YX (gcx X cenv N s4 H4 fp pn) fp tn len W Yp) len s₀
        (.compStart (.GeneratorExp elt [⟨tg, iter, [], 0⟩] scope pos) 0 (.ref it) .none cenv)
        ((model X.prog X.w).den (.compStart (.GeneratorExp elt [⟨tg, iter, [], 0⟩] scope pos) 0 (.ref it) .none cenv)) [] s := by
  have loop := seg_gx (iter := iter) (scope := scope) (pos := pos) hco T hfp hg he hW len 0 s₀ s H (Nat.sub_zero _) hA w
  rw [Nat.sub_zero] at loop
  show Seg _ X.A.in1.in1 _ _ _ s₀ _ ((compStart (.GeneratorExp elt [⟨tg, iter, [], 0⟩] scope pos) 0 (.ref it) .none cenv).onRaise (leaving cenv)) [] s
  unfold compStart
  rw [Sem.onRaise_eq_wrap]
  show Seg _ X.A.in1.in1 _ _ _ s₀ _ ((ask >>= _).wrap _ _ _ _) [] s
  refine seg_bind_wrap (wpAny_askSetting ?_)
  split
  · exact seg_again rfl loop
  · first
      | exact seg_bind_wrap (wpAny_rule (seg_bind_wrap (wpAny_standAt (seg_bind_wrap (T.self _ 0 s _ _ hA.2.1 (seg_again rfl loop))))))
      | (refine seg_bind_wrap (wpAny_rule ?_); show Seg _ X.A.in1.in1 _ _ _ s₀ _ ((standAt iter.pos >>= _).wrap _ _ _ _) [] s; exact seg_bind_wrap (wpAny_standAt (seg_bind_wrap (T.self _ 0 s _ _ hA.2.1 (seg_again rfl loop)))))
end

/-- the generator at a stands ready, with so many turns at most -/
def Goer (X Xg : Cx) (fp : List Addr) (tn : Nat → Heap → Prop) (len : Nat) (W : Nat → Hp → Prop) (Yp : Nat → V → Hp → Prop) (Endp : Hp → Prop) (a : Addr) (gn : Nat) (m : Nat) (s : Shared) : Prop :=
  s.heap.IsGen a gn ∧ s.heap.NoLimit ∧ ∃ gs, s.gens[gn]? = some gs ∧ gs.Goes (model X.prog X.w) X.A.in1.in1 (RX Xg fp Endp) (YX Xg fp tn len W Yp) m (.send .none) (s.setGen gn .running)

section
variable {X Xg : Cx} {fp : List Addr} {tn : Nat → Heap → Prop} {len : Nat} {W : Nat → Hp → Prop} {Yp : Nat → V → Hp → Prop} {Endp : Hp → Prop} {a : Addr} {gn : Nat}
/-- one turn of what walks it -/
theorem next_gx {m : Nat} {s : Shared} {Q : Option Value → Shared → Prop} {E : Value → Shared → Prop} (hh : X.A.handled = none) (hd : X.A.depth < recursionLimit) (hpin : ∀ H s, Inv Xg [] (tau0 Xg.N) H s → s.heap.IsGen a gn ∧ s.heap.NoLimit)
    (G : Goer X Xg fp tn len W Yp Endp a gn m s)
    (hstop : ∀ H s1, Inv Xg [] (tau0 Xg.N) H s1 → Endp H → Q none s1)
    (hyld : ∀ i y H v s1, RelV y v → Inv Xg [] (tau0 Xg.N) H s1 → Yp i y H → (W (i + 1) H → ∃ m', m = m' + 1 ∧ Goer X Xg fp tn len W Yp Endp a gn m' s1) → Q (some v) s1) :
    wpAny (model X.prog X.w) X.A.in1 (pyNext (.ref a)) Q E s := by
  obtain ⟨hg, hl, gs, hgs, hgo⟩ := G
  have hgl : gn < s.gens.size := (Array.getElem?_eq_some_iff.mp hgs).1
  have fromSet : ∀ {H : Hp} {s1 : Shared} {x : GenState}, x.bare = true → Inv Xg [] (tau0 Xg.N) H s1 → Inv Xg [] (tau0 Xg.N) H (s1.setGen gn x) := fun {H s1 x} hx I =>
    I.call' (s' := s1.setGen gn x) (ch := []) rfl (Un.kept fun _ _ e => e) I.hok (allBare_setGen I.bare hx) (fun b hb => by simp at hb)
  refine wpAny_gsz (n := gn + 1) hgl ?_
  refine next_genG (F := fun n s₀ s₁ => ∃ H, Inv Xg [] (tau0 Xg.N) H s₁ ∧ Endp H) (Er := fun _ _ => False) (A := X.A.in1) (g := gn) hh hl hd hg hgs ?_ (fun v s₁ gs' hbare hv => ?_) (fun s₁ hp h' hk => ?_) (fun e s₁ he => he.elim)
    (Y := YX Xg fp tn len W Yp) (n := m)
  · exact hgo
  · obtain ⟨i, y, H, h1, h2, h3, h4, h5⟩ := hv
    intro hsz
    have hsz1 : gn < s₁.gens.size := by
      have q : (s₁.setGen gn gs').gens.size = s₁.gens.size := setGen_size _ _ _
      have hsz' : gn + 1 ≤ (s₁.setGen gn gs').gens.size := hsz
      omega
    refine hyld i y H v _ h2 (fromSet hbare h3.1) h4 fun w => ?_
    have h6 := h5 w ((s₁.setGen gn gs').setGen gn .running) ⟨rfl, allBare_setGen (s := s₁.setGen gn gs') (allBare_setGen h3.1.bare hbare) rfl, fun _ _ e => e⟩
    cases m with
    | zero => exact h6.elim
    | succ m' =>
      refine ⟨m', rfl, (hpin _ _ h3.1).1, (hpin _ _ h3.1).2, gs', setGen_at hsz1, ?_⟩
      exact h6
  · obtain ⟨H, I1, hE⟩ := hp
    intro hsz
    have I2 := fromSet (x := .finished) rfl I1
    exact hstop H _ (I2.call' (s' := { s₁.setGen gn .finished with heap := h' }) (ch := []) rfl (Un.kept hk) (I2.hok.kept hk) I2.bare (fun b hb => by simp at hb)) hE

theorem all_gx {R : Result → Shared → Prop} (hh : X.A.handled = none) (hd : X.A.depth < recursionLimit) (hpin : ∀ H s, Inv Xg [] (tau0 Xg.N) H s → s.heap.IsGen a gn ∧ s.heap.NoLimit)
    (hT : ∀ H s1, Inv Xg [] (tau0 Xg.N) H s1 → Endp H → R (.ok (.ret (.bool true))) s1)
    (hY : ∀ i y H, Yp i y H → ∃ b, y = .bl b ∧ (b = true → W (i + 1) H) ∧ (b = false → ∀ s1, Inv Xg [] (tau0 Xg.N) H s1 → R (.ok (.ret (.bool false))) s1)) :
    ∀ (m : Nat) (s : Shared), Goer X Xg fp tn len W Yp Endp a gn m s → codeAny (model X.prog X.w) X.A (.builtin "all.loop" ⟨[.ref a], []⟩) R s := by
  intro m
  induction m with
  | zero =>
    intro s G
    refine codeAny_builtin F.entry_all_loop ?_
    rw [Around.under_plainId F.plain_all_loop _]
    show wpAny _ X.A.in1 (pyNext (.ref a) >>= _) _ _ s
    refine wpAny_bind (next_gx hh hd hpin G (fun H s1 I1 hE => ?_) fun i y H v s1 rv I1 hy hw => ?_)
    · exact wpAny_bind (wpAny_rule (wpAny_pure (hT H s1 I1 hE)))
    · obtain ⟨b, rfl, h1, h2⟩ := hY i y H hy
      cases rv
      refine wpAny_bind (wpAny_holding (wpAny_truthy_bool ?_))
      refine wpAny_bind (wpAny_letGo ?_)
      cases b with
      | true =>
        obtain ⟨m', e, _⟩ := hw (h1 rfl)
        cases e
      | false =>
        simp only [Bool.false_eq_true, if_false]
        exact wpAny_bind (wpAny_rule (wpAny_pure (h2 rfl s1 I1)))
  | succ m ih =>
    intro s G
    refine codeAny_builtin F.entry_all_loop ?_
    rw [Around.under_plainId F.plain_all_loop _]
    show wpAny _ X.A.in1 (pyNext (.ref a) >>= _) _ _ s
    refine wpAny_bind (next_gx hh hd hpin G (fun H s1 I1 hE => ?_) fun i y H v s1 rv I1 hy hw => ?_)
    · exact wpAny_bind (wpAny_rule (wpAny_pure (hT H s1 I1 hE)))
    · obtain ⟨b, rfl, h1, h2⟩ := hY i y H hy
      cases rv
      refine wpAny_bind (wpAny_holding (wpAny_truthy_bool ?_))
      refine wpAny_bind (wpAny_letGo ?_)
      cases b with
      | true =>
        obtain ⟨m', e, G'⟩ := hw (h1 rfl)
        obtain rfl : m = m' := by omega
        simp only [if_true]
        exact wpAny_pure ⟨plainId_quiet F.plain_all_loop _, ih _ G'⟩
      | false =>
        simp only [Bool.false_eq_true, if_false]
        exact wpAny_bind (wpAny_rule (wpAny_pure (h2 rfl s1 I1)))
end

/-! ### the making -/
section
variable {X : Cx} {scope : Scope} {N : List Str} {tg elt iter : Expr} {gpos : Pos} {wi : TI} {g : TG} {te : TE} {c P : Addr} {k : Nat}
/-- any context that a generator expression with this scope may have, woken from X -/
def IsG (X : Cx) (scope : Scope) (N : List Str) (Xg : Cx) : Prop := ∃ cl C code s4 H4 fp pn, Xg = gcx X (genEnv scope cl C code builtinsNs X.env) N s4 H4 fp pn
theorem room_g (hr : Room (k + 1) X.A) (env : Env) : Room k (X.A.in1.in1.deeper env) :=
  ⟨hr.hd, by have := hr.dp; show X.A.depth + 1 + 3 * k + 5 < _; omega, by have := hr.un; show X.A.units + 1 + 1 + 3 + 16 * k + 200 < _; omega⟩
theorem IsG.room {Xg : Cx} (h : IsG X scope N Xg) (hr : Room (k + 1) X.A) : Room k Xg.A := by
  obtain ⟨cl, C, code, s4, H4, fp, pn, rfl⟩ := h
  exact room_g hr _

/-- a generator that is made and ready -/
structure Ready (X : Cx) (scope : Scope) (N : List Str) (tg elt iter : Expr) (gpos : Pos) (pins : List (Addr × Obj)) (σ : L2.St) (J : It) (H2 : Hp) (a : Addr) (gn : Nat) (it : Addr) (fp : List Addr) (tn : Nat → Heap → Prop) (Xg : Cx) (cenv : Env) (s5 : Shared) : Prop where
  isg : IsG X scope N Xg
  isx : ∃ s4 pn, Xg = gcx X cenv N s4 H2 fp pn
  co : cenv.scope.isCoroutine = false
  turn : Turn X.prog X.w X.K tg J fp it tn
  fpok : ∀ H, (∀ b ∈ fp, H b = none) → ∀ b ∈ fp, FpOk Xg [] H b
  at0 : At Xg fp tn 0 H2 s5
  gen : s5.gens[gn]? = some (.fresh (.compStart (.GeneratorExp elt [⟨tg, iter, [], 0⟩] scope gpos) 0 (.ref it) .none cenv))
  pin : ∀ H s, Inv Xg [] (tau0 Xg.N) H s → s.heap.IsGen a gn ∧ s.heap.NoLimit
  back : ∀ H' s', Inv Xg [] (tau0 Xg.N) H' s' → Inv X pins σ H' s'

theorem gen_made {pins : List (Addr × Obj)} {σ : L2.St} {H : Hp} {s : Shared} {Q' : Value → Shared → Prop} {R : It → Hp → Prop} (hr : Room k X.A) (TB : LamX.TabB X.base X.mg c P) (hcode : X.env.code = .ref c) (S : GScp scope) (hi : PI X tg iter wi)
    (hs : ∀ v, genFold iter X.env v = pure v) (I : Inv X pins σ H s) (h : wi σ H fun J H1 => GxR.TabG H1 P ∧ ∀ H2, GxR.Tabbed P H1 H2 → R J H2)
    (hQ : ∀ J H2 a s5 gn it fp tn Xg cenv, R J H2 → Ready X scope N tg elt iter gpos pins σ J H2 a gn it fp tn Xg cenv s5 → Q' (.ref a) s5) :
    wpAny (model X.prog X.w) X.A (eval (.GeneratorExp elt [⟨tg, iter, [], 0⟩] scope gpos) X.env) Q' X.xe s := by
  refine wpAny_GeneratorExp_make S.co (closure_ok (fun y hy e => absurd e (S.free y hy))) S.cell S.dot S.kind (by have := hr.dp; omega) ?_ hs
  refine thn (hi.run pins s σ H _ I h) fun xv s1 h1 => thn h1 fun itv s2 h2 => ?_
  obtain ⟨it, fp, tn, J, H1, rfl, I2, T, st2, f2, ⟨ps, hP, ht⟩, q1⟩ := h2
  refine ⟨I2.nolimit, ?_⟩
  have hPs : s2.heap.get? P = some { cls := .none, data := .fields ps } := I2.hok P _ hP
  have hPlt : P < s2.heap.objs.size := Heap.lt_size hPs
  have cd : PySem.W.CodeHd s2.heap c P := TB.code.keeps fun b u e => I2.bk b u e
  have cont : ∀ (code : Value) (h3 : Heap) (tk : Nat) (ps' : Array Value), Heap.ExtBut P s2.heap h3 → s2.heap.objs.size ≤ h3.objs.size → h3.get? P = some { cls := .none, data := .fields ps' } → (∃ more, ps' = ps ++ more) → TriplesOk ps'.toList →
      wpAny (model X.prog X.w) X.A (builtinsFor X.env.globals X.env.builtins) (fun bi s₄ =>
        ∀ h', h'.Ns s₄.heap.objs.size (fun y => if y = ".0" then some (.ref it) else none) → Heap.SameBut s₄.heap.objs.size (s₄.heap.push { cls := .type "frame", data := .dict #[] }) h' →
          Q' (.ref h'.objs.size) { s₄ with
            gens := s₄.gens.push (.fresh (.compStart (.GeneratorExp elt [⟨tg, iter, [], 0⟩] scope gpos) 0 (.ref it) .none (genEnv scope (cloFrom X.env.cells scope.names []) s₄.heap.objs.size code bi X.env))),
            toks := s₄.toks + 1 + 1 + 1,
            heap := h'.push { cls := .type "generator", data := .fields #[.int s₄.gens.size 0, .str "<genexpr>" (s₄.toks + 1), .str (X.env.qual ++ "<genexpr>") (s₄.toks + 1 + 1)] } }) X.xe { s2 with heap := h3, toks := tk } := by
    intro code h3 tk ps' hx hsz hP3 hmore ht3
    obtain ⟨bm, ob, e1, e2, e3, e4, e5, e6, e7, e8⟩ := TB.bm
    refine wpAny_builtinsFor (m := X.mg) (by rw [I2.ok.glob]; exact (I2.mod.glob.keeps I2.bk).extBut hx TB.gP) e1 e2 (hx _ _ e4 (I2.bk _ _ e5)) e6 e7 e8 ?_
    rw [clo_nil S.free]
    obtain ⟨more, em⟩ := hmore
    subst em
    have J4 : Inv X pins σ (upd H1 P (.tbl (ps ++ more))) { s2 with heap := h3, toks := tk } := GxR.inv_tab (g' := s2.gens) (d' := s2.drawn) I2 hP (fun b o hb e => hx b o hb e) hP3 I2.bare
    have fpP : ∀ b ∈ fp, b ≠ P := fun b hb z => by
      have := (f2 b hb).1
      rw [z, hP] at this
      cases this
    have st3 : tn 0 h3 := T.keep _ _ _ st2 fun b hb o e => hx b o (fpP b hb) e
    have f4 : ∀ b ∈ fp, upd H1 P (.tbl (ps ++ more)) b = none := fun b hb => by rw [upd_ne (fpP b hb)]; exact (f2 b hb).1
    have fplt : ∀ b ∈ fp, b < h3.objs.size := fun b hb => by
      obtain ⟨o, e, _⟩ := T.obj _ _ st3 b hb
      exact Heap.lt_size e
    have fpst : ∀ b ∈ fp, b ∉ frs X.stack := fun b hb hm => by
      rcases List.mem_cons.mp (J4.stkSub b hm) with z | z
      · exact (f2 b hb).2.1 z
      · exact (f2 b hb).2.2.1 z
    intro h' hn' hs'
    show Q' (.ref h'.objs.size) _
    have hsz' : h'.objs.size = h3.objs.size + 1 := by rw [hs'.1]; exact Heap.size_push ..
    generalize hgo : ({ cls := .type "generator", data := .fields #[.int s2.gens.size 0, .str "<genexpr>" (tk + 1), .str (X.env.qual ++ "<genexpr>") (tk + 1 + 1)] } : Obj) = go
    have keep1 : ∀ b o, h3.get? b = some o → h'.get? b = some o := fun b o e => hs'.extBut b o (Nat.ne_of_lt (Heap.lt_size e)) (Heap.get?_push_of_some _ e)
    have keep5 : ∀ b o, h3.get? b = some o → (h'.push go).get? b = some o := fun b o e => Heap.get?_push_of_some _ (keep1 b o e)
    have hgoat : (h'.push go).get? h'.objs.size = some go := by
      subst hgo
      exact Heap.get?_push_size _ rfl
    have ngo : ∀ v, go.data ≠ .cell v := fun v z => by
      subst hgo
      cases z
    have nC : ∀ b, b < h3.objs.size → b ≠ h3.objs.size := fun b hb => Nat.ne_of_lt hb
    refine hQ J _ h'.objs.size _ s2.gens.size it fp tn (gcx X (genEnv scope [] h3.objs.size code builtinsNs X.env) N { s2 with heap := h3, toks := tk } (upd H1 P (.tbl (ps ++ more))) fp [(h'.objs.size, go)]) (genEnv scope [] h3.objs.size code builtinsNs X.env)
      (q1 _ ⟨⟨ps ++ more, upd_same, ht3⟩, fun b hb => upd_ne hb⟩) ⟨⟨_, _, _, _, _, _, _, rfl⟩, ⟨_, _, rfl⟩, S.co, T, ?_, ?_, ?_, ?_, ?_⟩
    · intro H5 hn b hb
      refine ⟨hn b hb, nC b (fplt b hb), fpst b hb, .inl hb, fun y cc e => ?_, fun p hp => ?_⟩
      · cases (show ([] : List (Str × Addr)).lookup y = some cc from e)
      · rw [List.append_nil] at hp
        rw [List.mem_singleton.mp hp]
        show h'.objs.size ≠ b
        exact Nat.ne_of_gt (Nat.lt_of_lt_of_le (fplt b hb) (show h3.objs.size ≤ h'.objs.size by omega))
    · refine ⟨⟨⟨J4.ok.mod, S.kind, J4.ok.glob, rfl, Nat.le_refl _, fun y z cc e => ?_, fun y hy => ?_, fun y cc e => ?_, fun _ => hr.hd, ?_, .inr ⟨rfl, rfl⟩, fun b hb => ⟨nC b (fplt b hb), fun y cc e => ?_⟩, J4.bs, Nat.le_trans J4.ok.bsz J4.sz, fun b o e hb => ?_, fpst, J4.stack, J4.stkFree⟩,
        rfl, AllBare.push J4.bare rfl, Un.kept keep5, ⟨_, hn'.push go, fun i y v e1 e2 e3 => ?_⟩, fun y cc e => ?_, ?_, fun y cc e => ?_, fun p hp => ?_, J4.hok.kept keep5, ?_⟩, ?_, f4⟩
      · cases (show ([] : List (Str × Addr)).lookup y = some cc from e)
      · rcases hy with hy | hy
        · exact absurd rfl (S.cell _ (PySem.mem_of_lookup (show scope.names.lookup y = some .cell from hy)))
        · exact absurd rfl (S.free _ (PySem.mem_of_lookup (show scope.names.lookup y = some .free from hy)))
      · cases e
      · exact Around.frames_deeper J4.ok.frames
      · cases (show ([] : List (Str × Addr)).lookup y = some cc from e)
      · have h1 := (J4.ok.bs b o e).1
        rcases (f2 b hb).2.2.2.1 with z | z
        · exact J4.ok.noex b o e z
        · exact absurd (Nat.lt_of_lt_of_le (Heap.lt_size h1) z) (Nat.lt_irrefl _)
      · have e2' : (tau0 N)[i]? = some (some v) := e2
        unfold tau0 at e2'
        rw [List.getElem?_map] at e2'
        cases q : N[i]? with
        | none => rw [q] at e2'; cases e2'
        | some y => rw [q] at e2'; cases e2'
      · cases (show ([] : List (Str × Addr)).lookup y = some cc from e)
      · exact J4.hok.fresh (Nat.le_refl _)
      · cases (show ([] : List (Str × Addr)).lookup y = some cc from e)
      · rw [List.append_nil] at hp
        rw [List.mem_singleton.mp hp]
        have hge : h3.objs.size ≤ h'.objs.size := by omega
        refine ⟨hgoat, J4.hok.fresh hge, Nat.ne_of_gt (show h3.objs.size < h'.objs.size by omega), fun hm => ?_, ngo⟩
        rcases List.mem_cons.mp (J4.stkSub _ hm) with z | z
        · exact absurd (Nat.lt_of_lt_of_le J4.lt (by rw [← z]; exact hge)) (Nat.lt_irrefl _)
        · exact J4.nofs hge z
      · show (tau0 N).length = N.length
        unfold tau0
        rw [List.length_map]
      · exact T.keep _ _ _ st3 fun b _ o e => keep5 b o e
    · show (s2.gens.push _)[s2.gens.size]? = _
      exact Array.getElem?_push_size ..
    · intro H5 s6 I6
      refine ⟨?_, I6.nolimit⟩
      have e6 := (I6.pin (h'.objs.size, go) (List.mem_append_left _ (List.mem_singleton.mpr rfl))).1
      refine ⟨go, .str "<genexpr>" (tk + 1), .str (X.env.qual ++ "<genexpr>") (tk + 1 + 1), e6, ?_, ?_, ?_⟩ <;> (subst hgo; rfl)
    · intro H5 s6 I6
      exact J4.call' (ch := fp) I6.os I6.base I6.hok I6.bare fun b hb => ⟨(f2 b hb).2.2.2.1, (f2 b hb).2.1, (f2 b hb).2.2.2.2.1, (f2 b hb).2.2.2.2.2⟩
  cases hf : codeAmong gpos ps.toList with
  | none =>
    refine wpAny_genexprCodeX hcode (cd.code hPs ht) (cd.tab hPs) hf fun c' h' tk hx hge hlt hco' _ htab' _ => ?_
    obtain ⟨o1, vs, f1, tf, fl, tg, inF, tx, tt, op, _, _, _, _, _, _, _, _, _, htr, _⟩ := hco'
    exact cont _ h' tk _ hx (Nat.le_trans hge (Nat.le_of_lt hlt)) htab'.2 ⟨_, rfl⟩ htr
  | some cv =>
    refine wpAny_genexprCode_hit hcode (cd.code hPs ht) hf ?_
    exact cont cv s2.heap s2.toks ps (Heap.ExtBut.refl _ _) (Nat.le_refl _) hPs ⟨#[], by simp⟩ ht

/-! ### all(elt for x in it) -/
def tAllG (P : Addr) (N : List Str) (wi : TI) (g : TG) (te : TE) : TE := fun σ H Q => wi σ H fun J H1 => GxR.TabG H1 P ∧ ∀ H2, GxR.Tabbed P H1 H2 →
  ∃ (len : Nat) (W : Nat → Hp → Prop), W 0 H2 ∧ ∀ i H, W i H → i ≤ len ∧ ((J.stop i H ∧ Q (.bl true) H) ∨ (i < len ∧ J.go i H ∧ ∀ x H', J.yld i H x H' → g x (tau0 N) H' fun τ2 H2 => te τ2 H2 fun y H3 => ∃ b, y = .bl b ∧ if b = true then W (i + 1) H3 else Q (.bl false) H3))
theorem pe_allG {p pos : Pos} (hr : Room k X.A) (hg : Gl X "all") (hm : X.mg "all" = none) (TB : LamX.TabB X.base X.mg c P) (hcode : X.env.code = .ref c) (S : GScp scope) (hi : PI X tg iter wi)
    (hel : ∀ Xg, IsG X scope N Xg → PG Xg tg g ∧ PE Xg elt te) (hs : ∀ v, genFold iter X.env v = pure v := by intro _; rfl)
    (he : starEach [.GeneratorExp elt [⟨tg, iter, [], 0⟩] scope gpos] X.env = (false, eval (.GeneratorExp elt [⟨tg, iter, [], 0⟩] scope gpos) X.env) :: starEach [] X.env := by rfl) :
    PE X (.Call (.Name "all" p) [.GeneratorExp elt [⟨tg, iter, [], 0⟩] scope gpos] [] pos) (tAllG P N wi g te) := by
  refine ⟨fun pins s σ H Q I h => ?_⟩
  refine wpAny_Call_Name_kw (ld_blt I hg hm (show bootBuiltins "all" = some (.builtin "all") by decide +kernel) ?_)
  refine PyProof.Rows.callWith_builtin1 ?_ he (by rfl)
  rw [he]
  show wpAny _ _ (spliced ((false, eval (.GeneratorExp elt [⟨tg, iter, [], 0⟩] scope gpos) X.env) :: backTo pos (starEach [] X.env))) _ _ s
  refine Calls.spliced_cons (gen_made (N := N) hr TB hcode S hi hs I h fun J H2 a s5 gn it fp tn Xg cenv hR RD => ?_)
  obtain ⟨len, W, w0, hW⟩ := hR
  refine Calls.spliced_nil ?_
  obtain ⟨hPG, hPE⟩ := hel Xg RD.isg
  obtain ⟨s4, pn, rfl⟩ := RD.isx
  have seg := fun (s₀ s : Shared) (H : Hp) => seg_gs (iter := iter) (scope := scope) (pos := gpos) (len := len) (W := W) (Endp := fun H => Q (.bl true) H) (Yp := fun i y H3 => ∃ b, y = .bl b ∧ if b = true then W (i + 1) H3 else Q (.bl false) H3)
    RD.co RD.turn RD.fpok hPG hPE hW s₀ s H
  refine call_function_tree F.kind_all F.plain_all F.entry_all (F.args_all1 _) ?_
  unfold Builtin.«all»
  refine wpAny_bind (m := oneArg "all" _) (wpAny_pure ?_)
  refine wpAny_bind (wpAny_pyIter_gen (RD.pin _ _ RD.at0.1).1 ?_)
  refine wpAny_pure ⟨plainId_quiet F.plain_all_loop _, ?_⟩
  refine all_gx (Xg := gcx X cenv N s4 H2 fp pn) hr.hd (by have := hr.dp; omega) RD.pin (fun H' s' I' hE => ?_) (fun i y H' hy => ?_) len s5 ⟨(RD.pin _ _ RD.at0.1).1, (RD.pin _ _ RD.at0.1).2, _, RD.gen, rfl, seg _ _ _ (RD.at0.slp RD.turn.keep ⟨rfl, allBare_setGen RD.at0.1.bare rfl, fun _ _ e => e⟩) w0⟩
  · exact ⟨.bl true, H', RD.back H' s' I', rfl, hE⟩
  · obtain ⟨b, rfl, hb⟩ := hy
    refine ⟨b, rfl, fun e => ?_, fun e s1 I1 => ?_⟩
    · rw [if_pos e] at hb
      exact hb
    · subst e
      rw [if_neg Bool.false_ne_true] at hb
      exact ⟨.bl false, H', RD.back H' s1 I1, rfl, hb⟩
end
end GX

set_option Elab.async false
set_option linter.all false
set_option maxRecDepth 100000
set_option maxHeartbeats 2000000
namespace HK
open PySem PySem.Spec PyProof.Rows L2

/-! ### constants of the module -/
def GloE (mg : Str → Option Value) (x : Str) (v : V) : Prop := ∃ u, mg x = some u ∧ RelV v u
theorem pe_glo {X : Cx} {x : Str} {v : V} {pos : Pos} (hg : Gl X x) (h : GloE X.mg x v) (hd : (x == ("__debug__" : Str)) = false := by decide) : PE X (.Name x pos) (tC v) := by
  obtain ⟨u, h1, h2⟩ := h
  exact pe_glob hg h1 h2 hd

/-! ### defs -/
/-- a def of the text, at f, its code object's value cd -/
structure FnAt (K : PySem.W.Frag) (mg : Str → Option Value) (x : Str) (st : Stmt) (ps : List Str) (f : Addr) (cd : Value) : Prop where
  ex : ∃ (oc : Value) (od : Option Addr) (kV doc pm : Value) (an : Option Addr) (ct : Value) (osl : Array (Option Value)),
    K.lookup f = some ⟨oc, od, .func (PySem.W.fnOf x x (defArgs st) (defBody st) (defScope st) .none kV doc pm an cd ct), osl⟩ ∧ PySem.W.codeIn K cd x = true ∧
    Binds K (PySem.W.fnOf x x (defArgs st) (defBody st) (defScope st) .none kV doc pm an cd ct) ps []
  kp : PySem.W.keepIn K (.ref f) = true
  mgf : mg x = some (.ref f)
/-- a def that may be called by its name -/
def CalE (P : Program) (w : World) (K : PySem.W.Frag) (mg : Str → Option Value) (base : Heap) (CX : CXT) (k : Nat) (x : Str) (sp : Sp) : Prop :=
  ∃ (f : Addr) (fd : FuncData) (ps : List Str), FnOk P w K mg base CX k f fd ps sp ∧ mg x = some (.ref f) ∧ PySem.W.keepIn K (.ref f) = true ∧ Binds K fd ps []
section
variable {P : Program} {w : World} {K : PySem.W.Frag} {mg : Str → Option Value} {base : Heap} {x : Str} {st : Stmt} {f : Addr} {cd : Value} {N ps : List Str} {k : Nat} {sp : Sp}
theorem FnAt.cal (F : FnAt K mg x st ps f cd) (S : FnScope N ps (defScope st)) (len : ∀ vs H Q E, sp vs H Q E → vs.length = ps.length)
    (hbody : ∀ (A : Around) (outer : List Env) (s : Shared) (H : Hp) (vs : List V) (Q : VK) (E : XK), Room k (A.deeper (envOfC x (defScope st) s.heap.objs.size f cd)) → sp vs H Q E →
      ∃ t, PSs (cxOf CX0 P w K mg base N x (defScope st) f cd A outer s H E).nox (defBody st) t ∧ t { nx := fun _ H' => Q .non H', rt := Q } (start N vs) H) : CalE P w K mg base CX0 (k + 1) x sp := by
  obtain ⟨oc, od, kV, doc, pm, an, ct, osl, lk, hcd, hb⟩ := F.ex
  refine ⟨f, _, ps, fn_of lk hcd S len fun A outer s H vs Q E hr hsp => ?_, F.mgf, F.kp, hb⟩
  obtain ⟨t, h, q⟩ := hbody A outer s H vs Q E hr hsp
  exact ⟨t, h.nox, q⟩
/-- .. of a def that may raise -/
theorem FnAt.calX (F : FnAt K mg x st ps f cd) (S : FnScope N ps (defScope st)) (len : ∀ vs H Q E, sp vs H Q E → vs.length = ps.length)
    (hbody : ∀ (A : Around) (outer : List Env) (s : Shared) (H : Hp) (vs : List V) (Q : VK) (E : XK), Room k (A.deeper (envOfC x (defScope st) s.heap.objs.size f cd)) → sp vs H Q E →
      ∃ t, PSs (cxOf (L2.CX P w) P w K mg base N x (defScope st) f cd A outer s H E) (defBody st) t ∧ t { nx := fun _ H' => Q .non H', rt := Q } (start N vs) H) : CalE P w K mg base (L2.CX P w) (k + 1) x sp := by
  obtain ⟨oc, od, kV, doc, pm, an, ct, osl, lk, hcd, hb⟩ := F.ex
  exact ⟨f, _, ps, fn_of lk hcd S len fun A outer s H vs Q E hr hsp => hbody A outer s H vs Q E hr hsp, F.mgf, F.kp, hb⟩
theorem CalE.mono {CX : CXT} {j : Nat} (c : CalE P w K mg base CX j x sp) (h : j ≤ k) : CalE P w K mg base CX k x sp := by
  obtain ⟨f, fd, ps, F, r⟩ := c
  exact ⟨f, fd, ps, F.mono h, r⟩
/-- the law itself, by its body -/
def FnG (P : Program) (w : World) (K : PySem.W.Frag) (mg : Str → Option Value) (base : Heap) (CX : CXT) (k : Nat) (x : Str) (st : Stmt) (ps : List Str) (f : Addr) (cd : Value) (sp : Sp) : Prop :=
  ∀ (oc : Value) (od : Option Addr) (kV doc pm : Value) (an : Option Addr) (ct : Value) (osl : Array (Option Value)), K.lookup f = some ⟨oc, od, .func (PySem.W.fnOf x x (defArgs st) (defBody st) (defScope st) .none kV doc pm an cd ct), osl⟩ → PySem.W.codeIn K cd x = true →
    FnOk P w K mg base CX k f (PySem.W.fnOf x x (defArgs st) (defBody st) (defScope st) .none kV doc pm an cd ct) ps sp
theorem law_of (S : FnScope N ps (defScope st)) (len : ∀ vs H Q E, sp vs H Q E → vs.length = ps.length)
    (hbody : ∀ (A : Around) (outer : List Env) (s : Shared) (H : Hp) (vs : List V) (Q : VK) (E : XK), Room k (A.deeper (envOfC x (defScope st) s.heap.objs.size f cd)) → sp vs H Q E →
      ∃ t, PSs (cxOf CX0 P w K mg base N x (defScope st) f cd A outer s H E).nox (defBody st) t ∧ t { nx := fun _ H' => Q .non H', rt := Q } (start N vs) H) : FnG P w K mg base CX0 (k + 1) x st ps f cd sp := by
  intro oc od kV doc pm an ct osl lk hcd
  refine fn_of lk hcd S len fun A outer s H vs Q E hr hsp => ?_
  obtain ⟨t, h, q⟩ := hbody A outer s H vs Q E hr hsp
  exact ⟨t, h.nox, q⟩
theorem fnAt_mk {oc : Value} {od : Option Addr} {kV doc pm : Value} {an : Option Addr} {ct : Value} {osl : Array (Option Value)} (m : mg x = some (.ref f)) (l : K.lookup f = some ⟨oc, od, .func (PySem.W.fnOf x x (defArgs st) (defBody st) (defScope st) .none kV doc pm an cd ct), osl⟩)
    (c : PySem.W.codeIn K cd x = true) (kp : PySem.W.keepIn K (.ref f) = true)
    (h : ∀ us : List Value, us.length = ps.length → bindArgs (PySem.W.fnOf x x (defArgs st) (defBody st) (defScope st) .none kV doc pm an cd ct) ⟨us, []⟩ = pure (ps.zip us)) : FnAt K mg x st ps f cd :=
  ⟨⟨oc, od, kV, doc, pm, an, ct, osl, l, c, .all h⟩, kp, m⟩
end
def tCal (sp : Sp) (E : L2.St → XK) (t : TA) : TE := fun σ H Q => t σ H fun vs H1 => sp vs H1 Q (E σ)
section
variable {X : Cx} {k : Nat} {x : Str} {sp : Sp} {p pos : Pos} {e : Expr} {es : List Expr} {t : TA}
theorem pe_cal (c : CalE X.prog X.w X.K X.mg X.base CX0 k x sp) (hr : Room k X.A) (hg : Gl X x) (ha : PA X (e :: es) t) (hdb : (x == ("__debug__" : Str)) = false := by decide)
    (he : starEach (e :: es) X.env = (false, eval e X.env) :: starEach es X.env := by rfl) (hpl : (backTo pos (starEach es X.env)).any (·.1) = false := by rfl) :
    PE X (.Call (.Name x p) (e :: es) [] pos) (tCal sp (fun _ => E0) t) := by
  obtain ⟨f, fd, ps, F, hm, kp, b⟩ := c
  exact pe_callS F hr hg hm kp b (fun _ _ _ _ _ _ _ h => h.elim) ha hdb he hpl
/-- a def that may raise, where it doesn't -/
theorem pe_calL (c : CalE X.prog X.w X.K X.mg X.base (L2.CX X.prog X.w) k x sp) (hr : Room k X.A) (hg : Gl X x) (ha : PA X (e :: es) t) (hdb : (x == ("__debug__" : Str)) = false := by decide)
    (he : starEach (e :: es) X.env = (false, eval e X.env) :: starEach es X.env := by rfl) (hpl : (backTo pos (starEach es X.env)).any (·.1) = false := by rfl) :
    PE X (.Call (.Name x p) (e :: es) [] pos) (tCal sp (fun _ => E0) t) := by
  obtain ⟨f, fd, ps, F, hm, kp, b⟩ := c
  exact pe_callS F hr hg hm kp b (fun _ _ _ _ _ _ _ h => by
    obtain ⟨_, _, _, _, _, _, _, _, _, _, _, _, z⟩ := h
    exact z.elim) ha hdb he hpl
/-- .. in a try, or in a def that lets it out: W is wished of it -/
theorem pe_calS {W : WX} (c : CalE X.prog X.w X.K X.mg X.base (L2.CX X.prog X.w) k x sp) (hr : Room k X.A) (hg : Gl X x) (tk : Takes X W) (ha : PA X (e :: es) t) (hdb : (x == ("__debug__" : Str)) = false := by decide)
    (he : starEach (e :: es) X.env = (false, eval e X.env) :: starEach es X.env := by rfl) (hpl : (backTo pos (starEach es X.env)).any (·.1) = false := by rfl) :
    PE X (.Call (.Name x p) (e :: es) [] pos) (tCal sp (WE W) t) := by
  obtain ⟨f, fd, ps, F, hm, kp, b⟩ := c
  exact pe_callS F hr hg hm kp b (fun σ => passAt tk σ) ha hdb he hpl
/-- f() -/
theorem pe_cal0 (c : CalE X.prog X.w X.K X.mg X.base CX0 k x sp) (hr : Room k X.A) (hg : Gl X x) (hdb : (x == ("__debug__" : Str)) = false := by decide) : PE X (.Call (.Name x p) [] [] pos) (tCal sp (fun _ => E0) tNil) := by
  obtain ⟨f, fd, ps, F, hm, kp, b⟩ := c
  have h := pe_call0 (p := p) (pos := pos) F hr hg hm kp b .nil (pass0 (X := X)) hdb
  exact h
end

/-! ### own errors without __init__ -/
def exBases : List Value := [.type "ValueError", .type "Exception", .type "BaseException", .type "object"]
structure ExcE (K : PySem.W.Frag) (mg : Str → Option Value) (x : Str) (C : Addr) : Prop where
  m : mg x = some (.ref C)
  q : PySem.W.excIn K C exBases "ValueError.__new__" = true
  kp : PySem.W.keepIn K (.ref C) = true
  sb : PySem.W.subIn K (.ref C) (.type "BaseException") = some true
  ty : PySem.W.typeIn K (.ref C) = some (.type "type")
  is : PySem.W.isClsIn K C = true
  self : PySem.W.subIn K (.ref C) (.ref C) = some true
theorem exm_self {K : PySem.W.Frag} {S : Addr} (h1 : PySem.W.subIn K (.ref S) (.type "BaseException") = some true) (h2 : PySem.W.isClsIn K S = true) (h3 : PySem.W.typeIn K (.ref S) = some (.type "type")) (h4 : PySem.W.subIn K (.ref S) (.ref S) = some true) :
    PySem.W.exmOne K (.ref S) (.ref S) = some true := by
  have e1 : (PySem.W.subIn K (.ref S) (.type "BaseException") == some true) = true := by rw [h1] <;> rfl
  have e2 : ((PySem.W.clsIn K S).isSome && PySem.W.typeIn K (.ref S) == some (.type "type")) = true := by
    have h2' : (PySem.W.clsIn K S).isSome = true := h2
    rw [h2', h3] <;> rfl
  show (if (PySem.W.subIn K (.ref S) (.type "BaseException") == some true) = true then (if ((PySem.W.clsIn K S).isSome && PySem.W.typeIn K (.ref S) == some (.type "type")) = true then PySem.W.subIn K (.ref S) (.ref S) else none) else none) = some true
  rw [if_pos e1, if_pos e2]
  exact h4
theorem ExcE.ex {K : PySem.W.Frag} {mg : Str → Option Value} {x : Str} {C : Addr} (h : ExcE K mg x C) : PySem.W.exmOne K (.ref C) (.ref C) = some true := exm_self h.sb h.is h.ty h.self
theorem pmk_own0 {X : Cx} {C : Addr} {x : Str} {p pos : Pos} (h : ExcE X.K X.mg x C) (hg : Gl X x) (hdb : (x == ("__debug__" : Str)) = false := by decide) :
    PMk X (.Call (.Name x p) [] [] pos) (fun _ H Q => Q (.ref C) none H) := by
  intro pins s σ H Q I hq
  refine wpAny_Call_Name_kw (ld_glob I hg h.m ?_ hdb)
  refine PySem.W.callWith_K0 I.kIn h.kp ?_
  show wpAny _ _ (call (.ref C) []) _ _ _
  obtain ⟨bm, N, nm, qn, bs, hdct, sn, sub, ab, col, dd, k0, k1, k2, k3, k5, mN, hC, hN, hni, T⟩ := exc_obj I.kIn h.q
  refine wpAny_call_exc_subT PySem.F.excBase_ValueError T hC hN hni (fun h' e hm => ?_) (Nat.zero_le _)
  exact mk_of I hm (raises_own h.sb h.ty) hq (I.hok.gone hm.new)

/-! ### heaps: the tables tb may grow, what stands at ch may change, all else that was tracked stands -/
def Tabs (tb : List Addr) (H : Hp) : Prop := ∀ b ∈ tb, GxR.TabG H b
structure Ext (tb ch : List Addr) (H H' : Hp) : Prop where
  keep : ∀ b o, b ∉ tb → b ∉ ch → H b = some o → H' b = some o
  tabs : Tabs tb H → Tabs tb H'
section
variable {tb ch : List Addr} {H H1 H2 H3 : Hp} {a b p : Addr} {o : HO} {K : PySem.W.Frag} {xs : List V}
theorem Ext.refl : Ext tb ch H H := ⟨fun _ _ _ _ h => h, fun h => h⟩
theorem Ext.trans (h : Ext tb ch H H1) (g : Ext tb ch H1 H2) : Ext tb ch H H2 := ⟨fun b o h1 h2 e => g.keep b o h1 h2 (h.keep b o h1 h2 e), fun t => g.tabs (h.tabs t)⟩
theorem Ext.wide {ch' : List Addr} (h : Ext tb ch H H1) (w : ∀ b ∈ ch, b ∈ ch') : Ext tb ch' H H1 := ⟨fun b o h1 h2 e => h.keep b o h1 (fun z => h2 (w b z)) e, h.tabs⟩
theorem Ext.of0 {ch' : List Addr} (h : Ext tb [] H H1) : Ext tb ch' H H1 := h.wide fun _ z => (by cases z)
theorem Tabs.ne (t : Tabs tb H) (h : H p = none) : p ∉ tb := fun z => by
  obtain ⟨ps, e, _⟩ := t p z
  rw [h] at e
  cases e
theorem TabG.upd {c : Addr} (h : GxR.TabG H c) (hp : p ≠ c) : GxR.TabG (upd H p o) c := by
  obtain ⟨ps, e, q⟩ := h
  exact ⟨ps, by rw [upd_ne (Ne.symm hp)]; exact e, q⟩
theorem Tabs.upd (t : Tabs tb H) (hp : p ∉ tb) : Tabs tb (upd H p o) := fun b hb => TabG.upd (t b hb) fun z => hp (by rw [z]; exact hb)
/-- a new object -/
theorem Ext.new (t : Tabs tb H) (h : H p = none) : Ext tb ch H (upd H p o) :=
  ⟨fun b u _ _ e => by rw [upd_ne (ne_of_none e h)]; exact e, fun _ => t.upd (t.ne h)⟩
/-- what stands at a changed place is changed -/
theorem Ext.mut (hp : p ∈ ch) (nt : p ∉ tb) : Ext tb ch H (upd H p o) :=
  ⟨fun b u _ h2 e => by rw [upd_ne (fun z => h2 (by rw [z]; exact hp))]; exact e, fun t => t.upd nt⟩
/-- what came new may be changed -/
theorem Ext.own (t : Tabs tb H) (h : Ext tb ch H H1) (hp : H p = none) : Ext tb ch H (upd H1 p o) :=
  ⟨fun b u h1 h2 e => by rw [upd_ne (ne_of_none e hp)]; exact h.keep b u h1 h2 e, fun _ => (h.tabs t).upd (t.ne hp)⟩
theorem Ext.tabbed (h : GxR.Tabbed p H H1) (hp : p ∈ tb) : Ext tb ch H H1 :=
  ⟨fun b u h1 _ e => by rw [h.2 b (fun z => h1 (by rw [z]; exact hp))]; exact e, fun t b hb => by
    by_cases e : b = p
    · rw [e]
      exact h.1
    · obtain ⟨ps, e1, e2⟩ := t b hb
      exact ⟨ps, by rw [h.2 b e]; exact e1, e2⟩⟩
theorem Ext.free (h : Ext tb ch H H1) (t : Tabs tb H) (hp : H1 p = none) (hc : p ∉ ch) : H p = none := by
  cases e : H p with
  | none => rfl
  | some u =>
    by_cases hb : p ∈ tb
    · exact absurd hp (fun z => by
        obtain ⟨ps, e1, _⟩ := h.tabs t p hb
        rw [z] at e1
        cases e1)
    · rw [h.keep p u hb hc e] at hp
      cases hp
theorem ne_tab (t : Tabs tb H) (e : H a = some o) (ho : ∀ ps, o ≠ .tbl ps) : a ∉ tb := fun z => by
  obtain ⟨ps, e1, _⟩ := t a z
  rw [e] at e1
  exact ho ps (Option.some.inj e1)
theorem Ext.rd (h : Ext tb ch H H1) (t : Tabs tb H) {u : HO} (hu : (∃ xs, u = .lst xs) ∨ ∃ xs, u = .tup xs) (r : Rd H a u) (hc : a ∉ ch) : Rd H1 a u := by
  rcases r with r | ⟨oo, r⟩
  · exact .inl (h.keep _ _ (ne_tab t r fun ps z => by rcases hu with ⟨xs, rfl⟩ | ⟨xs, rfl⟩ <;> cases z) hc r)
  · exact .inr ⟨oo, h.keep _ _ (ne_tab t r fun ps z => by cases z) hc r⟩
theorem Ext.sqL (h : Ext tb ch H H1) (t : Tabs tb H) (s : SqL K H a xs) (hc : a ∉ ch) : SqL K H1 a xs := by
  rcases s with s | s
  · exact .inl (h.rd t (.inl ⟨_, rfl⟩) s hc)
  · exact .inr s
theorem Ext.sqT (h : Ext tb ch H H1) (t : Tabs tb H) (s : SqT K H a xs) (hc : a ∉ ch) : SqT K H1 a xs := by
  rcases s with s | s
  · exact .inl (h.rd t (.inr ⟨_, rfl⟩) s hc)
  · exact .inr s
theorem Ext.lst (h : Ext tb ch H H1) (t : Tabs tb H) (e : H a = some (.lst xs)) (hc : a ∉ ch) : H1 a = some (.lst xs) := h.keep _ _ (ne_tab t e fun ps z => by cases z) hc e
theorem Ext.tup (h : Ext tb ch H H1) (t : Tabs tb H) (e : H a = some (.tup xs)) (hc : a ∉ ch) : H1 a = some (.tup xs) := h.keep _ _ (ne_tab t e fun ps z => by cases z) hc e
theorem Ext.dK {kvs : List (Key × V)} (h : Ext tb ch H H1) (t : Tabs tb H) (e : H a = some (.dK kvs)) (hc : a ∉ ch) : H1 a = some (.dK kvs) := h.keep _ _ (ne_tab t e fun ps z => by cases z) hc e
end

/-! ### the end: a law whose defs have tables -/
/-- what is known of a def's code object and its table -/
def TabAt (K : PySem.W.Frag) (mg : Str → Option Value) (h : Heap) (q : Program) : Prop := ∀ (nm : Str) (f c P : Addr) (o : Obj) (fd : FuncData) (e : Value) (dd : Option Addr) (vs : Array Value) (sl : Array (Option Value)),
  ((recsOf q).any fun e => e.name == nm) = true → mg nm = some (.ref f) → K.lookup f = some o → o.data = .func fd → fd.code = .ref c → K.lookup c = some ⟨e, dd, .fields vs, sl⟩ → vs[11]? = some (.ref P) →
  PySem.W.CodeHd h c P ∧ h.get? P = some { cls := .none, data := .fields #[] }
theorem walk_tabs {l : PySem.W.OpenLaw} {n k : Nat} {q : Program} {loose : List Str} {XP : (Str → Option Value) → Heap → Prop} {YP : World → Heap → Prop} {d : DefRec} {K : Params → PySem.W.Frag} {CX : World → CXT} {x : Str}
    (hn : l.most = some n) (hn2 : n ≤ sizeLine) (hdf : d.params.defaults = []) (hr : Room k callerA) (hY : ∀ (w : World) (h : Heap), YP w h → (K w.params).In h)
    (F : ∀ (w : World) (mg : Str → Option Value) (fa : Addr) (h : Heap), YP w h → (K w.params).In h → h.Ns mainGlobals mg → mg d.name = some (.ref fa) → TabAt (K w.params) mg h q → LamX.LawAtS l w (K w.params) (CX w) k n x mg fa h)
    (hCX : ∀ (w : World) (H : Hp) (s : Shared) (e : Value) (s' : Shared), CX w [] H s (fun _ _ _ => False) e s' → False) :
    PySem.W.WalkO q loose XP YP l.row.toRowW d [] (fun f vs => PySem.call f vs) := by
  refine Att.attach_callB hn hdf fun w s₀ s₁ mg mb fa o pm cd doc a vs ns G Y ho hd hcd hmg hobj hints hlen hbits hg => ?_
  have KX := hY w _ Y
  have tabs : TabAt (K w.params) mg s₁.heap q := fun nm f c P o1 fd1 e dd vs1 sl hrec hm k1 k2 k3 k4 k5 => by
    obtain ⟨dL, hm1, hn1⟩ := List.any_eq_true.mp hrec
    have hn2 : dL.name = nm := beq_iff_eq.mp hn1
    obtain ⟨a', o', fd', c', P', h1, h2, h3, h4, h5, h6⟩ := G.T.tab dL hm1
    rw [hn2, hm] at h1
    cases h1
    have g1 := KX _ _ k1
    rw [g1] at h2
    cases h2
    rw [k2] at h3
    cases h3
    rw [k3] at h4
    cases h4
    have hd := PySem.W.CodeHd.of h5 h6
    obtain ⟨⟨oc, vc, e1, _, e3, e4⟩, hP⟩ := h6
    have g2 := KX _ _ k4
    rw [g2] at e1
    cases e1
    cases e3
    rw [k5] at e4
    cases e4
    exact ⟨hd, hP⟩
  obtain ⟨fd, cs, sp, hT, nT, C, hb, hsp, hF⟩ := F w mg fa _ Y KX G.T.g hmg tabs
  exact LamX.law_callTs KX G.T.g G.T.b G.T.builtins G.T.nolimit hg hT nT C G.T.bmain hobj hints (Nat.le_trans hlen hn2) hr hF hb (fun H hH hS => hsp H a ns hlen hbits hH hS) fun H e s' => hCX w H s₁ e s'

/-! ### isinstance; all over a generator expression -/
theorem isi {K : PySem.W.Frag} {H : Hp} {x : V} {t n : String} {b : Bool} {Q : VK} (ty : TyX K H x (.type t)) (hk : kitB t n = some b) (q : Q (.bl b) H) : rIsi K [x, .ty n] H Q :=
  ⟨x, .ty n, .type t, .type n, b, rfl, .ty n, ty, kit_ty hk, q⟩
def trV {α : Type} (f : α → Bool) (l : List α) (i : Nat) : Bool := match l[i]? with
  | some b => f b
  | none => false
theorem trV_some {α : Type} {f : α → Bool} {l : List α} {i : Nat} {b : α} (h : l[i]? = some b) : trV f l i = f b := by
  unfold trV
  rw [h]
theorem all_trV {α : Type} (f : α → Bool) (l : List α) : (List.range l.length).all (trV f l) = l.all f := by
  rw [Bool.eq_iff_iff, List.all_eq_true, List.all_eq_true]
  constructor
  · intro h b hb
    obtain ⟨j, hj, e⟩ := List.getElem_of_mem hb
    have q := h j (List.mem_range.mpr hj)
    rw [trV_some (List.getElem?_eq_getElem hj), e] at q
    exact q
  · intro h j hj
    have hj' := List.mem_range.mp hj
    rw [trV_some (List.getElem?_eq_getElem hj')]
    exact h _ (List.getElem_mem hj')
theorem allG_by {J : It} {N : List Str} {g : TG} {te : TE} {Q : VK} {H2 : Hp} (len : Nat) (pb : Nat → Bool) (Pv : Hp → Prop) (h0 : Pv H2) (hstop : ∀ H, Pv H → J.stop len H) (hgo : ∀ i H, i < len → Pv H → J.go i H)
    (hstep : ∀ i H x H', i < len → Pv H → J.yld i H x H' → ∀ R : VK, (∀ H3, Pv H3 → R (.bl (pb i)) H3) → g x (GX.tau0 N) H' fun τ2 H2 => te τ2 H2 R)
    (hq : ∀ H b, Pv H → b = (List.range len).all pb → Q (.bl b) H) :
    ∃ (len : Nat) (W : Nat → Hp → Prop), W 0 H2 ∧ ∀ i H, W i H → i ≤ len ∧ ((J.stop i H ∧ Q (.bl true) H) ∨ (i < len ∧ J.go i H ∧ ∀ x H', J.yld i H x H' → g x (GX.tau0 N) H' fun τ2 H2 => te τ2 H2 fun y H3 => ∃ b, y = .bl b ∧ if b = true then W (i + 1) H3 else Q (.bl false) H3)) := by
  refine ⟨len, fun i H => i ≤ len ∧ Pv H ∧ ∀ j, j < i → pb j = true, ⟨Nat.zero_le _, h0, fun j hj => absurd hj (Nat.not_lt_zero _)⟩, ?_⟩
  rintro i H ⟨hi, hp, hj⟩
  refine ⟨hi, ?_⟩
  by_cases e : i < len
  · refine .inr ⟨e, hgo i H e hp, fun x H' hy => hstep i H x H' e hp hy _ fun H3 hp3 => ⟨pb i, rfl, ?_⟩⟩
    cases hb : pb i with
    | true =>
      refine iteT ⟨e, hp3, fun j hj' => ?_⟩
      rcases Nat.lt_or_ge j i with z | z
      · exact hj j z
      · have : j = i := by omega
        rw [this]
        exact hb
    | false =>
      refine iteF (hq H3 false hp3 ?_)
      symm
      rw [List.all_eq_false]
      exact ⟨i, List.mem_range.mpr e, by rw [hb]; exact Bool.false_ne_true⟩
  · have : i = len := by omega
    subst this
    refine .inl ⟨hstop H hp, hq H true hp ?_⟩
    symm
    rw [List.all_eq_true]
    exact fun j hj' => hj j (List.mem_range.mp hj')
theorem line_of {n : Nat} (h : n ≤ 100000) : n ≤ sizeLine := Nat.le_trans h (by decide)
theorem line_lt {n : Nat} (h : n ≤ 100000) : n < sizeLine := Nat.lt_of_le_of_lt h (by decide)

/-! ### data of ints, of texts -/
theorem dp_ints {K : PySem.W.Frag} {H : Hp} : ∀ ns : List Int, DpAll K H (ns.map V.int) (ns.map PyData.int)
  | [] => .nil
  | n :: r => .cons (.int n) (dp_ints r)
theorem dp_strs {K : PySem.W.Frag} {H : Hp} : ∀ ns : List Str, DpAll K H (ns.map V.str) (ns.map PyData.str)
  | [] => .nil
  | n :: r => .cons (.str n) (dp_strs r)
theorem canAll_ints : ∀ ns : List Int, PyData.canLayAll0 (ns.map PyData.int) = true
  | [] => rfl
  | n :: r => by
    show (PyData.canLay0 (.int n) && PyData.canLayAll0 (r.map PyData.int)) = true
    rw [canAll_ints r] <;> rfl
theorem depAll_ints : ∀ ns : List Int, PyData.depthAll (ns.map PyData.int) = 0
  | [] => rfl
  | n :: r => by
    show max (PyData.depth (.int n)) (PyData.depthAll (r.map PyData.int)) = 0
    rw [depAll_ints r] <;> rfl
theorem sh_ints (ns : List Int) : SeqAt.shaped (.list (ns.map PyData.int)) = true := by
  have h1 : PyData.canLay0 (.list (ns.map PyData.int)) = true := canAll_ints ns
  have h2 : PyData.depth (.list (ns.map PyData.int)) = 1 := by
    show PyData.depthAll (ns.map PyData.int) + 1 = 1
    rw [depAll_ints]
  unfold SeqAt.shaped
  rw [h1, h2] <;> rfl
theorem canAll_strs : ∀ ns : List Str, (∀ s ∈ ns, PyData.canLay0 (.str s) = true) → PyData.canLayAll0 (ns.map PyData.str) = true
  | [], _ => rfl
  | n :: r, h => by
    show (PyData.canLay0 (.str n) && PyData.canLayAll0 (r.map PyData.str)) = true
    rw [canAll_strs r fun s hs => h s (List.mem_cons_of_mem _ hs), h n (List.mem_cons_self ..)] <;> rfl
theorem depAll_strs : ∀ ns : List Str, PyData.depthAll (ns.map PyData.str) = 0
  | [] => rfl
  | n :: r => by
    show max (PyData.depth (.str n)) (PyData.depthAll (r.map PyData.str)) = 0
    rw [depAll_strs r] <;> rfl
theorem sh_tstrs {ns : List Str} (h : ∀ s ∈ ns, PyData.canLay0 (.str s) = true) : SeqAt.shaped (.tuple (ns.map PyData.str)) = true := by
  have h1 : PyData.canLay0 (.tuple (ns.map PyData.str)) = true := canAll_strs ns h
  have h2 : PyData.depth (.tuple (ns.map PyData.str)) = 1 := by
    show PyData.depthAll (ns.map PyData.str) + 1 = 1
    rw [depAll_strs]
  unfold SeqAt.shaped
  rw [h1, h2] <;> rfl

/-! ### the layer's rules, the written part told (a comprehension's frame has another context) -/
section
variable {X : Cx} {K : PySem.W.Frag} {tg : Expr} {e : Expr} {te : TE}
theorem q_isi (h : X.K = K) : CallR X (.builtin "isinstance") (rIsi K) := h ▸ call_isi
def rLenK (K : PySem.W.Frag) : List V → Hp → VK → Prop := fun xs H Q => ∃ x n, xs = [x] ∧ LenV K x H n ∧ Q (.int n) H
theorem q_len (h : X.K = K) : CallR X (.builtin "len") (rLenK K) := h ▸ call_len
def rTupK (K : PySem.W.Frag) : List V → Hp → VK → Prop := fun xs H Q => ∃ p ys, xs = [.ref p] ∧ ((SqL K H p ys ∧ ∀ l, H l = none → Q (.ref l) (upd H l (.tup ys))) ∨ (SqT K H p ys ∧ Q (.ref p) H))
theorem q_tup (h : X.K = K) : CallR X (.type "tuple") (rTupK K) := h ▸ call_tuple_of
def rLstK (K : PySem.W.Frag) : List V → Hp → VK → Prop := fun xs H Q => ∃ p ys, xs = [.ref p] ∧ (SqL K H p ys ∨ SqT K H p ys) ∧ ∀ l, H l = none → Q (.ref l) (upd H l (.lst ys))
theorem q_lst (h : X.K = K) : CallR X (.type "list") (rLstK K) := h ▸ call_list_of
theorem q_all (h : X.K = K) (hc : X.calm = true) : CallR X (.builtin "all") (rAll K) := h ▸ cr_all hc
theorem q_any (h : X.K = K) (hc : X.calm = true) : CallR X (.builtin "any") (rAny K) := h ▸ cr_any hc
theorem q_sum (h : X.K = K) (hc : X.calm = true) : CallR X (.builtin "sum") (rSum K) := h ▸ cr_sum hc
theorem q_ixL (h : X.K = K) : IxR X (rIxL K) := h ▸ ix_list
theorem q_ixT (h : X.K = K) : IxR X (rIxT K) := h ▸ ix_tup
theorem q_slL (h : X.K = K) : SlR X (rSlL K) := h ▸ sl_list
theorem q_slT (h : X.K = K) : SlR X (rSlA K) := h ▸ sl_tupA
theorem q_in (h : X.K = K) : OpR X (compareOp .In) (rIn K false) := h ▸ op_in_seq
theorem q_nin (h : X.K = K) : OpR X (compareOp .NotIn) (rIn K true) := h ▸ op_notIn_seq
theorem q_eqD (h : X.K = K) (hu : X.A.units + 64 < cLine) : OpR X (compareOp .Eq) (rEqD K) := h ▸ op_eqD hu
theorem q_neD (h : X.K = K) (hu : X.A.units + 64 < cLine) : OpR X (compareOp .NotEq) (rNeD K) := h ▸ op_neD hu
theorem q_catT (h : X.K = K) : OpR X (binaryOp .Add) (rCatA K) := h ▸ op_catA
theorem q_piL (h : X.K = K) (hl : PE X e te) : PI X tg e (iList K te) := h ▸ pi_list hl
theorem q_piT (h : X.K = K) (hl : PE X e te) : PI X tg e (iTup K te) := h ▸ pi_tup hl
theorem q_bm {T id : String} {name : Str} {o : Expr} {es : List Expr} {to : TE} {t : TA} {r : V → List V → Hp → VK → Prop} {apos cpos : Pos} (h : X.K = K) (pa : PlainAttrs T) (slot : Slot T name id) (hty : typeOf (.builtin id) = pure (.type "method_descriptor")) (hm : MtR X id r) (ho : PE X o to) (ha : PA X (e :: es) t)
    (hbase : attributeBase o name X.env (eval o X.env) = eval o X.env := by rfl)
    (hfew : ((backTo cpos (starEach (e :: es) X.env)).all (fun x => !x.1) && (backToKw cpos (keywordEach [] X.env)).all (fun x => x.1.isSome)
      && decide ((e :: es).length + ([] : List Keyword).length + (if ([] : List Keyword).isEmpty then 0 else 1) < 30)) = true := by rfl)
    (hline : (apos.endLine == cpos.line) = true := by rfl) (hs : starEach (e :: es) X.env = (false, eval e X.env) :: starEach es X.env := by rfl) (hplain : (backTo cpos (starEach es X.env)).any (·.1) = false := by rfl) :
    PE X (.Call (.Attribute o name apos) (e :: es) [] cpos) (tBM K T r to t) := h ▸ pe_bm pa slot hty hm ho ha hbase hfew hline hs hplain
theorem q_join {o : Expr} {to : TE} {apos pos : Pos} (h : X.K = K) (ho : PE X o to) (he : PE X e te) (hs : starEach [e] X.env = [(false, eval e X.env)] := by rfl) (hbase : attributeBase o "join" X.env (eval o X.env) = eval o X.env := by rfl) (hline : (apos.endLine == pos.line) = true := by rfl) :
    PE X (.Call (.Attribute o "join" apos) [e] [] pos) (tM1 (fun x xs H Q => ∃ a p, ∃ ys : List Str, x = .str a ∧ xs = [.ref p] ∧ (SqL K H p (ys.map V.str) ∨ SqT K H p (ys.map V.str)) ∧
    (ys.map (·.length)).sum + ys.length * a.length ≤ 16777216 ∧ Q (.str (Txt.join a ys)) H) to te) := h ▸ pe_join ho he hs hbase hline
end

/-- what the end asks, from the promise of the law -/
theorem law_at {l : PySem.W.OpenLaw} {w : World} {K : PySem.W.Frag} {mg : Str → Option Value} {h : Heap} {q : Program} {k n : Nat} {x nm : Str} {st : Stmt} {f fa : Addr} {cd : Value} {sp : Sp} {cs : List (Addr × Addr)}
    (hf : mg nm = some (.ref fa)) (F : FnAt K mg nm st [x] f cd) (hcs : ∀ p ∈ cs, PySem.W.CodeHd h p.1 p.2 ∧ h.get? p.2 = some { cls := .none, data := .fields #[] } ∧ K.lookup p.2 = none)
    (hb : ∀ (kV doc pm : Value) (an : Option Addr) (ct : Value) (s : Shared) (u : Value), BindsTo s (PySem.W.fnOf nm nm (defArgs st) (defBody st) (defScope st) .none kV doc pm an cd ct) ⟨[u], []⟩ [(x, u)])
    (hsp : ∀ (H : Hp) (a : Addr) (ns : List Int), ns.length ≤ n → (∀ z ∈ ns, Builtin.Int.intBits z ≤ 1048576) → Tabs (cs.map (·.2)) H → SqL K H a (ns.map V.int) → sp [.ref a] H (fun v _ => v = .bl true) fun _ _ _ => False)
    (hF : ∀ base : Heap, K.In base → base.Ns mainGlobals mg → (∀ p ∈ cs, LamX.TabB base mg p.1 p.2) → FnG l.prog w K mg base CX0 k nm st [x] f cd sp) : LamX.LawAtS l w K CX0 k n x mg fa h := by
  obtain ⟨oc, od, kV, doc, pm, an, ct, osl, lk, hcd, _⟩ := F.ex
  have e := hf.symm.trans F.mgf
  cases e
  refine ⟨PySem.W.fnOf nm nm (defArgs st) (defBody st) (defScope st) .none kV doc pm an cd ct, cs, sp, fun p hp => (hcs p hp).2.1, fun p hp => (hcs p hp).2.2, fun p hp => (hcs p hp).1, hb kV doc pm an ct, fun H a ns h1 h2 h3 h4 => ?_, fun base hK hN hT => hF base hK hN hT oc od kV doc pm an ct osl lk hcd⟩
  refine hsp H a ns h1 h2 (fun b hb => ?_) h4
  obtain ⟨p, hp, e⟩ := List.mem_map.mp hb
  rw [← e]
  refine ⟨#[], h3 p hp, ?_⟩
  first
    | trivial
    | simp [TriplesOk]
end HK

set_option Elab.async false
set_option linter.all false
set_option maxRecDepth 100000
set_option maxHeartbeats 1000000
/-! sep.join(reversed(a list of texts)) -/
namespace RJ
open PySem PySem.Spec PyProof.Rows
section
variable {prog : Program} {w : World} {A : Around} {E : Value → Shared → Prop} {s : Shared}
theorem join_rev {x : Str} {t : Tok} {ys : List Str} {it l : Addr} {items : Array Value} {Q : Value → Shared → Prop} (hh : A.handled = none) (hit : s.heap.IsRevIter it l ((items.size : Int) - 1)) (hl : s.heap.IsList l items) (hne : l ≠ it) (hn : items.size ≤ sizeLine)
    (hP : ∀ acc : Array Value, ItemsOf (fun i v => items[items.size - 1 - i]? = some v) acc items.size → StrsAre acc.toList ys) (hok : (ys.map (·.length)).sum + ys.length * x.length ≤ 16777216)
    (hq : ∀ (h' : Heap) (tk : Nat), (∀ b o, b ≠ it → s.heap.get? b = some o → h'.get? b = some o) → ∀ t', Q (.str (Txt.join x ys) t') { s with heap := h', toks := tk }) :
    wpAny (model prog w) A (call (.builtin "str.join") [.str x t, .ref it]) Q E s := by
  refine wpAny_call (codeAny_call_builtin F.slot_str_join.plain F.entry_str_join (F.slot_str_join.check _ _ _ _ _ _ _ _ (typeIs_str _ _ _) (F.args_str_join_2 _ _) ?_))
  rw [join_tree_other]
  refine wpAny_bind (wpAny_typeOf hit.typeIs ?_)
  show wpAny _ A.in1 ((pyIter (.ref it)).tryCatch _ >>= fun it => collect it >>= fun items => joinTail x items) _ _ s
  refine wpAny_bind (wpAny_tryCatch (wpAny_pyIter_revIter hit ?_))
  refine wpAny_bind (RT.collect_rev (A := A.in1) hh hit hl hne hn fun h' tk acc hk hacc => ?_)
  obtain ⟨ll, hl', ht⟩ := strsAre_values (hP acc hacc)
  subst ht
  rw [hl']
  have hok' := joinOk_of hok
  unfold JoinOk at hok'
  rw [Bool.not_eq_true'] at hok'
  have g : Gives (joinTail x (strValues ll)) (joinMade x ll) := by
    have g0 := gives_joinTail x ll hok'
    cases ll with
    | nil => exact g0
    | cons p r => cases r with
      | nil => exact g0
      | cons q r' => exact g0
  exact g prog w A (wants Q E) _ (post_join ll ⟨joinFit_length hok', fun t' k => hq h' k hk t'⟩)
end
open L2
def tJoinRev (K : PySem.W.Frag) (to te : TE) : TE := fun σ H Q => to σ H fun x H1 => (∃ a, x = .str a) ∧ te σ H1 fun y H2 => ∃ (a : Str) (q : Addr) (ys : List Str),
  x = .str a ∧ y = .ref q ∧ SqL K H2 q (ys.map V.str) ∧ (ys.map (·.length)).sum + ys.length * a.length ≤ 16777216 ∧ Q (.str (Txt.join a ys.reverse)) H2
theorem strs_of : ∀ {ys : List Str} {us : List Value}, Vals (ys.map V.str) us → StrsAre us ys
  | [], _, .nil => .nil
  | y :: ys, _, .cons (⟨t, rfl⟩) tl => .cons y t (strs_of tl)
section
variable {X : Cx}
theorem pe_joinRev {o e : Expr} {to te : TE} {apos pos p2 pos2 : Pos} (hc : X.calm = true) (ho : PE X o to) (hg2 : Gl X "reversed") (hm2 : X.mg "reversed" = none) (he : PE X e te)
    (hs : starEach [e] X.env = (false, eval e X.env) :: starEach [] X.env := by rfl)
    (hs1 : starEach [.Call (.Name "reversed" p2) [e] [] pos2] X.env = [(false, eval (.Call (.Name "reversed" p2) [e] [] pos2) X.env)] := by rfl)
    (hbase : attributeBase o "join" X.env (eval o X.env) = eval o X.env := by rfl) (hline : (apos.endLine == pos.line) = true := by rfl) :
    PE X (.Call (.Attribute o "join" apos) [.Call (.Name "reversed" p2) [e] [] pos2] [] pos) (tJoinRev X.K to te) := by
  refine ⟨fun pins s σ H Q I h => ?_⟩
  refine PySem.Call_method1 hbase hs1 hline (thn (ho.run pins s σ H _ I h) fun v s1 ⟨x, H1, I1, r1, q1⟩ => ?_)
  obtain ⟨⟨a, rfl⟩, q1⟩ := q1
  obtain ⟨t, rfl⟩ := _root_.id r1
  refine ⟨"str", _, F.plainAttrs_str, F.slot_str_join, F.type_str_join, typeIs_str _ _ _, (fun _ e => nomatch e), Calls.callWith_builtin rfl (Calls.evalArgs_plain (Calls.spliced_cons ?_))⟩
  refine Call_ (ld_blt I1 hg2 hm2 PyProof.Rows.boot_reversed (PyProof.Rows.callWith_type1 (args_cons (thn (he.run pins s1 σ H1 _ I1 q1) fun u s2 ⟨y, H2, I2, r2, q2⟩ => args_nil ?_) hs) hs rfl))
  obtain ⟨a', q, ys, ea, rfl, hq, hz, q3⟩ := q2
  cases ea
  obtain rfl : u = Value.ref q := r2
  obtain ⟨its, rv, p', hsz⟩ := I2.list hq
  refine call_reversed_list p'.isList (Calls.spliced_nil ?_)
  have k0 : ∀ b o, s2.heap.get? b = some o → (s2.heap.push (revObj q ((its.toArray.size : Int) - 1))).get? b = some o := fun b o e => Heap.get?_push_of_some _ e
  have I3 : Inv X pins σ H2 { s2 with heap := s2.heap.push (revObj q ((its.toArray.size : Int) - 1)) } := I2.kept (t' := s2.toks) k0
  obtain ⟨f0, f1, f2, f3, f4, f5⟩ := I2.fpOk (H' := H2) (b := s2.heap.objs.size) (Nat.le_refl _) (I2.hok.fresh (Nat.le_refl _))
  have hl := p'.isList
  obtain ⟨ol, hol, _⟩ := id hl
  have hne : q ≠ s2.heap.objs.size := Nat.ne_of_lt (Heap.lt_size hol)
  have hn : its.toArray.size ≤ sizeLine := by rw [List.size_toArray, ← rv.length]; exact hsz
  refine join_rev (s := { s2 with heap := s2.heap.push (revObj q ((its.toArray.size : Int) - 1)) }) (ys := ys.reverse) (I2.ok.hd hc) ⟨_, Heap.get?_push_size _ rfl, rfl, rfl⟩ (hl.push _) hne hn (fun acc hacc => ?_) ?_ fun h' tk hk t' => ?_
  · have := RT.vals_rev rv hacc
    rw [← List.map_reverse] at this
    exact strs_of this
  · rw [List.map_reverse, List.sum_reverse, List.length_reverse]
    exact hz
  · exact ⟨.str _, H2, I3.turned (t' := tk) (fun b o hb e => hk b o hb e) f0 f1 f3 f4 f5, ⟨t', rfl⟩, q3⟩
theorem q_joinRev {K : PySem.W.Frag} {o e : Expr} {to te : TE} {apos pos p2 pos2 : Pos} (hK : X.K = K) (hc : X.calm = true) (ho : PE X o to) (hg2 : Gl X "reversed") (hm2 : X.mg "reversed" = none) (he : PE X e te)
    (hs : starEach [e] X.env = (false, eval e X.env) :: starEach [] X.env := by rfl)
    (hs1 : starEach [.Call (.Name "reversed" p2) [e] [] pos2] X.env = [(false, eval (.Call (.Name "reversed" p2) [e] [] pos2) X.env)] := by rfl)
    (hbase : attributeBase o "join" X.env (eval o X.env) = eval o X.env := by rfl) (hline : (apos.endLine == pos.line) = true := by rfl) :
    PE X (.Call (.Attribute o "join" apos) [.Call (.Name "reversed" p2) [e] [] pos2] [] pos) (tJoinRev K to te) := hK ▸ pe_joinRev hc ho hg2 hm2 he hs hs1 hbase hline
end
/-! x *= y, ints -/
def ipM : TIp := fun x y H Q => ∃ i j, x = .int i ∧ y = .int j ∧ CMul i j ∧ Q (.int (i * j)) H
theorem ip_mul {X : Cx} : PIp X .Mult ipM := by
  intro pins s σ H x y v u Q I r1 r2 h
  obtain ⟨i, j, e1, e2, hc, q⟩ := h
  subst e1; subst e2
  obtain ⟨t, rfl⟩ := r1
  obtain ⟨t', rfl⟩ := r2
  exact imul_int ⟨.int _, H, I.tok _, ⟨_, rfl⟩, q⟩ hc.ok
/-! zip of two lists or two tuples, K told -/
theorem q_zipA {X : Cx} {K : PySem.W.Frag} {e e2 : Expr} {ta : TA} {p pos tpos : Pos} {elts : List Expr} {kk : Nat} (hK : X.K = K) (hg : Gl X "zip") (hm : X.mg "zip" = none) (ha : PA X [e, e2] ta)
    (hs : starEach [e, e2] X.env = (false, eval e X.env) :: starEach [e2] X.env := by rfl) (hpl : (backTo pos (starEach [e2] X.env)).any (·.1) = false := by rfl) :
    PI X (.Tuple elts kk tpos) (.Call (.Name "zip" p) [e, e2] [] pos) (RZ.iZipA K ta) := hK ▸ RZ.pi_zipA hg hm ha hs hpl
theorem q_pgT {X : Cx} {K : PySem.W.Frag} {es : List Expr} {k : Nat} {t : TGs} {n : Nat} {pos : Pos} (hK : X.K = K) (hc : X.calm = true) (h : PGs X es t)
    (hn : (assignEach es X.env).length = n := by rfl) (hst : (assignEach es X.env).findIdx? (·.1) = none := by rfl) : PG X (.Tuple es k pos) (gTup K n t) := hK ▸ pg_tup hc h hn hst
end RJ

set_option Elab.async false
set_option linter.all false
set_option maxRecDepth 100000
set_option maxHeartbeats 2000000
/-! a tuple's slice with a step other than 1: t[a:b:c] -/
namespace SL
open PySem PySem.Spec PyProof.Rows L2 HT
/-- the items of xs[lo:hi:st] -/
def pick {α : Type} (xs : List α) (lo hi : Option Int) (st : Int) : List α :=
  (List.range (Builtin.Slice.slicePlaces (Builtin.Slice.sliceAdjust lo hi st (xs.length : Int)).1 (Builtin.Slice.sliceAdjust lo hi st (xs.length : Int)).2 st)).filterMap fun (m : Nat) => xs[((Builtin.Slice.sliceAdjust lo hi st (xs.length : Int)).1 + (m : Int) * st).toNat]?
section
variable {prog : Program} {w : World} {A : Around} {E : Value → Shared → Prop} {s : Shared}
theorem applied {sl : Addr} {vl vu vs : Value} {lo hi : Option Int} {st : Int} {n : Nat} {Q : Int × Int × Nat → Shared → Prop} (hs : s.heap.IsSliceOf sl vl vu vs) (pl : IsPart vl lo) (pu : IsPart vu hi) (ps : IsPart vs (some st)) (h0 : st ≠ 0)
    (h : Q ((Builtin.Slice.sliceAdjust lo hi st (n : Int)).1, st, Builtin.Slice.slicePlaces (Builtin.Slice.sliceAdjust lo hi st (n : Int)).1 (Builtin.Slice.sliceAdjust lo hi st (n : Int)).2 st) s) : wpAny (model prog w) A (Builtin.Slice.sliceApplied (.ref sl) (pure (n : Int))) Q E s := by
  obtain ⟨os, hos, hcs, hds⟩ := id hs
  unfold Builtin.Slice.sliceApplied Builtin.Slice.sliceFields
  refine wpAny_bind (wpAny_bind (wpAny_field hos hds (x := vl) rfl (wpAny_bind (wpAny_field hos hds (x := vu) rfl (wpAny_bind (wpAny_field hos hds (x := vs) rfl (wpAny_pure ?_)))))))
  refine wpAny_bind (slicePart_ ps ?_)
  show wpAny _ _ (if (st == 0) = true then _ else _) _ _ s
  rw [if_neg (by simpa using h0)]
  refine wpAny_bind (slicePart_ pl (wpAny_bind (slicePart_ pu (wpAny_bind (wpAny_pure ?_)))))
  exact wpAny_pure h
theorem pick_size (xs : List Value) (lo hi : Option Int) (st : Int) : (pick xs lo hi st).length ≤ Builtin.Slice.slicePlaces (Builtin.Slice.sliceAdjust lo hi st (xs.length : Int)).1 (Builtin.Slice.sliceAdjust lo hi st (xs.length : Int)).2 st := by
  unfold pick
  refine Nat.le_trans (List.length_filterMap_le _ _) ?_
  rw [List.length_range]
  exact Nat.le_refl _
theorem getItem_step {t sl : Addr} {items : Array Value} {vl vu vs : Value} {lo hi : Option Int} {st : Int} {Q : Value → Shared → Prop} (ht : IsTup s.heap t items) (hs : s.heap.IsSliceOf sl vl vu vs) (pl : IsPart vl lo) (pu : IsPart vu hi) (ps : IsPart vs (some st)) (h0 : st ≠ 0) (h1 : st ≠ 1)
    (hz : (pick items.toList lo hi st).length ≤ sizeLine)
    (h : Q (.ref s.heap.objs.size) { s with heap := s.heap.push { cls := .type "tuple", data := .seq (pick items.toList lo hi st).toArray } }) : wpAny (model prog w) A (getItem (.ref t) (.ref sl)) Q E s := by
  have htake : sizeOk (.seq (pick items.toList lo hi st).toArray) := by
    show (pick items.toList lo hi st).toArray.size ≤ sizeLine
    rw [List.size_toArray]
    exact hz
  obtain ⟨os, hos, hcs, hds⟩ := id hs
  have hTs : s.TypeIs (.ref sl) "slice" := ⟨os, hos, hcs⟩
  unfold getItem
  try with_reducible refine wpAny_holding ?_
  first | refine wpAny_bind (wpAny_pure ?_) | skip
  refine wpAny_bind (wpAny_sequenceKey ht.typeIs (by decide) ?_)
  refine wpAny_bind (wpAny_callSpecial?_slot (name := Str.ofString "__getitem__") ht.typeIs PyProof.Rows.slot_tuple_getitem
    (wpAny_call_entry PyProof.Rows.slot_tuple_getitem ht.typeIs entry_tuple_getitem ?_ (args_tuple_getitem _ _)))
  show wpAny _ _ (Builtin.Tuple.tupleItemsOf (.ref t) >>= _) _ _ s
  refine wpAny_bind (tupleItemsOf_ ht ?_)
  refine wpAny_bind (wpAny_typeOf hTs ?_)
  rw [if_pos (by decide)]
  refine wpAny_bind (applied hs pl pu ps h0 ?_)
  have hno : ¬ (((Builtin.Slice.sliceAdjust lo hi st (items.size : Int)).1 == 0 && st == 1 && Builtin.Slice.slicePlaces (Builtin.Slice.sliceAdjust lo hi st (items.size : Int)).1 (Builtin.Slice.sliceAdjust lo hi st (items.size : Int)).2 st == items.size) = true) := by
    intro q
    rw [Bool.and_eq_true, Bool.and_eq_true] at q
    exact h1 (eq_of_beq q.1.2)
  show wpAny _ _ (if ((Builtin.Slice.sliceAdjust lo hi st (items.size : Int)).1 == 0 && st == 1 && Builtin.Slice.slicePlaces (Builtin.Slice.sliceAdjust lo hi st (items.size : Int)).1 (Builtin.Slice.sliceAdjust lo hi st (items.size : Int)).2 st == items.size) = true then _ else _) _ _ s
  rw [if_neg hno]
  have e : ((List.range (Builtin.Slice.slicePlaces (Builtin.Slice.sliceAdjust lo hi st (items.size : Int)).1 (Builtin.Slice.sliceAdjust lo hi st (items.size : Int)).2 st)).filterMap fun (m : Nat) => items[((Builtin.Slice.sliceAdjust lo hi st (items.size : Int)).1 + (m : Int) * st).toNat]?) = pick items.toList lo hi st := by
    unfold pick
    rw [Array.length_toList]
    congr 1
    funext m
    rw [Array.getElem?_toList]
  rw [e]
  first
    | exact wpAny_bind (m := Builtin.Tuple.tupleExact _) (wpAny_newObj_type (wpAny_pure ⟨_, rfl, wpAny_pure h⟩) htake)
    | exact wpAny_bind (m := Builtin.Tuple.tupleExact _) (wpAny_newObj_type (wpAny_bind (wpAny_pure (wpAny_pure ⟨_, rfl, wpAny_pure h⟩))) htake)
    | exact wpAny_bind (wpAny_bind (m := Builtin.Tuple.tupleExact _) (wpAny_newObj_type (wpAny_pure (wpAny_pure ⟨_, rfl, wpAny_pure h⟩)) htake))
    | exact wpAny_bind (wpAny_bind (m := Builtin.Tuple.tupleExact _) (wpAny_newObj_type (wpAny_pure ⟨_, rfl, wpAny_pure h⟩) htake))
end
theorem fm_get {xs : List V} {us : List Value} (r : Vals xs us) (f : Nat → Nat) : ∀ l : List Nat, Vals (l.filterMap fun m => xs[f m]?) (l.filterMap fun m => us[f m]?)
  | [] => .nil
  | m :: t => by
    have ih := fm_get r f t
    rw [List.filterMap_cons, List.filterMap_cons]
    cases e : xs[f m]? with
    | none =>
      rw [r.none_of e]
      exact ih
    | some x =>
      obtain ⟨u, hu, hx⟩ := r.get e
      rw [hu]
      exact .cons hx ih
theorem pick_vals {xs : List V} {us : List Value} (r : Vals xs us) (lo hi : Option Int) (st : Int) : Vals (pick xs lo hi st) (pick us lo hi st) := by
  unfold pick
  rw [← r.length]
  exact fm_get r _ _
def tStep (K : PySem.W.Frag) (te : TE) (tl th ts : TO) : TE := fun σ H Q => te σ H fun x H1 => tl σ H1 fun l H2 => th σ H2 fun u H3 => ts σ H3 fun o H4 => ∃ a xs st, x = .ref a ∧ o = some st ∧ st ≠ 0 ∧ st ≠ 1 ∧ SqT K H4 a xs ∧ (pick xs l u st).length ≤ sizeLine ∧
  ∀ p, H4 p = none → Q (.ref p) (upd H4 p (.tup (pick xs l u st)))
theorem pe_step {X : Cx} {K : PySem.W.Frag} {e : Expr} {te : TE} {lo hi : Option Expr} {sx : Expr} {tl th ts : TO} {p3 pos : Pos} (hK : X.K = K) (he : PE X e te) (hl : PO X lo tl) (hu : PO X hi th) (hst : PO X (some sx) ts) : PE X (.Subscript e (.Slice lo hi (some sx) p3) pos) (tStep K te tl th ts) := by
  subst hK
  refine ⟨fun pins s σ H Q I h => ?_⟩
  refine Subscript_ (thn (he.run pins s σ H _ I h) fun v s1 ⟨x, H1, I1, r1, q1⟩ => ?_)
  refine wpAny_Slice (thn (hl.run pins s1 σ H1 _ I1 q1) fun vl s2 ⟨l, H2, I2, pl, q2⟩ => thn (hu.run pins s2 σ H2 _ I2 q2) fun vu s3 ⟨u, H3, I3, pu, q3⟩ => ?_)
  refine thn (hst.run pins s3 σ H3 _ I3 q3) fun vs s4 ⟨o, H4, I4, ps, q4⟩ => ?_
  obtain ⟨a, xs, st, ex, eo, h0, h1, hx, hz, q⟩ := q4
  subst ex eo
  cases r1
  have I5 : Inv X pins σ H4 { s4 with heap := s4.heap.push { cls := .type "slice", data := .fields #[vl, vu, vs] } } := I4.kept (t' := s4.toks) fun b ob q => Heap.get?_push_of_some _ q
  obtain ⟨its, r, ht, hzz⟩ := I5.tuple hx
  show wpAny (model X.prog X.w) X.A (subscriptTail e (.Slice lo hi (some sx) p3) (.ref a) (.ref s4.heap.objs.size)) (EP X pins σ Q) X.xe { s4 with heap := s4.heap.push { cls := .type "slice", data := .fields #[vl, vu, vs] } }
  refine tail_any (ops := [.ref a, .ref s4.heap.objs.size]) ht.typeIs PyProof.Rows.slot_tuple_getitem.lookup ?_ (by with_unfolding_all rfl)
  have rp := pick_vals r l u st
  have e1 : its.toArray.toList = its := by simp
  refine getItem_step ht (Heap.IsSliceOf.new _ vl vu vs) pl pu ps h0 h1 (by rw [e1, ← rp.length]; exact hz) ?_
  rw [e1]
  refine ⟨.ref _, _, I5.laid (t' := s4.toks) (o := .tup (pick xs l u st)) (fun b ob q => Heap.get?_push_of_some _ q) (Nat.le_refl _) ?_, rfl, q _ (I5.hok.fresh (Nat.le_refl _))⟩
  exact ⟨hz, _, rp, ⟨_, Heap.get?_push_size _ rfl, rfl, _, rfl⟩⟩
end SL

set_option Elab.async false
set_option linter.all false
set_option maxRecDepth 100000
set_option maxHeartbeats 2000000
/-! data, and what is evaluated to some data -/
namespace DT
open PySem PySem.Spec PyProof.Rows L2 HK
/-- the kind's name -/
def tyN : PyData → String
  | .none => "NoneType"
  | .bool _ => "bool"
  | .int _ => "int"
  | .str _ => "str"
  | .list _ => "list"
  | .tuple _ => "tuple"
  | .dict _ => "dict"
def isTup : PyData → Bool
  | .tuple _ => true
  | _ => false
def isLst : PyData → Bool
  | .list _ => true
  | _ => false
def isStr : PyData → Bool
  | .str _ => true
  | _ => false
def isBl : PyData → Bool
  | .bool _ => true
  | _ => false
def isIntB : PyData → Bool
  | .int _ => true
  | .bool _ => true
  | _ => false
theorem kit_tup : ∀ d : PyData, kitB (tyN d) "tuple" = some (isTup d)
  | .none => show kitB "NoneType" "tuple" = some false by decide +kernel
  | .bool _ => show kitB "bool" "tuple" = some false by decide +kernel
  | .int _ => show kitB "int" "tuple" = some false by decide +kernel
  | .str _ => show kitB "str" "tuple" = some false by decide +kernel
  | .list _ => show kitB "list" "tuple" = some false by decide +kernel
  | .tuple _ => show kitB "tuple" "tuple" = some true by decide +kernel
  | .dict _ => show kitB "dict" "tuple" = some false by decide +kernel
theorem kit_lst : ∀ d : PyData, kitB (tyN d) "list" = some (isLst d)
  | .none => show kitB "NoneType" "list" = some false by decide +kernel
  | .bool _ => show kitB "bool" "list" = some false by decide +kernel
  | .int _ => show kitB "int" "list" = some false by decide +kernel
  | .str _ => show kitB "str" "list" = some false by decide +kernel
  | .list _ => show kitB "list" "list" = some true by decide +kernel
  | .tuple _ => show kitB "tuple" "list" = some false by decide +kernel
  | .dict _ => show kitB "dict" "list" = some false by decide +kernel
theorem kit_str : ∀ d : PyData, kitB (tyN d) "str" = some (isStr d)
  | .none => show kitB "NoneType" "str" = some false by decide +kernel
  | .bool _ => show kitB "bool" "str" = some false by decide +kernel
  | .int _ => show kitB "int" "str" = some false by decide +kernel
  | .str _ => show kitB "str" "str" = some true by decide +kernel
  | .list _ => show kitB "list" "str" = some false by decide +kernel
  | .tuple _ => show kitB "tuple" "str" = some false by decide +kernel
  | .dict _ => show kitB "dict" "str" = some false by decide +kernel
theorem kit_bool : ∀ d : PyData, kitB (tyN d) "bool" = some (isBl d)
  | .none => show kitB "NoneType" "bool" = some false by decide +kernel
  | .bool _ => show kitB "bool" "bool" = some true by decide +kernel
  | .int _ => show kitB "int" "bool" = some false by decide +kernel
  | .str _ => show kitB "str" "bool" = some false by decide +kernel
  | .list _ => show kitB "list" "bool" = some false by decide +kernel
  | .tuple _ => show kitB "tuple" "bool" = some false by decide +kernel
  | .dict _ => show kitB "dict" "bool" = some false by decide +kernel
theorem kit_int : ∀ d : PyData, kitB (tyN d) "int" = some (isIntB d)
  | .none => show kitB "NoneType" "int" = some false by decide +kernel
  | .bool _ => show kitB "bool" "int" = some true by decide +kernel
  | .int _ => show kitB "int" "int" = some true by decide +kernel
  | .str _ => show kitB "str" "int" = some false by decide +kernel
  | .list _ => show kitB "list" "int" = some false by decide +kernel
  | .tuple _ => show kitB "tuple" "int" = some false by decide +kernel
  | .dict _ => show kitB "dict" "int" = some false by decide +kernel
theorem ite_f {b : Bool} {A B : Prop} (e : b = false) (h : B) : if b = true then A else B := by
  subst e
  exact iteF h
theorem ite_t {b : Bool} {A B : Prop} (e : b = true) (h : A) : if b = true then A else B := by
  subst e
  exact iteT h
theorem ite_nf {b : Bool} {A B : Prop} (e : b = false) (h : A) : if (!b) = true then A else B := by
  subst e
  exact iteT h
theorem ite_nt {b : Bool} {A B : Prop} (e : b = true) (h : B) : if (!b) = true then A else B := by
  subst e
  exact iteF h
section
variable {K : PySem.W.Frag} {tb : List Addr} {H H' : Hp} {v : V} {d : PyData}
theorem ty_L {a : Addr} {xs : List V} (h : SqL K H a xs) : TyX K H (.ref a) (.type "list") := by
  rcases h with (h | ⟨o, h⟩) | ⟨o, its, n, h1, h2, _⟩
  · exact .base (.lst h)
  · exact .base (.frz h)
  · exact .kList h1 h2
theorem ty_T {a : Addr} {xs : List V} (h : SqT K H a xs) : TyX K H (.ref a) (.type "tuple") := by
  rcases h with (h | ⟨o, h⟩) | ⟨o, its, n, h1, h2, _⟩
  · exact .base (.tup h)
  · exact .fTuple h
  · exact .kTuple h1 h2
theorem Dp_ty (h : Dp K H v d) : TyX K H v (.type (tyN d)) := by
  cases h with
  | non => exact .base .non
  | bl b => exact .base (.bl b)
  | int i => exact .base (.int i)
  | str x => exact .base (.str x)
  | lst h _ => exact ty_L h
  | tup h _ => exact ty_T h
mutual
theorem Dp_ext (e : Ext tb [] H H') (hT : Tabs tb H) : ∀ (d : PyData) {v : V}, Dp K H v d → Dp K H' v d
  | .none, _, .non => .non
  | .bool b, _, .bl _ => .bl b
  | .int i, _, .int _ => .int i
  | .str s, _, .str _ => .str s
  | .list ds, _, .lst h a => .lst (e.sqL hT h (by simp)) (DpAll_ext e hT ds a)
  | .tuple ds, _, .tup h a => .tup (e.sqT hT h (by simp)) (DpAll_ext e hT ds a)
theorem DpAll_ext (e : Ext tb [] H H') (hT : Tabs tb H) : ∀ (ds : List PyData) {vs : List V}, DpAll K H vs ds → DpAll K H' vs ds
  | [], _, .nil => .nil
  | d :: ds, _, .cons h t => .cons (Dp_ext e hT d h) (DpAll_ext e hT ds t)
end
theorem DpAll_len : ∀ {vs : List V} {ds : List PyData}, DpAll K H vs ds → vs.length = ds.length
  | _, _, .nil => rfl
  | _, _, .cons _ t => by rw [List.length_cons, List.length_cons, DpAll_len t]
theorem DpAll_get : ∀ {vs : List V} {ds : List PyData} {i : Nat} {v : V}, DpAll K H vs ds → vs[i]? = some v → ∃ d, ds[i]? = some d ∧ Dp K H v d
  | _, _, _, _, .nil, e => by simp at e
  | _, _, 0, _, .cons h _, e => by
    simp at e
    subst e
    exact ⟨_, rfl, h⟩
  | _, _, i + 1, v, .cons _ t, e => by
    obtain ⟨d, h1, h2⟩ := DpAll_get (i := i) (v := v) t (by simpa using e)
    exact ⟨d, by simpa using h1, h2⟩
theorem DpAll_ints : ∀ {vs : List V} {ns : List Int}, DpAll K H vs (ns.map PyData.int) → vs = ns.map V.int
  | _, [], .nil => rfl
  | _, n :: r, .cons (.int _) t => by rw [DpAll_ints t] <;> rfl
theorem DpAll_two {vs : List V} {ds : List PyData} (h : DpAll K H vs ds) (hl : vs.length = 2) : ∃ x0 x1 d0 d1, vs = [x0, x1] ∧ ds = [d0, d1] ∧ Dp K H x0 d0 ∧ Dp K H x1 d1 := by
  cases h with
  | nil => cases hl
  | cons k0 h =>
    cases h with
    | nil => cases hl
    | cons k1 h =>
      cases h with
      | nil => exact ⟨_, _, _, _, rfl, rfl, k0, k1⟩
      | cons _ _ => simp at hl
/-- data, or some dict -/
def AnyD (K : PySem.W.Frag) (H : Hp) (v : V) (d : PyData) : Prop := Dp K H v d ∨ ∃ a kvs, v = .ref a ∧ H a = some (.dK kvs) ∧ d = .dict []
theorem AnyD_ty (h : AnyD K H v d) : TyX K H v (.type (tyN d)) := by
  rcases h with h | ⟨a, kvs, rfl, h, rfl⟩
  · exact Dp_ty h
  · exact .base (.dK h)
theorem AnyD_ext (e : Ext tb [] H H') (hT : Tabs tb H) (h : AnyD K H v d) : AnyD K H' v d := by
  rcases h with h | ⟨a, kvs, h1, h2, h3⟩
  · exact .inl (Dp_ext e hT d h)
  · exact .inr ⟨a, kvs, h1, e.dK hT h2 (by simp), h3⟩
theorem AnyD_tup {ds : List PyData} (h : AnyD K H v (.tuple ds)) : ∃ a vs, v = .ref a ∧ SqT K H a vs ∧ DpAll K H vs ds := by
  rcases h with h | ⟨a, kvs, h1, h2, h3⟩
  · cases h with
    | tup h1 h2 => exact ⟨_, _, rfl, h1, h2⟩
  · cases h3
end
/-! ### what evaluates to a value of which G holds, the tables tb growing -/
section
variable {K : PySem.W.Frag} {tb : List Addr} {σ : L2.St} {H : Hp}
def Gv (tb : List Addr) (te : TE) (σ : L2.St) (H : Hp) (G : Hp → V → Prop) : Prop := ∀ H1, Ext tb [] H H1 → ∀ Q : VK, (∀ v H2, Ext tb [] H1 H2 → G H2 v → Q v H2) → te σ H1 Q
def Ga (tb : List Addr) (ta : TA) (σ : L2.St) (H : Hp) (G : Hp → List V → Prop) : Prop := ∀ H1, Ext tb [] H H1 → ∀ Q : List V → Hp → Prop, (∀ vs H2, Ext tb [] H1 H2 → G H2 vs → Q vs H2) → ta σ H1 Q
abbrev GI (P : Int → Prop) : Hp → V → Prop := fun _ v => ∃ i, v = .int i ∧ P i
abbrev GD (K : PySem.W.Frag) : Hp → V → Prop := fun H v => ∃ d, Dp K H v d
abbrev GAny (K : PySem.W.Frag) : Hp → V → Prop := fun H v => ∃ d, AnyD K H v d
theorem Gv.imp {te : TE} {G G' : Hp → V → Prop} (h : Gv tb te σ H G) (w : ∀ H v, G H v → G' H v) : Gv tb te σ H G' := fun H1 e Q q => h H1 e Q fun v H2 e2 g => q v H2 e2 (w H2 v g)
theorem Gv.any {te : TE} (h : Gv tb te σ H (GD K)) : Gv tb te σ H (GAny K) := h.imp fun _ _ ⟨d, g⟩ => ⟨d, .inl g⟩
theorem Gv.int {te : TE} {P : Int → Prop} (h : Gv tb te σ H (GI P)) : Gv tb te σ H (GD K) := h.imp fun _ _ ⟨i, e, _⟩ => ⟨.int i, e ▸ .int i⟩
theorem gv_var {i : Nat} {v : V} {G : Hp → V → Prop} (h : σ[i]? = some (some v)) (g : ∀ H1, Ext tb [] H H1 → G H1 v) : Gv tb (tVar i) σ H G := fun H1 e Q q => ⟨v, h, q v H1 Ext.refl (g H1 e)⟩
theorem gv_c {v : V} {G : Hp → V → Prop} (g : ∀ H1, G H1 v) : Gv tb (tC v) σ H G := fun H1 _ Q q => q v H1 Ext.refl (g H1)
theorem gv_ci {i : Int} : Gv tb (tC (.int i)) σ H (GD K) := gv_c fun _ => ⟨_, .int i⟩
theorem gv_cn : Gv tb (tC .non) σ H (GD K) := gv_c fun _ => ⟨_, .non⟩
theorem gv_cb {b : Bool} : Gv tb (tC (.bl b)) σ H (GD K) := gv_c fun _ => ⟨_, .bl b⟩
theorem gv_cs {s : Str} : Gv tb (tC (.str s)) σ H (GD K) := gv_c fun _ => ⟨_, .str s⟩
theorem gv_d {i : Nat} {v : V} {d : PyData} (hT : Tabs tb H) (h : σ[i]? = some (some v)) (g : Dp K H v d) : Gv tb (tVar i) σ H (GD K) := gv_var h fun H1 e => ⟨d, Dp_ext e hT d g⟩
theorem gv_i {i : Nat} {n : Int} {P : Int → Prop} (h : σ[i]? = some (some (.int n))) (g : P n) : Gv tb (tVar i) σ H (GI P) := gv_var h fun _ _ => ⟨n, rfl, g⟩
theorem ga_nil {G : Hp → List V → Prop} (g : ∀ H1, G H1 []) : Ga tb tNil σ H G := fun H1 _ Q q => q [] H1 Ext.refl (g H1)
/-- items that are data, n of them -/
abbrev GDs (K : PySem.W.Frag) (n : Nat) : Hp → List V → Prop := fun H vs => vs.length = n ∧ ∃ ds, DpAll K H vs ds
theorem ga_nilD : Ga tb tNil σ H (GDs K 0) := ga_nil fun _ => ⟨rfl, [], .nil⟩
theorem ga_consD {te : TE} {ta : TA} {n : Nat} (hT : Tabs tb H) (h : Gv tb te σ H (GD K)) (t : Ga tb ta σ H (GDs K n)) : Ga tb (tCons te ta) σ H (GDs K (n + 1)) := fun H1 e Q q =>
  h H1 e _ fun v H2 e2 ⟨d, hd⟩ => t H2 (e.trans e2) _ fun vs H3 e3 ⟨hl, ds, hds⟩ => q (v :: vs) H3 (e2.trans e3) ⟨by rw [List.length_cons, hl], d :: ds, .cons (Dp_ext e3 ((e.trans e2).tabs hT) d hd) hds⟩
abbrev GAs (K : PySem.W.Frag) (n : Nat) : Hp → List V → Prop := fun H vs => vs.length = n ∧ ∀ v ∈ vs, ∃ d, AnyD K H v d
theorem ga_nilA : Ga tb tNil σ H (GAs K 0) := ga_nil fun _ => ⟨rfl, fun v hv => by cases hv⟩
theorem ga_consA {te : TE} {ta : TA} {n : Nat} (hT : Tabs tb H) (h : Gv tb te σ H (GAny K)) (t : Ga tb ta σ H (GAs K n)) : Ga tb (tCons te ta) σ H (GAs K (n + 1)) := fun H1 e Q q =>
  h H1 e _ fun v H2 e2 ⟨d, hd⟩ => t H2 (e.trans e2) _ fun vs H3 e3 ⟨hl, hds⟩ => q (v :: vs) H3 (e2.trans e3) ⟨by rw [List.length_cons, hl], fun x hx => by
    rcases List.mem_cons.mp hx with rfl | hx
    · exact ⟨d, AnyD_ext e3 ((e.trans e2).tabs hT) hd⟩
    · exact hds x hx⟩
theorem gv_tup {ta : TA} {n : Nat} (hT : Tabs tb H) (hn : n ≤ 100000) (h : Ga tb ta σ H (GDs K n)) : Gv tb (tTup ta) σ H (GD K) := fun H1 e Q q =>
  h H1 e _ fun vs H2 e2 ⟨hl, ds, hds⟩ => ⟨by rw [hl]; exact line_of hn, fun p np => by
    have e3 : Ext tb [] H2 (upd H2 p (.tup vs)) := Ext.new ((e.trans e2).tabs hT) np
    exact q _ _ (e2.trans e3) ⟨.tuple ds, .tup (SqT.of upd_same) (DpAll_ext e3 ((e.trans e2).tabs hT) ds hds)⟩⟩
theorem gv_lst {ta : TA} {n : Nat} (hT : Tabs tb H) (hn : n ≤ 100000) (h : Ga tb ta σ H (GDs K n)) : Gv tb (tLst ta) σ H (GD K) := fun H1 e Q q =>
  h H1 e _ fun vs H2 e2 ⟨hl, ds, hds⟩ => ⟨by rw [hl]; exact line_of hn, fun p np => by
    have e3 : Ext tb [] H2 (upd H2 p (.lst vs)) := Ext.new ((e.trans e2).tabs hT) np
    exact q _ _ (e2.trans e3) ⟨.list ds, .lst (SqL.of upd_same) (DpAll_ext e3 ((e.trans e2).tabs hT) ds hds)⟩⟩
theorem gv_op {ta te : TE} {g : Int → Int → Int} {P P1 P2 : Int → Prop} (ha : Gv tb ta σ H (GI P1)) (hb : Gv tb te σ H (GI P2)) (hp : ∀ i j, P1 i → P2 j → P (g i j)) : Gv tb (tOp (rI0 fun i j => .int (g i j)) ta te) σ H (GI P) := fun H1 e Q q =>
  ha H1 e _ fun _ H2 e2 ⟨i, ei, hi⟩ => hb H2 (e.trans e2) _ fun _ H3 e3 ⟨j, ej, hj⟩ => ⟨i, j, ei, ej, q _ H3 (e2.trans e3) ⟨_, rfl, hp i j hi hj⟩⟩
theorem gv_opC {ta te : TE} {C : Int → Int → Prop} {g : Int → Int → Int} {P P1 P2 : Int → Prop} (ha : Gv tb ta σ H (GI P1)) (hb : Gv tb te σ H (GI P2)) (hc : ∀ i j, P1 i → P2 j → C i j) (hp : ∀ i j, P1 i → P2 j → P (g i j)) : Gv tb (tOp (rI C fun i j => .int (g i j)) ta te) σ H (GI P) := fun H1 e Q q =>
  ha H1 e _ fun _ H2 e2 ⟨i, ei, hi⟩ => hb H2 (e.trans e2) _ fun _ H3 e3 ⟨j, ej, hj⟩ => ⟨i, j, ei, ej, hc i j hi hj, q _ H3 (e2.trans e3) ⟨_, rfl, hp i j hi hj⟩⟩
theorem gv_k {n : Int} {P : Int → Prop} (h : P n) : Gv tb (tC (.int n)) σ H (GI P) := gv_c fun _ => ⟨n, rfl, h⟩
end
/-! ### tuples joined, cut: somewhere there is such a tuple -/
section
variable {K : PySem.W.Frag} {tb : List Addr} {H : Hp} {a b : Addr} {xs ys : List V} {Q : VK}
theorem cat_rd (hT : Tabs tb H) (hx : SqT K H a xs) (hy : SqT K H b ys) (hz : xs.length + ys.length ≤ 100000) (q : ∀ p H', Ext tb [] H H' → SqT K H' p (xs ++ ys) → Q (.ref p) H') : rCatA K (.ref a) (.ref b) H Q := by
  refine ⟨a, b, xs, ys, rfl, rfl, hx, hy, line_of hz, fun e => ?_, fun _ e => ?_, fun _ _ p np => ?_⟩
  · subst e
    exact q b H Ext.refl hy
  · subst e
    refine q a H Ext.refl ?_
    rw [List.append_nil]
    exact hx
  · exact q p _ (Ext.new hT np) (SqT.of upd_same)
theorem cut_rd {lo hi : Option Int} (hT : Tabs tb H) (hx : SqT K H a xs) (q : ∀ p H', Ext tb [] H H' → SqT K H' p (cutV xs lo hi) → Q (.ref p) H') : rSlA K (.ref a) lo hi H Q := by
  refine ⟨a, xs, rfl, hx, fun hw => ?_, fun _ p np => ?_⟩
  · refine q a H Ext.refl ?_
    have : cutV xs lo hi = xs := by
      unfold cutV
      rw [hw.1, hw.2, List.drop_zero, Nat.sub_zero, List.take_length]
    rw [this]
    exact hx
  · exact q p _ (Ext.new hT np) (SqT.of upd_same)
end
theorem cut_to {α : Type} (f : α → V) (l : List α) (n : Nat) (h : n ≤ l.length) : cutV (l.map f) none (some (n : Int)) = (l.take n).map f := by
  unfold cutV
  rw [HT.sIx_nat, HT.sIx_none, List.drop_zero, Nat.sub_zero, List.length_map, List.map_take, Nat.min_eq_left h]
theorem cut_from {α : Type} (f : α → V) (l : List α) (n : Nat) : cutV (l.map f) (some (n : Int)) none = (l.drop n).map f := by
  unfold cutV
  rw [HT.sIx_nat, HT.sIx_none, List.length_map, List.map_drop]
  rcases Nat.le_total n l.length with h | h
  · rw [Nat.min_eq_left h]
    exact List.take_of_length_le (by rw [List.length_drop, List.length_map]; exact Nat.le_refl _)
  · rw [Nat.min_eq_right h, Nat.sub_self, List.take_zero]
    symm
    exact List.drop_eq_nil_of_le (by rw [List.length_map]; exact h)
end DT

set_option Elab.async false
set_option linter.all false
set_option maxRecDepth 100000
set_option maxHeartbeats 2000000
/-! data with dicts anywhere in it; such a thing == a text, in a row of texts -/
namespace PySem
namespace SeqAt
open PySem.AutoSeq1 (wpAny_loadPart')
open PySem.MeetsSeq PySem.MeetsSeq2 PySem.MeetsSeq3
theorem dict_declines_str (l : Addr) (es : Array DictEntry) (ep : Nat) (dd : Option Addr) (sl : Array (Option Value)) (b : Str) (u : Tok) :
    Meets (Builtin.«dict.__eq__» ⟨[.ref l, .str b u], []⟩) (fun _ R s => s.heap.get? l = some { cls := .type "dict", dict := dd, data := .dict es ep, slots := sl } ∧ R (.ok (.ret .notImplemented)) s) :=
  .of_wp fun prog w A R s h => by obtain ⟨hp, g, d, tk, os⟩ := s; obtain ⟨hl, h⟩ := h; have f1 := F.sub_str_dict; wp_walk using wpAny_loadPart' hl, wpAny_load hl; exact ⟨_, rfl, h⟩
theorem str_declines_dict (b : Str) (u : Tok) (l : Addr) (es : Array DictEntry) (ep : Nat) (dd : Option Addr) (sl : Array (Option Value)) :
    Meets (Builtin.«str.__eq__» ⟨[.str b u, .ref l], []⟩) (fun _ R s => s.heap.get? l = some { cls := .type "dict", dict := dd, data := .dict es ep, slots := sl } ∧ R (.ok (.ret .notImplemented)) s) :=
  .of_wp fun prog w A R s h => by obtain ⟨hp, g, d, tk, os⟩ := s; obtain ⟨hl, h⟩ := h; wp_walk using wpAny_loadPart' hl, wpAny_load hl; exact ⟨_, rfl, h⟩
section
variable {A : Around} {s : Shared}
theorem Rc_dict_str {l : Addr} {es : Array DictEntry} {ep : Nat} {dd : Option Addr} {sl : Array (Option Value)} (b : Str) (u : Tok) (ho : s.heap.get? l = some { cls := .type "dict", dict := dd, data := .dict es ep, slots := sl }) (hu : A.units < cLine) : RcAt A s (.ref l) (.str b u) false := fun prog w E Q h => by
  exact rc_eq_decline_or (k := false) ⟨_, ho, rfl⟩ (typeIs_str s b u) (by decide) F.sub_str_dict F.slot_dict_eq F.slot_str_eq_refl
    (fun _ hq => call_meets F.slot_dict_eq ⟨_, ho, rfl⟩ F.entry_dict_eq (F.args_dict_eq_2 _ _) (dict_declines_str l es ep dd sl b u) ⟨ho, hq⟩)
    (fun _ hq => call_meets F.slot_str_eq_refl (typeIs_str s b u) F.entry_str_eq (F.args_str_eq_2 _ _) (str_declines_dict b u l es ep dd sl) ⟨ho, hq⟩)
    (fun _ hq => wpAny_of_eq (rfl : isSame (.ref l) (.str b u) = pure false) hq) (.inr hu) h
theorem Rc_str_dict {l : Addr} {es : Array DictEntry} {ep : Nat} {dd : Option Addr} {sl : Array (Option Value)} (b : Str) (u : Tok) (ho : s.heap.get? l = some { cls := .type "dict", dict := dd, data := .dict es ep, slots := sl }) (hu : A.units < cLine) : RcAt A s (.str b u) (.ref l) false := fun prog w E Q h => by
  exact rc_eq_decline_or (k := false) (typeIs_str s b u) ⟨_, ho, rfl⟩ (by decide) F.sub_dict_str F.slot_str_eq F.slot_dict_eq_refl
    (fun _ hq => call_meets F.slot_str_eq (typeIs_str s b u) F.entry_str_eq (F.args_str_eq_2 _ _) (str_declines_dict b u l es ep dd sl) ⟨ho, hq⟩)
    (fun _ hq => call_meets F.slot_dict_eq_refl ⟨_, ho, rfl⟩ F.entry_dict_eq (F.args_dict_eq_2 _ _) (dict_declines_str l es ep dd sl b u) ⟨ho, hq⟩)
    (fun _ hq => wpAny_of_eq (rfl : isSame (.str b u) (.ref l) = pure false) hq) (.inr hu) h
theorem Eq_str_dict {l : Addr} {es : Array DictEntry} {ep : Nat} {dd : Option Addr} {sl : Array (Option Value)} (b : Str) (u : Tok) (ho : s.heap.get? l = some { cls := .type "dict", dict := dd, data := .dict es ep, slots := sl }) (hu : A.units < cLine) : EqAt A s (.str b u) (.ref l) false := fun prog w E Q h => by
  unfold eqBool
  refine wpAny_holding ?_
  refine wpAny_ite_split (fun hab => absurd (eq_of_beq hab) nofun) (fun _ => ?_)
  exact wpAny_bind (Rc_str_dict b u ho hu prog w E _ (wpAny_truthy_bool h))
end
end SeqAt
end PySem
namespace DT
open PySem PySem.Spec PyProof.Rows L2 HK
mutual
inductive Rp (K : PySem.W.Frag) (H : Hp) : V → PyData → Prop
  | non : Rp K H .non .none
  | bl (b : Bool) : Rp K H (.bl b) (.bool b)
  | int (i : Int) : Rp K H (.int i) (.int i)
  | str (x : Str) : Rp K H (.str x) (.str x)
  | lst {a : Addr} {xs : List V} {ds : List PyData} : SqL K H a xs → RpAll K H xs ds → Rp K H (.ref a) (.list ds)
  | tup {a : Addr} {xs : List V} {ds : List PyData} : SqT K H a xs → RpAll K H xs ds → Rp K H (.ref a) (.tuple ds)
  | dct {a : Addr} {kvs : List (Key × V)} : H a = some (.dK kvs) → Rp K H (.ref a) (.dict [])
inductive RpAll (K : PySem.W.Frag) (H : Hp) : List V → List PyData → Prop
  | nil : RpAll K H [] []
  | cons {v : V} {vs : List V} {d : PyData} {ds : List PyData} : Rp K H v d → RpAll K H vs ds → RpAll K H (v :: vs) (d :: ds)
end
section
variable {K : PySem.W.Frag} {tb : List Addr} {H H' : Hp} {v : V} {d : PyData}
theorem Rp_ty (h : Rp K H v d) : TyX K H v (.type (tyN d)) := by
  cases h with
  | non => exact .base .non
  | bl b => exact .base (.bl b)
  | int i => exact .base (.int i)
  | str x => exact .base (.str x)
  | lst h _ => exact ty_L h
  | tup h _ => exact ty_T h
  | dct h => exact .base (.dK h)
mutual
theorem Rp_ext (e : Ext tb [] H H') (hT : Tabs tb H) : ∀ (d : PyData) {v : V}, Rp K H v d → Rp K H' v d
  | .none, _, .non => .non
  | .bool b, _, .bl _ => .bl b
  | .int i, _, .int _ => .int i
  | .str s, _, .str _ => .str s
  | .list ds, _, .lst h a => .lst (e.sqL hT h (by simp)) (RpAll_ext e hT ds a)
  | .tuple ds, _, .tup h a => .tup (e.sqT hT h (by simp)) (RpAll_ext e hT ds a)
  | .dict _, _, .dct h => .dct (e.dK hT h (by simp))
theorem RpAll_ext (e : Ext tb [] H H') (hT : Tabs tb H) : ∀ (ds : List PyData) {vs : List V}, RpAll K H vs ds → RpAll K H' vs ds
  | [], _, .nil => .nil
  | d :: ds, _, .cons h t => .cons (Rp_ext e hT d h) (RpAll_ext e hT ds t)
end
theorem RpAll_len : ∀ {vs : List V} {ds : List PyData}, RpAll K H vs ds → vs.length = ds.length
  | _, _, .nil => rfl
  | _, _, .cons _ t => by rw [List.length_cons, List.length_cons, RpAll_len t]
theorem RpAll_get : ∀ {vs : List V} {ds : List PyData} {i : Nat} {v : V}, RpAll K H vs ds → vs[i]? = some v → ∃ d, ds[i]? = some d ∧ Rp K H v d
  | _, _, _, _, .nil, e => by simp at e
  | _, _, 0, _, .cons h _, e => by
    simp at e
    subst e
    exact ⟨_, rfl, h⟩
  | _, _, i + 1, v, .cons _ t, e => by
    obtain ⟨d, h1, h2⟩ := RpAll_get (i := i) (v := v) t (by simpa using e)
    exact ⟨d, by simpa using h1, h2⟩
theorem RpAll_app : ∀ {xs ys : List V} {cs ds : List PyData}, RpAll K H xs cs → RpAll K H ys ds → RpAll K H (xs ++ ys) (cs ++ ds)
  | _, _, _, _, .nil, t => t
  | _, _, _, _, .cons h r, t => .cons h (RpAll_app r t)
theorem RpAll_take : ∀ {xs : List V} {cs : List PyData} (k : Nat), RpAll K H xs cs → RpAll K H (xs.take k) (cs.take k)
  | _, _, 0, _ => .nil
  | _, _, _ + 1, .nil => .nil
  | _, _, k + 1, .cons h r => .cons h (RpAll_take k r)
theorem RpAll_drop : ∀ {xs : List V} {cs : List PyData} (k : Nat), RpAll K H xs cs → RpAll K H (xs.drop k) (cs.drop k)
  | _, _, 0, h => h
  | _, _, _ + 1, .nil => .nil
  | _, _, k + 1, .cons _ r => RpAll_drop k r
theorem Rp_tup {ds : List PyData} (h : Rp K H v (.tuple ds)) : ∃ a vs, v = .ref a ∧ SqT K H a vs ∧ RpAll K H vs ds := by
  cases h with
  | tup h1 h2 => exact ⟨_, _, rfl, h1, h2⟩
theorem Rp_strs : ∀ ss : List Str, RpAll K H (ss.map V.str) (ss.map PyData.str)
  | [] => .nil
  | s :: r => .cons (.str s) (Rp_strs r)
theorem Rp_ints : ∀ ss : List Int, RpAll K H (ss.map V.int) (ss.map PyData.int)
  | [] => .nil
  | s :: r => .cons (.int s) (Rp_ints r)
end
/-! ### x == 'a', x in ('a', ..) -/
def eqS (d : PyData) (s : Str) : Bool := match d with
  | .str z => z == s
  | _ => false
section
variable {X : Cx}
theorem eq_str {pins : List (Addr × Obj)} {σ : L2.St} {H : Hp} {s : Shared} {x : V} {v : Value} {d : PyData} (I : L2.Inv X pins σ H s) (hu : X.A.units + 64 < cLine) (h : Rp X.K H x d) (r : RelV x v) (b : Str) (u : Tok) : SeqAt.EqAt X.A.in1 s (.str b u) v (eqS d b) := by
  have hu1 : X.A.in1.units < cLine := by show X.A.units + 1 < cLine; omega
  cases h with
  | non =>
    cases (show v = Value.none from r)
    exact SeqAt.EqAt.str_none b u
  | bl k =>
    cases (show v = Value.bool k from r)
    exact SeqAt.EqAt.str_bool b u k
  | int i =>
    obtain ⟨t, rfl⟩ := (show ∃ t, v = Value.int i t from r)
    exact SeqAt.EqAt.str_int b u i t
  | str z =>
    obtain ⟨t, rfl⟩ := (show ∃ t, v = Value.str z t from r)
    have e : eqS (.str z) b = (b == z) := by
      show (z == b) = (b == z)
      by_cases h : z = b
      · subst h
        rfl
      · have h1 : (z == b) = false := by simpa using h
        have h2 : (b == z) = false := by simpa using fun q => h q.symm
        rw [h1, h2]
    rw [e]
    exact SeqAt.EqAt.str_str b u z t
  | @lst a xs ds hq _ =>
    cases (show v = Value.ref a from r)
    obtain ⟨its, _, pl, _⟩ := I.list hq
    exact SeqAt.EqAt.str_list b u pl.isList hu1
  | @tup a xs ds hq _ =>
    cases (show v = Value.ref a from r)
    obtain ⟨its, _, pl, _⟩ := I.tuple hq
    exact SeqAt.EqAt.str_tuple b u pl hu1
  | @dct a kvs hq =>
    cases (show v = Value.ref a from r)
    obtain ⟨_, _, vs, _, hd⟩ := I.hok a _ hq
    obtain ⟨o, es, ep, ho, hx, hdd, _⟩ := hd
    obtain ⟨cls, dd, dat, sl⟩ := o
    obtain ⟨hc, hdn, _⟩ := hx
    simp only at hc hdd
    subst hc hdd
    exact SeqAt.Eq_str_dict b u ho hu1
def rInS (K : PySem.W.Frag) : R2 := fun x y H Q => ∃ (p : Addr) (ss : List Str) (d : PyData), y = .ref p ∧ SqT K H p (ss.map V.str) ∧ Rp K H x d ∧ Q (.bl (ss.any (eqS d))) H
theorem mem_strs {pins : List (Addr × Obj)} {σ : L2.St} {H : Hp} {s : Shared} {x : V} {v : Value} {d : PyData} (I : L2.Inv X pins σ H s) (hu : X.A.units + 64 < cLine) (h : Rp X.K H x d) (r : RelV x v) :
    ∀ {ss : List Str} {us : List Value}, Vals (ss.map V.str) us → (∀ u ∈ us, SeqAt.EqAt X.A.in1 s u v (match u with | .str b _ => eqS d b | _ => false)) ∧ us.any (fun u => match u with | .str b _ => eqS d b | _ => false) = ss.any (eqS d)
  | [], _, .nil => ⟨fun u hm => (by cases hm), rfl⟩
  | b :: ss, _, .cons (⟨t, rfl⟩) tl => by
    obtain ⟨h1, h2⟩ := mem_strs I hu h r (ss := ss) tl
    refine ⟨fun u hu' => ?_, ?_⟩
    · rcases List.mem_cons.mp hu' with rfl | hu'
      · exact eq_str I hu h r b t
      · exact h1 u hu'
    · rw [List.any_cons, List.any_cons, h2]
theorem q_inS {K : PySem.W.Frag} (hK : X.K = K) (hu : X.A.units + 64 < cLine) : OpR X (compareOp .In) (rInS K) := by
  subst hK
  intro pins s σ H x y v u Q I rx ry h
  obtain ⟨p, ss, d, rfl, hq, hd, q⟩ := h
  cases ry
  obtain ⟨its, r, pl, hz⟩ := I.tuple hq
  obtain ⟨h1, h2⟩ := mem_strs I hu hd rx (ss := ss) r
  refine SeqAt.in_tupleAt (fun u => match u with | .str b _ => eqS d b | _ => false) pl (fun w hw => h1 w (by simpa using hw)) ⟨.bl _, H, I, rfl, ?_⟩
  have e : its.toArray.any (fun u => match u with | .str b _ => eqS d b | _ => false) = ss.any (eqS d) := by
    rw [← h2]
    simp
  rw [e]
  exact q
theorem rc_str {pins : List (Addr × Obj)} {σ : L2.St} {H : Hp} {s : Shared} {x : V} {v : Value} {d : PyData} (I : L2.Inv X pins σ H s) (hu : X.A.units + 64 < cLine) (h : Rp X.K H x d) (r : RelV x v) (b : Str) (u : Tok) : SeqAt.RcAt X.A s v (.str b u) (eqS d b) := by
  have hu1 : X.A.units < cLine := by omega
  cases h with
  | non =>
    cases (show v = Value.none from r)
    exact SeqAt.RcAt.none_str b u
  | bl k =>
    cases (show v = Value.bool k from r)
    exact SeqAt.RcAt.bool_str k b u
  | int i =>
    obtain ⟨t, rfl⟩ := (show ∃ t, v = Value.int i t from r)
    exact SeqAt.RcAt.int_str i t b u
  | str z =>
    obtain ⟨t, rfl⟩ := (show ∃ t, v = Value.str z t from r)
    exact SeqAt.RcAt.str_str z t b u
  | @lst a xs ds hq _ =>
    cases (show v = Value.ref a from r)
    obtain ⟨its, _, pl, _⟩ := I.list hq
    exact SeqAt.RcAt.list_str b u pl.isList hu1
  | @tup a xs ds hq _ =>
    cases (show v = Value.ref a from r)
    obtain ⟨its, _, pl, _⟩ := I.tuple hq
    exact SeqAt.RcAt.tuple_str b u pl hu1
  | @dct a kvs hq =>
    cases (show v = Value.ref a from r)
    obtain ⟨_, _, vs, _, hd⟩ := I.hok a _ hq
    obtain ⟨o, es, ep, ho, hx, hdd, _⟩ := hd
    obtain ⟨cls, dd, dat, sl⟩ := o
    obtain ⟨hc, hdn, _⟩ := hx
    simp only at hc hdd
    subst hc hdd
    exact SeqAt.Rc_dict_str b u ho hu1
theorem q_repT {K : PySem.W.Frag} (hK : X.K = K) : OpR X (binaryOp .Mult) (rRepT K) := hK ▸ op_repT
def rEqS (K : PySem.W.Frag) : R2 := fun x y H Q => ∃ (b : Str) (d : PyData), y = .str b ∧ Rp K H x d ∧ Q (.bl (eqS d b)) H
theorem q_eqS {K : PySem.W.Frag} (hK : X.K = K) (hu : X.A.units + 64 < cLine) : OpR X (compareOp .Eq) (rEqS K) := by
  subst hK
  intro pins s σ H x y v u Q I rx ry h
  obtain ⟨b, d, rfl, hd, q⟩ := h
  obtain ⟨t, rfl⟩ := ry
  exact rc_str I hu hd rx b t X.prog X.w X.xe _ ⟨.bl _, H, I, rfl, q⟩
end
end DT

set_option Elab.async false
set_option linter.all false
set_option maxRecDepth 100000
set_option maxHeartbeats 1000000
/-! tuple * int, none and one times too -/
namespace TM
open PySem PySem.Spec PyProof.Rows L2
theorem mul_none (l : Addr) (its : Array Value) (m : Nat) (dd : Option Addr) (sl : Array (Option Value)) (u : Tok) (c1 : its.isEmpty = false) :
    Meets (Builtin.«tuple.__mul__» ⟨[.ref l, .int 0 u], []⟩) (fun _ R s => s.heap.get? l = some ⟨.type "tuple", dd, .seq its m, sl⟩ ∧ R (.ok (.ret (.ref s.heap.objs.size))) { s with heap := s.heap.push { cls := .type "tuple", data := .seq #[] } }) :=
  .of_wp fun prog w A R s h => by
    obtain ⟨hp, g, d, tk, os⟩ := s
    obtain ⟨hl, h⟩ := h
    have f1 := AutoSeq1.idx_int
    have c2 : (its.isEmpty || (0:Int) == 1) = false := by rw [c1] <;> rfl
    wp_walk using wpAny_loadPart' hl
    exact ⟨_, rfl, h⟩
theorem mul_once (l : Addr) (its : Array Value) (m : Nat) (dd : Option Addr) (sl : Array (Option Value)) (u : Tok) :
    Meets (Builtin.«tuple.__mul__» ⟨[.ref l, .int 1 u], []⟩) (fun _ R s => s.heap.get? l = some ⟨.type "tuple", dd, .seq its m, sl⟩ ∧ R (.ok (.ret (.ref l))) s) :=
  .of_wp fun prog w A R s h => by
    obtain ⟨hp, g, d, tk, os⟩ := s
    obtain ⟨hl, h⟩ := h
    have f1 := AutoSeq1.idx_int
    wp_walk using wpAny_loadPart' hl
    exact ⟨_, rfl, h⟩
def rRepN (K : PySem.W.Frag) : R2 := fun x y H Q => ∃ l k xs, x = .ref l ∧ y = .int k ∧ SqT K H l xs ∧ xs ≠ [] ∧ 0 ≤ k ∧ k ≤ 1000 ∧ xs.length ≤ 1000 ∧ ((k = 1 ∧ Q (.ref l) H) ∨ (k ≠ 1 ∧ ∀ p, H p = none → Q (.ref p) (upd H p (.tup (List.replicate k.toNat xs).flatten))))
theorem op_repN {X : Cx} : OpR X (binaryOp .Mult) (rRepN X.K) := by
  intro pins s σ H x y v u Q I rx ry h
  obtain ⟨l, k, xs, rfl, rfl, hT, hne, h0, h2, hz, q⟩ := h
  by_cases k2 : 2 ≤ k
  · refine op_repT pins s σ H _ _ _ _ Q I rx ry ⟨l, k, xs, rfl, rfl, hT, hne, k2, h2, hz, ?_⟩
    rcases q with ⟨e, _⟩ | ⟨_, q⟩
    · omega
    · exact q
  cases rx
  obtain ⟨t, rfl⟩ := ry
  obtain ⟨its, r, ⟨⟨cls, dd, data, sl⟩, ho, hc, m, hd⟩, hs⟩ := I.tuple hT
  simp only at hc hd
  subst hc hd
  have it0 : its.toArray.isEmpty = false := by
    cases its with
    | cons a b => rfl
    | nil =>
      cases r
      exact absurd rfl hne
  have tyI : ∀ s' : Shared, s'.TypeIs (.int k t) "int" := fun s' => typeIs_int s' k t
  rcases q with ⟨rfl, q⟩ | ⟨hk, q⟩
  · exact wpAny_binaryOp_repeat_ref (T := "tuple") (U := "int") (by decide) ⟨_, ho, rfl⟩ tyI noFill_tuple_mul F.fills_int_mul F.slot_int_rmul repeat_tuple F.slot_int_index.lookup
      (call_meets F.slot_int_rmul (tyI s) F.entry_int_rmul (F.args_int_rmul_2 _ _) (int_rmul_tuple 1 t l its.toArray m dd sl) ⟨ho, rfl, ⟨_, ho, rfl⟩, call_meets F.slot_tuple_mul ⟨_, ho, rfl⟩ F.entry_tuple_mul (F.args_tuple_mul_2 _ _) (mul_once l its.toArray m dd sl t) ⟨ho, .ref l, H, I, rfl, q⟩⟩)
  · obtain rfl : k = 0 := by omega
    refine wpAny_binaryOp_repeat_ref (T := "tuple") (U := "int") (by decide) ⟨_, ho, rfl⟩ tyI noFill_tuple_mul F.fills_int_mul F.slot_int_rmul repeat_tuple F.slot_int_index.lookup
      (call_meets F.slot_int_rmul (tyI s) F.entry_int_rmul (F.args_int_rmul_2 _ _) (int_rmul_tuple 0 t l its.toArray m dd sl) ⟨ho, rfl, ⟨_, ho, rfl⟩, call_meets F.slot_tuple_mul ⟨_, ho, rfl⟩ F.entry_tuple_mul (F.args_tuple_mul_2 _ _) (mul_none l its.toArray m dd sl t it0) ⟨ho, ?_⟩⟩)
    refine ⟨.ref s.heap.objs.size, _, I.laid (t' := s.toks) (o := .tup []) (fun b ob z => Heap.get?_push_of_some _ z) (Nat.le_refl _) ?_, rfl, q _ (I.hok.fresh (Nat.le_refl _))⟩
    exact ⟨Nat.zero_le _, [], .nil, IsTup.new _ _⟩
theorem q_repN {X : Cx} {K : PySem.W.Frag} (h : X.K = K) : OpR X (binaryOp .Mult) (rRepN K) := h ▸ op_repN
end TM

set_option Elab.async false
set_option linter.all false
set_option maxRecDepth 100000
set_option maxHeartbeats 1000000
/-! data of tuples alone: it stands while lists and dicts change -/
namespace DW
open PySem PySem.Spec PyProof.Rows L2 HK DT
theorem units1 {n : Nat} (h : n + 64 < cLine) : n + 1 < cLine := by omega
mutual
def fz : PyData → Bool
  | .none => true
  | .bool _ => true
  | .int _ => true
  | .str _ => true
  | .tuple ds => fzAll ds
  | .list _ => false
  | .dict _ => false
def fzAll : List PyData → Bool
  | [] => true
  | d :: ds => fz d && fzAll ds
end
/-- no tuple stands there -/
def NT (H : Hp) (s : Addr) : Prop := (∃ xs, H s = some (.lst xs)) ∨ (∃ kvs, H s = some (.dT kvs)) ∨ H s = none
def NTs (S : List Addr) (H : Hp) : Prop := ∀ s ∈ S, NT H s
section
variable {K : PySem.W.Frag} {tb S : List Addr} {H H' : Hp}
theorem sqT_keep {a : Addr} {xs : List V} (nt : NTs S H) (e : Ext tb S H H') (t : Tabs tb H) (h : SqT K H a xs) : SqT K H' a xs := by
  rcases h with h | h
  · refine .inl (e.rd t (.inr ⟨_, rfl⟩) h fun z => ?_)
    rcases nt a z with ⟨ys, g⟩ | ⟨ys, g⟩ | g
    · rcases h with h | ⟨o, h⟩ <;> (rw [g] at h; cases h)
    · rcases h with h | ⟨o, h⟩ <;> (rw [g] at h; cases h)
    · rcases h with h | ⟨o, h⟩ <;> (rw [g] at h; cases h)
  · exact .inr h
mutual
theorem fz_ext (nt : NTs S H) (e : Ext tb S H H') (t : Tabs tb H) : ∀ (d : PyData) {v : V}, fz d = true → Rp K H v d → Rp K H' v d
  | .none, _, _, .non => .non
  | .bool b, _, _, .bl _ => .bl b
  | .int i, _, _, .int _ => .int i
  | .str s, _, _, .str _ => .str s
  | .tuple ds, _, f, .tup h a => .tup (sqT_keep nt e t h) (fzAll_ext nt e t ds f a)
theorem fzAll_ext (nt : NTs S H) (e : Ext tb S H H') (t : Tabs tb H) : ∀ (ds : List PyData) {vs : List V}, fzAll ds = true → RpAll K H vs ds → RpAll K H' vs ds
  | [], _, _, .nil => .nil
  | d :: ds, _, f, .cons h a => by
    have f : (fz d && fzAll ds) = true := f
    rw [Bool.and_eq_true] at f
    exact .cons (fz_ext nt e t d f.1 h) (fzAll_ext nt e t ds f.2 a)
end
theorem fz_get : ∀ {ds : List PyData} {i : Nat} {d : PyData}, fzAll ds = true → ds[i]? = some d → fz d = true
  | [], _, _, _, h => by simp at h
  | x :: r, 0, d, f, h => by
    simp at h
    subst h
    exact (Bool.and_eq_true_iff.mp (show (fz x && fzAll r) = true from f)).1
  | x :: r, i + 1, d, f, h => fz_get (ds := r) (i := i) (Bool.and_eq_true_iff.mp (show (fz x && fzAll r) = true from f)).2 (by simpa using h)
theorem fz_take : ∀ {ds : List PyData} (i : Nat), fzAll ds = true → fzAll (ds.take i) = true
  | _, 0, _ => rfl
  | [], _ + 1, _ => rfl
  | x :: r, i + 1, f => by
    have f := Bool.and_eq_true_iff.mp (show (fz x && fzAll r) = true from f)
    show (fz x && fzAll (r.take i)) = true
    rw [f.1, fz_take i f.2] <;> rfl
theorem fz_ints : ∀ ns : List Int, fzAll (ns.map PyData.int) = true
  | [] => rfl
  | n :: r => by
    show (true && fzAll (r.map PyData.int)) = true
    rw [fz_ints r] <;> rfl
end
end DW

set_option Elab.async false
set_option linter.all false
set_option maxRecDepth 100000
set_option maxHeartbeats 1000000
/-! a dict comprehension, whatever it stores: `put H D y v H'` says what a turn does to the new dict D -/
namespace DC
open PySem PySem.Spec PyProof.Rows L2
theorem units0 {n : Nat} (h : n + 64 < cLine) : n < cLine := by omega
theorem q_fld {X : Cx} {K : PySem.W.Frag} {e : Expr} {f : Str} {pos : Pos} {ta : TE} (h : X.K = K) (he : PE X e ta) (hb : attributeBase e f X.env (eval e X.env) = eval e X.env) : PE X (.Attribute e f pos) (tFld K ta f) := h ▸ pe_fld he hb
abbrev Put := Hp → Addr → V → V → Hp → Prop
structure Stores (Y : Cx) (put : Put) : Prop where
  run : ∀ {pins : List (Addr × Obj)} {σ : L2.St} {H H' : Hp} {s : Shared} {D : Addr} {y v : V} {u r : Value} {Q : Unit → Shared → Prop} {E : Value → Shared → Prop},
    L2.Inv Y pins σ H s → put H D y v H' → L2.RelV y u → L2.RelV v r → (∀ s', L2.Inv Y pins σ H' s' → Q () s') → wpAny (model Y.prog Y.w) Y.A (dictSet D u r) Q E s
/-- at a tuple of ints and texts -/
def putT : Put := fun H D y v H' => ∃ kvs k b, y = .ref b ∧ H D = some (.dT kvs) ∧ H b = some (.tup (k.map kV)) ∧ kvs.length < sizeLine ∧ H' = upd H D (.dT (putK kvs k v))
theorem stores_t {Y : Cx} (hu : Y.A.units < cLine) : Stores Y putT := by
  constructor
  rintro pins σ H H' s D y v u r Q E I ⟨kvs, k, b, rfl, hD, hb, hz, rfl⟩ ry rv h
  cases (show u = Value.ref b from ry)
  obtain ⟨z, hd, xs, rel, dd⟩ := dt_of I.hok hD
  refine wpAny_dictSet_heap (hsz := by have := Paired.length rel; omega) (show (tupleKind (mixKind Y.prog Y.w)).room Y.A from hu) (key_of I.hok hb) dd fun h' dd' hs => h _ ?_
  obtain ⟨q, es, ep, hq, k2, k3, k4, _, k5⟩ := dd'
  exact d_write I (by rw [hD]; exact True.intro) hs ⟨q, hq⟩ ⟨by have := length_putK kvs k v; omega, hd, _, (rel.put k hb rv).keeps fun c ys ec => by rw [upd_ne (ne_of ec hD fun z => nomatch z)]; exact ec, q, es, ep, hq, k2, k3, k4, k5⟩
/-- {k: v for target in iter}: D the new dict, ob0 what stands there first -/
def tDg (ob0 : HO) (put : Put) (wi : TI) (g : TG) (tk tv : TE) (vs : List Nat) : TE := fun σ H Q => wi σ H fun J H1 => ∀ D, H1 D = none →
  ∃ W : Nat → Nat → Hp → Prop, (∃ m, W 0 m (upd H1 D ob0)) ∧ ∀ i m H, W i m H → (J.stop i H ∧ Q (.ref D) H) ∨
    (J.go i H ∧ ∃ Nx : Hp → Prop, (∀ H', Nx H' → ∃ m', m' < m ∧ W (i + 1) m' H') ∧ ∀ x H', J.yld i H x H' →
      g x (wipe σ vs) H' fun σ2 H2 => wipe σ2 vs = wipe σ vs ∧ tk σ2 H2 fun y H4 => tv σ2 H4 fun z H5 => ∃ H6, put H5 D y z H6 ∧ Nx H6)
theorem pe_dcg {X : Cx} {kx vx tg iter : Expr} {scope : Scope} {own : List (Str × Nat)} {pos : Pos} {wi : TI} {g : TG} {tk tv : TE} {ob0 : HO} {put : Put}
    (hc : X.calm = true) (hN : X.N.Nodup) (hi : PI X tg iter wi) (ok : BlkOk X.N X.env.scope scope own)
    (h0 : ∀ (P : Program) (w : World) (H : Hp) (h : Heap), sysModules < h.objs.size → ObjOk P w H (h.push { cls := .type "dict", data := .dict #[] }) h.objs.size ob0)
    (hp : ∀ s H C cl fp, Stores (X.blk s H scope (compEnvC scope cl C X.env) fp) put)
    (hg : ∀ s H C cl fp, PG (X.blk s H scope (compEnvC scope cl C X.env) fp) tg g)
    (hk : ∀ s H C cl fp, PE (X.blk s H scope (compEnvC scope cl C X.env) fp) kx tk)
    (he : ∀ s H C cl fp, PE (X.blk s H scope (compEnvC scope cl C X.env) fp) vx tv)
    (hs : ∀ x, foldedSetIterable iter X.env x = pure x := by intro _; rfl) :
    PE X (.DictComp kx vx [⟨tg, iter, [], 0⟩] scope pos) (tDg ob0 put wi g tk tv (own.map (·.2))) := by
  constructor
  intro pins s σ H Q I h
  rw [arm_eval_DictComp]
  have clo : ∀ y ∈ scope.names, y.2 = .free → ∃ c, X.env.cells.lookup y.1 = some c := fun y hy e => (ok.free y hy e).elim (fun k => I.ok.has _ (.inl k)) (fun k => I.ok.has _ (.inr k))
  apply wpAny_comprehension_free (use := none) rfl hs (closure_ok clo) ok.kind (by intro y hy e; rw [ok.uniq y hy, e])
  apply thn (hi.run pins s σ H _ I h)
  intro xv s1 hx
  apply thn hx
  rintro _ s2 ⟨it, fp, tn, J, H2, rfl, I2, T, st2, f2, q⟩
  refine wpAny_newObj_type (newEnv_comp ?_)
  obtain ⟨W, ⟨m0, w0⟩, turn⟩ := q _ (I2.hok.fresh (Nat.le_refl s2.heap.objs.size))
  have I3 := I2.laid (t' := s2.toks) (o := ob0) (fun b o e => Heap.get?_push_of_some { cls := .type "dict", data := .dict #[] } e) (Nat.le_refl s2.heap.objs.size) (h0 _ _ _ _ I2.big)
  have lt2 : ∀ b ∈ fp, b < s2.heap.objs.size := fun b hb => let ⟨_, e, _⟩ := T.obj _ _ st2 b hb; Heap.lt_size e
  have f3 : ∀ b ∈ fp, FpOk X pins (upd H2 s2.heap.objs.size ob0) b := fun b hb => ⟨(upd_ne (Nat.ne_of_lt (lt2 b hb))).trans (f2 b hb).1, (f2 b hb).2⟩
  have st3 : tn 0 (s2.heap.push { cls := .type "dict", data := .dict #[] }) := T.keep _ _ _ st2 fun b _ o e => Heap.get?_push_of_some _ e
  have lt3 : ∀ b ∈ fp, b < (s2.heap.push { cls := .type "dict", data := .dict #[] }).objs.size := fun b hb => by
    rw [Heap.size_push]
    exact Nat.lt_succ_of_lt (lt2 b hb)
  generalize s2.heap.objs.size = D at I3 f3 w0 turn ⊢
  generalize upd H2 D ob0 = H3 at I3 f3 w0
  generalize hs3 : ({ s2 with heap := s2.heap.push { cls := .type "dict", data := .dict #[] } } : Shared) = s3 at I3 ⊢
  have hh : s2.heap.push { cls := .type "dict", data := .dict #[] } = s3.heap := by rw [← hs3]
  rw [hh] at st3 lt3
  have I4 := block_start I3 ok hN fun b hb => ⟨f3 b hb, lt3 b hb⟩
  have pp := hp s3 H3 s3.heap.objs.size (cellsFrom (s3.heap.objs.size + 1) scope.names (cloFrom X.env.cells scope.names [])) fp
  have pg := hg s3 H3 s3.heap.objs.size (cellsFrom (s3.heap.objs.size + 1) scope.names (cloFrom X.env.cells scope.names [])) fp
  have pk := hk s3 H3 s3.heap.objs.size (cellsFrom (s3.heap.objs.size + 1) scope.names (cloFrom X.env.cells scope.names [])) fp
  have pv := he s3 H3 s3.heap.objs.size (cellsFrom (s3.heap.objs.size + 1) scope.names (cloFrom X.env.cells scope.names [])) fp
  have st4 : tn 0 (pushCells (s3.heap.push { cls := .type "dict", data := .dict #[] }) scope.names) := T.keep _ _ _ st3 fun b _ o e => pushCells_keeps _ _ _ _ (Heap.get?_push_of_some _ e)
  clear q hx h hg hk he hp I2
  generalize hce : compEnvC scope (cellsFrom (s3.heap.objs.size + 1) scope.names (cloFrom X.env.cells scope.names [])) s3.heap.objs.size X.env = ce at I4 pp pg pk pv
  change codeAny _ _ (.compStart _ 0 (.ref it) (.ref D) (compEnvC scope (cellsFrom (s3.heap.objs.size + 1) scope.names (cloFrom X.env.cells scope.names [])) s3.heap.objs.size X.env)) (compPost _ _ _ _ _ (.ref D) s3.heap.objs.size) _
  rw [hce]
  have cL : ce.locals = s3.heap.objs.size := by rw [← hce]; rfl
  generalize hs4 : ({ s3 with heap := pushCells (s3.heap.push { cls := .type "dict", data := .dict #[] }) scope.names } : Shared) = s4 at I4 ⊢
  have st4' : tn 0 s4.heap := by rw [← hs4]; exact st4
  have stat : ∀ (σ' : L2.St) (H' : Hp) (s' : Shared), L2.Inv (X.blk s3 H3 scope ce fp) [] σ' H' s' → (∀ b ∈ fp, H' b = none) → ∀ b ∈ fp, FpOk (X.blk s3 H3 scope ce fp) [] H' b := by
    intro σ' H' s' J' e b hb
    have z := J'.ok.exf b hb
    exact ⟨e b hb, z.1, J'.ok.exfs b hb, .inl hb, z.2, fun p hp => by cases hp⟩
  suffices loop : codeAny (model X.prog X.w) X.A (.compLoop (.DictComp kx vx [⟨tg, iter, [], 0⟩] scope pos) 0 (.ref it) (.ref D) ce) (compPost (model X.prog X.w) X.A X.xe none (EP X pins σ Q) (.ref D) s3.heap.objs.size) s4 from
    codeAny_compStart_dict loop (T.self X.A 0 _ _ _ st4' loop)
  apply compLoop_anyD (fun n s' => ∃ i H', L2.Inv (X.blk s3 H3 scope ce fp) [] (wipe σ (own.map (·.2))) H' s' ∧ tn i s'.heap ∧ (∀ b ∈ fp, H' b = none) ∧ W i n H') _ m0 ⟨0, H3, I4, st4', fun b hb => (f3 b hb).1, w0⟩
  rintro n s5 ⟨i, H5, I5, st5, n5, w5⟩
  obtain ⟨stop, qq⟩ | ⟨go, Nx, hNx, step⟩ := turn i n H5 w5
  · apply thnF (T.done (X.blk s3 H3 scope ce fp) rfl rfl rfl hc i [] s5 _ H5 (fun _ _ => False) I5 (stat _ _ _ I5 n5) st5 stop)
    rintro _ s6 ⟨rfl, I6⟩
    have I7 : L2.Inv X pins σ H5 s6 := by
      apply I3.call' (ch := fp) I6.os I6.base I6.hok I6.bare
      intro b hb
      have z := (f3 b hb).2
      exact ⟨z.2.2.1, z.1, z.2.2.2.1, z.2.2.2.2⟩
    have nC : H5 s3.heap.objs.size = none := cL ▸ I6.free
    obtain ⟨m, hn, _⟩ := I6.loc
    have hn : s6.heap.Ns s3.heap.objs.size m := cL ▸ (show s6.heap.Ns ce.locals m from hn)
    obtain ⟨u0, u1, u2, u3, u4, u5⟩ := I3.fpOk (Nat.le_refl _) nC
    exact ⟨m, hn, fun h'' sb => ⟨.ref D, H5, I7.turned (t' := s6.toks) (fun b o hb e => (sb.2 b hb).trans e) u0 u1 u3 u4 u5, rfl, qq⟩⟩
  · apply thnF (T.item (X.blk s3 H3 scope ce fp) rfl rfl rfl hc i [] s5 _ H5 (fun _ _ => False) I5 (stat _ _ _ I5 n5) st5 go)
    rintro _ s6 ⟨u, rfl, h6⟩
    apply thnF h6
    rintro _ s7 ⟨x, H7, I7, r7, y7, st7, n7⟩
    have P7 := I7.pinned (stat _ _ _ I7 n7) (T.obj _ _ st7)
    apply thnF (pg.run _ s7 _ H7 x u _ P7 r7 (step x H7 y7))
    rintro _ s8 ⟨σ8, H8, I8, hw8, q8⟩
    apply wpAny_tests_nil
    rw [if_pos rfl]
    apply thnF (pk.run _ s8 σ8 H8 _ I8 q8)
    rintro zk s9 ⟨yk, H9, I9, r9, q9⟩
    apply thnF (pv.run _ s9 σ8 H9 _ I9 q9)
    rintro zv s10 ⟨yv, H10, I10, r10, H11, hput, nx⟩
    apply pp.run I10 hput r9 r10
    intro s11 I11
    obtain ⟨m', hm, w'⟩ := hNx _ nx
    have stays : ∀ b ∈ fp, ∀ o, s7.heap.get? b = some o → s11.heap.get? b = some o ∧ H11 b = none := by
      intro b hb o e
      have z := I11.pin (b, o) (List.mem_append_right _ (List.mem_append_right _ (mem_pinsAt hb e)))
      exact ⟨z.1, z.2.1⟩
    refine ⟨m', hm, i + 1, H11, ?_, T.keep _ _ _ st7 fun b hb o e => (stays b hb o e).1, fun b hb => ?_, w'⟩
    · apply (I11.unpinned (pins := [])).weak
      · rw [← hw8, wipe_length]
      · intro j v e
        rw [← hw8] at e
        exact (wipe_some e).1
    · obtain ⟨o, e, _⟩ := T.obj _ _ st7 b hb
      exact (stays b hb o e).2
/-- with keys that are tuples -/
theorem pe_dcT {X : Cx} {kx vx tg iter : Expr} {scope : Scope} {own : List (Str × Nat)} {pos : Pos} {wi : TI} {g : TG} {tk tv : TE}
    (hu : X.A.units < cLine) (hc : X.calm = true) (hN : X.N.Nodup) (hi : PI X tg iter wi) (ok : BlkOk X.N X.env.scope scope own)
    (hg : ∀ s H C cl fp, PG (X.blk s H scope (compEnvC scope cl C X.env) fp) tg g)
    (hk : ∀ s H C cl fp, PE (X.blk s H scope (compEnvC scope cl C X.env) fp) kx tk)
    (he : ∀ s H C cl fp, PE (X.blk s H scope (compEnvC scope cl C X.env) fp) vx tv)
    (hs : ∀ x, foldedSetIterable iter X.env x = pure x := by intro _; rfl) :
    PE X (.DictComp kx vx [⟨tg, iter, [], 0⟩] scope pos) (tDg (.dT []) putT wi g tk tv (own.map (·.2))) :=
  pe_dcg hc hN hi ok (fun _ _ _ h hb => dt_empty h hb) (fun _ _ _ _ _ => stores_t hu) hg hk he hs
end DC

set_option Elab.async false
set_option linter.all false
set_option maxRecDepth 100000
set_option maxHeartbeats 1000000
namespace K22
open PySem PySem.Spec PyProof.Rows L2 HK DT DW
def topS (i : Nat) : Stmt := PySem.Challenge.pw_snapshelf_k22_steps_cut.main.body.getD i (.Pass ⟨0, 0, 0, 0⟩)
/-! copied: slots one=0 part=1 key=2; cells ['one'] -/
abbrev s_copied : Stmt := topS 11
abbrev n_copied : List Str := ["one", "part", "key"]
theorem sc_copied : FnScope n_copied ["one"] (defScope s_copied) := ⟨rfl, rfl, rfl, by decide +kernel, rfl, by decide +kernel, by decide +kernel⟩
/-! sum_of: slots spot=0 content=1 total=2 number=3; cells [] -/
abbrev s_sum_of : Stmt := topS 14
abbrev n_sum_of : List Str := ["spot", "content", "total", "number"]
theorem sc_sum_of : FnScope n_sum_of ["spot", "content"] (defScope s_sum_of) := ⟨rfl, rfl, rfl, by decide +kernel, rfl, by decide +kernel, by decide +kernel⟩
/-! cell_of: slots spot=0 content=1; cells [] -/
abbrev s_cell_of : Stmt := topS 15
abbrev n_cell_of : List Str := ["spot", "content"]
theorem sc_cell_of : FnScope n_cell_of ["spot", "content"] (defScope s_cell_of) := ⟨rfl, rfl, rfl, by decide +kernel, rfl, by decide +kernel, by decide +kernel⟩
/-! __init__: slots self=0 places=1; cells [] -/
abbrev s_Disk_init : Stmt := inClass (topS 18) 0
abbrev n_Disk_init : List Str := ["self", "places"]
theorem sc_Disk_init : FnScope n_Disk_init ["self", "places"] (defScope s_Disk_init) := ⟨rfl, rfl, rfl, by decide +kernel, rfl, by decide +kernel, by decide +kernel⟩
/-! write: slots self=0 copy=1 spot=2 content=3; cells [] -/
abbrev s_Disk_write : Stmt := inClass (topS 18) 3
abbrev n_Disk_write : List Str := ["self", "copy", "spot", "content"]
theorem sc_Disk_write : FnScope n_Disk_write ["self", "copy", "spot", "content"] (defScope s_Disk_write) := ⟨rfl, rfl, rfl, by decide +kernel, rfl, by decide +kernel, by decide +kernel⟩
/-! cell: slots self=0 copy=1 spot=2; cells [] -/
abbrev s_Disk_cell : Stmt := inClass (topS 18) 5
abbrev n_Disk_cell : List Str := ["self", "copy", "spot"]
theorem sc_Disk_cell : FnScope n_Disk_cell ["self", "copy", "spot"] (defScope s_Disk_cell) := ⟨rfl, rfl, rfl, by decide +kernel, rfl, by decide +kernel, by decide +kernel⟩
/-! twin: slots self=0 other=1 key=2; cells ['self'] -/
abbrev s_Disk_twin : Stmt := inClass (topS 18) 6
abbrev n_Disk_twin : List Str := ["self", "other", "key"]
theorem sc_Disk_twin : FnScope n_Disk_twin ["self"] (defScope s_Disk_twin) := ⟨rfl, rfl, rfl, by decide +kernel, rfl, by decide +kernel, by decide +kernel⟩
/-! groups_of: slots steps=0 groups=1 step=2; cells [] -/
abbrev s_groups_of : Stmt := topS 2
abbrev n_groups_of : List Str := ["steps", "groups", "step"]
theorem sc_groups_of : FnScope n_groups_of ["steps"] (defScope s_groups_of) := ⟨rfl, rfl, rfl, by decide +kernel, rfl, by decide +kernel, by decide +kernel⟩
/-! do_steps: slots disk=0 steps=1 step=2 word=3 copy=4 spot=5 content=6; cells [] -/
abbrev s_do_steps : Stmt := topS 3
abbrev n_do_steps : List Str := ["disk", "steps", "step", "word", "copy", "spot", "content"]
theorem sc_do_steps : FnScope n_do_steps ["disk", "steps"] (defScope s_do_steps) := ⟨rfl, rfl, rfl, by decide +kernel, rfl, by decide +kernel, by decide +kernel⟩
/-! cut_steps: slots disk=0 steps=1 group=2 kept=3 groups=4 puts=5 number=6; cells ['group', 'groups'] -/
abbrev s_cut_steps : Stmt := topS 4
abbrev n_cut_steps : List Str := ["disk", "steps", "group", "kept", "groups", "puts", "number"]
theorem sc_cut_steps : FnScope n_cut_steps ["disk", "steps", "group", "kept"] (defScope s_cut_steps) := ⟨rfl, rfl, rfl, by decide +kernel, rfl, by decide +kernel, by decide +kernel⟩
/-! _law_mixed: slots _law_cell=0 _law_k=1 _law_number=2; cells [] -/
abbrev s_l_mixed : Stmt := topS 20
abbrev n_l_mixed : List Str := ["_law_cell", "_law_k", "_law_number"]
theorem sc_l_mixed : FnScope n_l_mixed ["_law_cell", "_law_k"] (defScope s_l_mixed) := ⟨rfl, rfl, rfl, by decide +kernel, rfl, by decide +kernel, by decide +kernel⟩
/-! _law_draws: slots _law_script=0 _law_drawn=1 _law_k=2 _law_cell=3 _law_j=4; cells [] -/
abbrev s_l_draws : Stmt := topS 21
abbrev n_l_draws : List Str := ["_law_script", "_law_drawn", "_law_k", "_law_cell", "_law_j"]
theorem sc_l_draws : FnScope n_l_draws ["_law_script"] (defScope s_l_draws) := ⟨rfl, rfl, rfl, by decide +kernel, rfl, by decide +kernel, by decide +kernel⟩
/-! _law_next: slots _law_drawn=0; cells [] -/
abbrev s_l_next : Stmt := topS 22
abbrev n_l_next : List Str := ["_law_drawn"]
theorem sc_l_next : FnScope n_l_next ["_law_drawn"] (defScope s_l_next) := ⟨rfl, rfl, rfl, by decide +kernel, rfl, by decide +kernel, by decide +kernel⟩
/-! _law_same: slots _law_found=0 _law_due=1; cells [] -/
abbrev s_l_same : Stmt := topS 23
abbrev n_l_same : List Str := ["_law_found", "_law_due"]
theorem sc_l_same : FnScope n_l_same ["_law_found", "_law_due"] (defScope s_l_same) := ⟨rfl, rfl, rfl, by decide +kernel, rfl, by decide +kernel, by decide +kernel⟩
/-! _law_all_same: slots _law_found=0 _law_due=1 _law_one=2 _law_other=3; cells [] -/
abbrev s_l_all_same : Stmt := topS 24
abbrev n_l_all_same : List Str := ["_law_found", "_law_due", "_law_one", "_law_other"]
theorem sc_l_all_same : FnScope n_l_all_same ["_law_found", "_law_due"] (defScope s_l_all_same) := ⟨rfl, rfl, rfl, by decide +kernel, rfl, by decide +kernel, by decide +kernel⟩
/-! _law_sum: slots _law_spot=0 _law_content_here=1 _law_number=2 _law_one=3; cells [] -/
abbrev s_l_sum : Stmt := topS 25
abbrev n_l_sum : List Str := ["_law_spot", "_law_content_here", "_law_number", "_law_one"]
theorem sc_l_sum : FnScope n_l_sum ["_law_spot", "_law_content_here"] (defScope s_l_sum) := ⟨rfl, rfl, rfl, by decide +kernel, rfl, by decide +kernel, by decide +kernel⟩
/-! _law_content: slots _law_drawn=0 _law_number=1 _law_k=2; cells ['_law_number'] -/
abbrev s_l_content : Stmt := topS 26
abbrev n_l_content : List Str := ["_law_drawn", "_law_number", "_law_k"]
theorem sc_l_content : FnScope n_l_content ["_law_drawn"] (defScope s_l_content) := ⟨rfl, rfl, rfl, by decide +kernel, rfl, by decide +kernel, by decide +kernel⟩
/-! _law_steps: slots _law_drawn=0 _law_spots=1 _law_steps_here=2 _law_k=3 _law_number=4 _law_spot=5; cells [] -/
abbrev s_l_steps : Stmt := topS 27
abbrev n_l_steps : List Str := ["_law_drawn", "_law_spots", "_law_steps_here", "_law_k", "_law_number", "_law_spot"]
theorem sc_l_steps : FnScope n_l_steps ["_law_drawn", "_law_spots"] (defScope s_l_steps) := ⟨rfl, rfl, rfl, by decide +kernel, rfl, by decide +kernel, by decide +kernel⟩
/-! _law_groups: slots _law_steps_here=0 _law_groups_here=1 _law_step=2; cells [] -/
abbrev s_l_groups : Stmt := topS 28
abbrev n_l_groups : List Str := ["_law_steps_here", "_law_groups_here", "_law_step"]
theorem sc_l_groups : FnScope n_l_groups ["_law_steps_here"] (defScope s_l_groups) := ⟨rfl, rfl, rfl, by decide +kernel, rfl, by decide +kernel, by decide +kernel⟩
/-! _law_put: slots _law_cells=0 _law_puts=1 _law_word=2 _law_copy=3 _law_spot=4 _law_content_here=5; cells [] -/
abbrev s_l_put : Stmt := topS 29
abbrev n_l_put : List Str := ["_law_cells", "_law_puts", "_law_word", "_law_copy", "_law_spot", "_law_content_here"]
theorem sc_l_put : FnScope n_l_put ["_law_cells", "_law_puts"] (defScope s_l_put) := ⟨rfl, rfl, rfl, by decide +kernel, rfl, by decide +kernel, by decide +kernel⟩
/-! _law_has: slots _law_disk=0 _law_cells=1 _law_copy=2 _law_spot=3; cells [] -/
abbrev s_l_has : Stmt := topS 30
abbrev n_l_has : List Str := ["_law_disk", "_law_cells", "_law_copy", "_law_spot"]
theorem sc_l_has : FnScope n_l_has ["_law_disk", "_law_cells"] (defScope s_l_has) := ⟨rfl, rfl, rfl, by decide +kernel, rfl, by decide +kernel, by decide +kernel⟩
/-! _law_filled: slots _law_disk=0 _law_drawn=1 _law_cells=2 _law_step=3; cells [] -/
abbrev s_l_filled : Stmt := topS 31
abbrev n_l_filled : List Str := ["_law_disk", "_law_drawn", "_law_cells", "_law_step"]
theorem sc_l_filled : FnScope n_l_filled ["_law_disk", "_law_drawn"] (defScope s_l_filled) := ⟨rfl, rfl, rfl, by decide +kernel, rfl, by decide +kernel, by decide +kernel⟩
/-! _law_kept: slots _law_drawn=0 _law_many=1 _law_left=2 _law_kept_here=3 _law_k=4; cells [] -/
abbrev s_l_kept : Stmt := topS 32
abbrev n_l_kept : List Str := ["_law_drawn", "_law_many", "_law_left", "_law_kept_here", "_law_k"]
theorem sc_l_kept : FnScope n_l_kept ["_law_drawn", "_law_many"] (defScope s_l_kept) := ⟨rfl, rfl, rfl, by decide +kernel, rfl, by decide +kernel, by decide +kernel⟩
/-! _law_cut: slots _law_cells=0 _law_groups_here=1 _law_group=2 _law_kept_here=3 _law_found=4 _law_puts=5 _law_one=6 _law_number=7; cells ['_law_group', '_law_groups_here'] -/
abbrev s_l_cut : Stmt := topS 33
abbrev n_l_cut : List Str := ["_law_cells", "_law_groups_here", "_law_group", "_law_kept_here", "_law_found", "_law_puts", "_law_one", "_law_number"]
theorem sc_l_cut : FnScope n_l_cut ["_law_cells", "_law_groups_here", "_law_group", "_law_kept_here"] (defScope s_l_cut) := ⟨rfl, rfl, rfl, by decide +kernel, rfl, by decide +kernel, by decide +kernel⟩
/-! law: slots _law_script=0 _law_drawn=1 _law_disk=2 _law_cells=3 _law_steps_here=4 _law_groups_here=5 _law_k=6 _law_group=7 _law_kept_here=8 _law_handed=9 _law_twin=10 _law_last=11 _law_one=12 _law_other=13 _law_due=14; cells [] -/
abbrev s_law : Stmt := topS 34
abbrev n_law : List Str := ["_law_script", "_law_drawn", "_law_disk", "_law_cells", "_law_steps_here", "_law_groups_here", "_law_k", "_law_group", "_law_kept_here", "_law_handed", "_law_twin", "_law_last", "_law_one", "_law_other", "_law_due"]
theorem sc_law : FnScope n_law ["_law_script"] (defScope s_law) := ⟨rfl, rfl, rfl, by decide +kernel, rfl, by decide +kernel, by decide +kernel⟩
structure Txt (K : PySem.W.Frag) (mg : Str → Option Value) : Prop where
  b_abs : mg "abs" = none
  b_bool : mg "bool" = none
  b_dict : mg "dict" = none
  b_int : mg "int" = none
  b_isinstance : mg "isinstance" = none
  b_len : mg "len" = none
  b_list : mg "list" = none
  b_min : mg "min" = none
  b_range : mg "range" = none
  b_str : mg "str" = none
  b_tuple : mg "tuple" = none
  b_zip : mg "zip" = none
  m_MODULUS : GloE mg "MODULUS" (.int 2147483647)
section
variable {P : Program} {w : World} {K : PySem.W.Frag} {mg : Str → Option Value} {base : Heap} {f : Addr} {cd : Value}
/-! ### draws: whole numbers from 0 on, below 2147483629 -/
def Rg (x : Int) : Prop := 0 ≤ x ∧ x < 2147483629
structure Dr (ds : List Int) : Prop where
  len : ds.length ≤ 2000
  rg : ∀ x ∈ ds, Rg x
theorem Dr.snoc {ds : List Int} {x : Int} (h : ∀ x ∈ ds, Rg x) (hx : Rg x) : ∀ y ∈ ds ++ [x], Rg y := fun y hy => by
  rcases List.mem_append.mp hy with h1 | h1
  · exact h y h1
  · rw [List.mem_singleton.mp h1]
    exact hx
theorem rg_mod (x : Int) : Rg (x % 2147483629) := ⟨Int.emod_nonneg _ (by decide), Int.emod_lt_of_pos _ (by decide)⟩
theorem map_snoc (ds : List Int) (x : Int) : (ds ++ [x]).map V.int = ds.map V.int ++ [.int x] := by rw [List.map_append] <;> rfl
/-- _law_mixed: any number in the range -/
def spMixed : Sp := fun vs H Q _ => ∃ c k : Int, vs = [.int c, .int k] ∧ -1000 ≤ k ∧ k ≤ 1000 ∧ ∀ m, Rg m → Q (.int m) H
theorem ok_l_mixed (F : FnAt K mg "_law_mixed" s_l_mixed ["_law_cell", "_law_k"] f cd) : CalE P w K mg base CX0 1 "_law_mixed" spMixed := by
  refine F.cal sc_l_mixed (fun vs H Q E h => ?_) (fun A outer s H vs Q E hr h => ?_)
  · obtain ⟨c, k, rfl, _⟩ := h
    rfl
  · obtain ⟨c, k, rfl, k1, k2, q⟩ := h
    refine ⟨_, (pss_cons (ps_set (i := 2) sc_l_mixed.nd rfl (.inl rfl) (pe_op op_mod (pe_op op_add (pe_op op_add (pe_op op_mul (pe_op op_mod (pv 0) pe_int) pe_int) (pe_op op_mul (pe_op op_mul pe_int (pv 1)) (pv 1))) pe_int) pe_int))
      (pss_one (ps_ret (pe_op op_mod (pe_op op_mul (pv 2) (pv 2)) pe_int)))), ?_⟩
    have h1 : (0:Int) < 2147483647 := by decide
    have a1 := Int.emod_nonneg c (b := 2147483647) (by decide)
    have a2 := Int.emod_lt_of_pos c (b := 2147483647) (by decide)
    refine ⟨_, rfl, _, _, rfl, rfl, h1, _, _, rfl, rfl, .inr ⟨by decide, by decide⟩, _, rfl, _, _, rfl, rfl, .inl ⟨by decide, by decide⟩, _, rfl, _, _, rfl, rfl, .inr ⟨by omega, by omega⟩, _, _, rfl, rfl, _, _, rfl, rfl, _, _, rfl, rfl, h1, ?_⟩
    generalize hz : (c % 2147483647 * 48271 + 7919 * k * k + 104729) = z
    have b1 := Int.emod_nonneg z (b := 2147483647) (by decide)
    have b2 := Int.emod_lt_of_pos z (b := 2147483647) (by decide)
    refine ⟨_, rfl, _, rfl, _, _, rfl, rfl, .inl ⟨by omega, by omega⟩, _, _, rfl, rfl, (by show (0:Int) < 2147483629; decide), ?_⟩
    exact q _ (rg_mod _)
/-- _law_draws: a new list of numbers in the range -/
def spDraws (K : PySem.W.Frag) (tb : List Addr) : Sp := fun vs H Q _ => ∃ (a : Addr) (ns : List Int), vs = [.ref a] ∧ SqL K H a (ns.map V.int) ∧ ns.length ≤ 63 ∧ Tabs tb H ∧
  ∀ H' d ds, Ext tb [] H H' → H d = none → Dr ds → H' d = some (.lst (ds.map V.int)) → Q (.ref d) H'
theorem ok_l_draws {tb : List Addr} (T : Txt K mg) (F : FnAt K mg "_law_draws" s_l_draws ["_law_script"] f cd) (C_l_mixed : CalE P w K mg base CX0 1 "_law_mixed" spMixed) : CalE P w K mg base CX0 2 "_law_draws" (spDraws K tb) := by
  refine F.cal sc_l_draws (fun vs H Q E h => ?_) (fun A outer s H vs Q E hr h => ?_)
  · obtain ⟨a, ns, rfl, _⟩ := h
    rfl
  · obtain ⟨a, ns, rfl, hS, hl, hT, q⟩ := h
    refine ⟨_, (pss_cons (ps_set (i := 1) sc_l_draws.nd rfl (.inl rfl) (pe_lst pa_nil))
      (pss_cons (ps_for PassesOwn.never rfl (pi_range1 (by rfl) T.b_range (pa_cons (pe_callB (call_min2 rfl) (by rfl) T.b_min (by decide +kernel) (pa_cons (pe_callB (q_len (K := K) rfl) (by rfl) T.b_len PySem.boot_len (pa_cons (pv 0) pa_nil)) (pa_cons pe_int pa_nil))) pa_nil)) (pg_name (i := 2) sc_l_draws.nd rfl (.inl rfl)) (pss_cons (ps_set (i := 3) sc_l_draws.nd rfl (.inl rfl) (pe_callB call_abs (by rfl) T.b_abs (by decide +kernel) (pa_cons (pe_ix (q_ixL (K := K) rfl) (pv 0) (pv 2) (fun _ _ => rfl)) pa_nil)))
      (C8.pss_cut (ps_if (pt_cmpR op_lt (pv 3) (pe_op op_pow pe_int pe_int) (nomark _)) (pss_one (ps_for PassesOwn.never rfl (pi_range1 (by rfl) T.b_range (pa_cons pe_int pa_nil)) (pg_name (i := 4) sc_l_draws.nd rfl (.inl rfl)) (pss_one (ps_expr (q_bm (K := K) rfl PySem.F.plainAttrs_list PySem.F.slot_list_append PySem.F.type_list_append mt_append (pv 1) (pa_cons (pe_cal C_l_mixed (hr.mono (by first | decide | omega)) (by rfl) (pa_cons (pe_cal C_l_mixed (hr.mono (by first | decide | omega)) (by rfl) (pa_cons (pv 3) (pa_cons (pe_op op_add (pe_op op_mul pe_int (pv 4)) pe_int) pa_nil))) (pa_cons (pe_op op_add (pe_op op_add (pv 4) (pv 2)) pe_int) pa_nil))) pa_nil)))))) pss_nil)
      (C8.pss_cut (ps_while PassesOwn.never (PW.pt (pw_and (pt_cmpR op_ge (pv 3) (pe_op op_pow pe_int pe_int) (nomark _)) (pw_and1 (pt_cmpR op_lt (pe_callB (q_len (K := K) rfl) (by rfl) T.b_len PySem.boot_len (pa_cons (pv 1) pa_nil)) pe_int (nomark _))))) (pss_cons (ps_expr (q_bm (K := K) rfl PySem.F.plainAttrs_list PySem.F.slot_list_append PySem.F.type_list_append mt_append (pv 1) (pa_cons (pe_op op_mod (pv 3) pe_int) pa_nil)))
      (pss_one (ps_set (i := 3) sc_l_draws.nd rfl (.inl rfl) (pe_op op_fdivW (pv 3) pe_int)))))
      (pss_one (ps_if (pt_cmpR op_ge (pv 3) pe_int (nomark _)) (pss_one (ps_expr (q_bm (K := K) rfl PySem.F.plainAttrs_list PySem.F.slot_list_append PySem.F.type_list_append mt_append (pv 1) (pa_cons (pe_op op_mod (pv 3) pe_int) pa_nil)))) pss_nil))))))
      (pss_one (ps_ret (pv 1))))), ?_⟩
    have p18 : (10:Int) ^ (18:Int).toNat = 1000000000000000000 := by decide
    -- drawn = []
    refine ⟨by show 0 ≤ sizeLine; decide, fun d nd => ?_⟩
    have e0 : Ext tb [] H (upd H d (.lst [])) := Ext.new hT nd
    -- for k in range(min(len(script), 63))
    refine ⟨_, rfl, _, _, rfl, .inl ⟨_, e0.sqL hT hS (by simp), rfl⟩, _, _, rfl, ?_⟩
    have hn : (if (63:Int) < ((ns.map V.int).length : Int) then (63:Int) else ((ns.map V.int).length : Int)) = (ns.length : Int) := by
      rw [List.length_map]
      split <;> omega
    rw [hn]
    refine ⟨_, rfl, by omega, by omega, for_range (lo := 0) (n := (ns.length : Int).toNat) (fun i σ H1 => ∃ (ds : List Int) (y2 y3 y4 : Option V), σ = [some (.ref a), some (.ref d), y2, y3, y4] ∧ Ext tb [] H H1 ∧ H1 d = some (.lst (ds.map V.int)) ∧ (∀ x ∈ ds, Rg x) ∧ ds.length ≤ 900 + 13 * i)
      ⟨[], none, none, none, rfl, e0, upd_same, fun x hx => (by cases hx), by simp⟩ ?_ ?_⟩
    · rintro i σ H1 hi ⟨ds, y2, y3, y4, rfl, ex, hd, hrg, hlen⟩
      have hi' : i < ns.length := by omega
      have g1 : (ns.map V.int)[i]? = some (.int ns[i]) := by rw [List.getElem?_map, List.getElem?_eq_getElem hi'] <;> rfl
      generalize hz : ns[i] = z at g1
      -- cell = abs(script[k])
      refine ⟨_, rfl, _, rfl, a, _, (i : Int), .int z, rfl, by simp, ex.sqL hT hS (by simp), atI_nat g1, _, rfl, ?_⟩
      generalize hc : (if z < 0 then -z else z) = c
      have hc0 : 0 ≤ c := by rw [← hc]; split <;> omega
      -- if cell < 10 ** 18
      refine ⟨fun σ' H2 => ∃ (ds1 : List Int) (y4 : Option V), σ' = [some (.ref a), some (.ref d), some (.int (0 + (i : Int))), some (.int c), y4] ∧ Ext tb [] H H2 ∧ H2 d = some (.lst (ds1.map V.int)) ∧ (∀ x ∈ ds1, Rg x) ∧ (ds1.length ≤ 900 + 13 * i ∨ (ds1.length ≤ 900 + 13 * i + 12 ∧ c < 1000000000000000000)), ?_, ?_⟩
      · refine ⟨_, rfl, _, _, rfl, rfl, ⟨by decide, by decide, by decide⟩, _, _, rfl, rfl, _, rfl, ite2 (fun e => ?_) (fun e => ?_)⟩
        · have hlt : c < 1000000000000000000 := of_decide_eq_true e
          refine ⟨_, rfl, by decide, by decide, for_range (lo := 0) (n := (12 : Int).toNat) (fun j σ H2 => ∃ (ds1 : List Int) (y4 : Option V), σ = [some (.ref a), some (.ref d), some (.int (0 + (i : Int))), some (.int c), y4] ∧ Ext tb [] H H2 ∧ H2 d = some (.lst (ds1.map V.int)) ∧ (∀ x ∈ ds1, Rg x) ∧ ds1.length ≤ 900 + 13 * i + j)
            ⟨ds, y4, rfl, ex, hd, hrg, by omega⟩ ?_ ?_⟩
          · rintro j σ H2 hj ⟨ds1, y4, rfl, ex2, hd2, hrg2, hlen2⟩
            have hj' : j < 12 := hj
            refine ⟨_, rfl, .inl ⟨rfl, _, SqL.of hd2⟩, _, rfl, _, rfl, _, _, rfl, rfl, .inl ⟨by decide, by decide⟩, _, _, rfl, rfl, _, _, rfl, by omega, by omega, fun m hm => ?_⟩
            refine ⟨_, rfl, _, rfl, _, _, rfl, rfl, _, _, rfl, rfl, _, _, rfl, by omega, by omega, fun m2 hm2 => ?_⟩
            refine ⟨d, _, _, rfl, rfl, hd2, ?_, ?_⟩
            · rw [List.length_map]
              exact Nat.lt_of_le_of_lt hlen2 (Nat.lt_of_lt_of_le (show 900 + 13 * i + j < 100000 by omega) (by decide))
            · refine ⟨ds1 ++ [m2], some (.int (0 + (j : Int))), rfl, Ext.own hT ex2 nd, ?_, Dr.snoc hrg2 hm2, by rw [List.length_append]; show ds1.length + 1 ≤ _; omega⟩
              rw [upd_same, map_snoc]
          · rintro σ H2 ⟨ds1, y4, rfl, ex2, hd2, hrg2, hlen2⟩
            exact ⟨ds1, y4, rfl, ex2, hd2, hrg2, .inr ⟨hlen2, hlt⟩⟩
        · exact ⟨ds, y4, rfl, ex, hd, hrg, .inl hlen⟩
      · rintro σ' H2 ⟨ds1, y4, rfl, ex2, hd2, hrg2, hlen2⟩
        -- the while
        refine ⟨fun σ' H2 => ∃ (ds1 : List Int) (c2 : Int) (y4 : Option V), σ' = [some (.ref a), some (.ref d), some (.int (0 + (i : Int))), some (.int c2), y4] ∧ Ext tb [] H H2 ∧ H2 d = some (.lst (ds1.map V.int)) ∧ (∀ x ∈ ds1, Rg x) ∧ ds1.length ≤ 900 + 13 * i + 12, ?_, ?_⟩
        · refine ⟨fun m σ' H2 => ∃ (ds1 : List Int) (c2 : Int), m = c2.toNat ∧ 0 ≤ c2 ∧ σ' = [some (.ref a), some (.ref d), some (.int (0 + (i : Int))), some (.int c2), y4] ∧ Ext tb [] H H2 ∧ H2 d = some (.lst (ds1.map V.int)) ∧ (∀ x ∈ ds1, Rg x) ∧ (ds1.length ≤ 900 + 13 * i ∨ (ds1.length ≤ 900 + 13 * i + 12 ∧ c2 < 1000000000000000000)), ⟨c.toNat, ds1, c, rfl, hc0, rfl, ex2, hd2, hrg2, hlen2⟩, ?_⟩
          rintro m σ' H3 ⟨ds2, c2, rfl, hc2, rfl, ex3, hd3, hrg3, hlen3⟩
          refine ⟨_, rfl, _, _, rfl, rfl, ⟨by decide, by decide, by decide⟩, _, _, rfl, rfl, _, rfl, ite2 (fun e => ?_) (fun e => ?_)⟩
          · have hge : 1000000000000000000 ≤ c2 := of_decide_eq_true e
            refine ⟨_, rfl, _, _, rfl, .inl ⟨_, SqL.of hd3, rfl⟩, _, _, rfl, rfl, _, rfl, ite2 (fun e2 => ?_) (fun e2 => ?_)⟩
            · have h900 : ((ds2.map V.int).length : Int) < 900 := of_decide_eq_true e2
              rw [List.length_map] at h900
              refine ⟨fun σ' H' => ∃ ds3 : List Int, σ' = [some (.ref a), some (.ref d), some (.int (0 + (i : Int))), some (.int (c2 / 2147483629)), y4] ∧ Ext tb [] H H' ∧ H' d = some (.lst (ds3.map V.int)) ∧ (∀ x ∈ ds3, Rg x) ∧ ds3.length ≤ 900 + 13 * i, ?_, ?_⟩
              · rintro σ' H' ⟨ds3, rfl, ex4, hd4, hrg4, hlen4⟩
                have h1 : c2 / 2147483629 < c2 := Int.ediv_lt_self_of_pos_of_ne_one (by omega) (by decide)
                have h2 : 0 ≤ c2 / 2147483629 := Int.ediv_nonneg hc2 (by decide)
                exact ⟨_, by omega, ds3, _, rfl, h2, rfl, ex4, hd4, hrg4, .inl hlen4⟩
              · refine ⟨_, rfl, .inl ⟨rfl, _, SqL.of hd3⟩, _, rfl, _, _, rfl, rfl, (by show (0:Int) < 2147483629; decide), d, _, _, rfl, rfl, hd3, ?_, ?_⟩
                · rw [List.length_map]
                  exact Nat.lt_of_lt_of_le (show ds2.length < 100000 by omega) (by decide)
                · refine ⟨_, rfl, _, _, rfl, rfl, wide_div (b := 31) (by decide) (by decide) (by decide) (by decide), ?_⟩
                  refine ⟨ds2 ++ [c2 % 2147483629], rfl, Ext.own hT ex3 nd, ?_, Dr.snoc hrg3 (rg_mod _), by rw [List.length_append]; show ds2.length + 1 ≤ _; omega⟩
                  rw [upd_same, map_snoc]
            · exact ⟨ds2, c2, y4, rfl, ex3, hd3, hrg3, by omega⟩
          · refine iteF ?_
            exact ⟨ds2, c2, y4, rfl, ex3, hd3, hrg3, by omega⟩
        · rintro σ' H3 ⟨ds2, c2, y4, rfl, ex3, hd3, hrg3, hlen3⟩
          -- if cell >= 2147483629
          refine ⟨_, rfl, _, _, rfl, rfl, _, rfl, ite2 (fun e => ?_) (fun e => ?_)⟩
          · refine ⟨_, rfl, .inl ⟨rfl, _, SqL.of hd3⟩, _, rfl, _, _, rfl, rfl, (by show (0:Int) < 2147483629; decide), d, _, _, rfl, rfl, hd3, ?_, ?_⟩
            · rw [List.length_map]
              exact Nat.lt_of_lt_of_le (show ds2.length < 100000 by omega) (by decide)
            · refine ⟨ds2 ++ [c2 % 2147483629], _, _, _, rfl, Ext.own hT ex3 nd, ?_, Dr.snoc hrg3 (rg_mod _), by rw [List.length_append]; show ds2.length + 1 ≤ _; omega⟩
              rw [upd_same, map_snoc]
          · exact ⟨ds2, _, _, _, rfl, ex3, hd3, hrg3, by omega⟩
    · rintro σ H1 ⟨ds, y2, y3, y4, rfl, ex, hd, hrg, hlen⟩
      refine ⟨_, rfl, q _ d ds ex nd ⟨by omega, hrg⟩ hd⟩
/-- _law_next: a number in the range; the list of draws is another one -/
def spNext (tb : List Addr) : Sp := fun vs H Q _ => ∃ (d : Addr) (ds : List Int), vs = [.ref d] ∧ H d = some (.lst (ds.map V.int)) ∧ Dr ds ∧ Tabs tb H ∧
  ∀ x r H', Rg x → Dr r → Ext tb [d] H H' → H' d = some (.lst (r.map V.int)) → Q (.int x) H'
theorem ok_l_next {tb : List Addr} (F : FnAt K mg "_law_next" s_l_next ["_law_drawn"] f cd) : CalE P w K mg base CX0 1 "_law_next" (spNext tb) := by
  refine F.cal sc_l_next (fun vs H Q E h => ?_) (fun A outer s H vs Q E hr h => ?_)
  · obtain ⟨d, ds, rfl, _⟩ := h
    rfl
  · obtain ⟨d, ds, rfl, hd, hD, hT, q⟩ := h
    refine ⟨_, (pss_cons (ps_if (pt_cmpR (q_eqD (K := K) rfl hr.units) (pv 0) (pe_lst pa_nil) (nomark _)) (pss_one (ps_ret pe_int)) pss_nil)
      (pss_one (ps_ret (q_bm (K := K) rfl PySem.F.plainAttrs_list PySem.F.slot_list_pop PySem.F.type_list_pop mt_popAt (pv 0) (pa_cons pe_int pa_nil))))), ?_⟩
    refine ⟨_, rfl, by show 0 ≤ sizeLine; decide, fun p np => ?_⟩
    have e0 : Ext tb [d] H (upd H p (.lst [])) := Ext.new hT np
    have hd1 : (upd H p (.lst [])) d = some (.lst (ds.map V.int)) := by rw [upd_ne (ne_of_none hd np)]; exact hd
    cases ds with
    | nil =>
      refine ⟨.list [], .list [], .lst (SqL.of hd1) .nil, .lst (SqL.of upd_same) .nil, rfl, rfl, _, rfl, ?_⟩
      refine iteT ?_
      exact q 0 [] _ ⟨by decide, by decide⟩ ⟨by simp, fun x hx => by cases hx⟩ e0 hd1
    | cons x r =>
      refine ⟨.list ((x :: r).map PyData.int), .list [], .lst (SqL.of hd1) (dp_ints _), .lst (SqL.of upd_same) .nil, sh_ints _, rfl, _, rfl, ?_⟩
      refine iteF ?_
      refine ⟨_, rfl, .inl ⟨rfl, _, SqL.of hd1⟩, d, _, 0, 0, .int x, rfl, rfl, hd1, by decide, by decide, ?_, rfl, ?_⟩
      · simp [seqIndex?]
      · exact q x r _ (hD.rg x (List.mem_cons_self ..)) ⟨by have := hD.len; simp at this; omega, fun y hy => hD.rg y (List.mem_cons_of_mem _ hy)⟩ (e0.trans (Ext.mut (by simp) (ne_tab hT hd fun ps z => by cases z))) upd_same

end
end K22

set_option Elab.async false
set_option linter.all false
set_option maxRecDepth 100000
set_option maxHeartbeats 1000000
namespace K22
open PySem PySem.Spec PyProof.Rows L2 HK DT DW
section
variable {P : Program} {w : World} {K : PySem.W.Frag} {mg : Str → Option Value} {base : Heap} {f : Addr} {cd : Value}
/-! ### sums, cells -/
def sumN (spot : Int) (ns : List Int) : Int := ns.foldl (fun t n => (t * 65599 + n + 1) % 2147483647) (spot + 1)
theorem sumN_take {spot : Int} {ns : List Int} {i : Nat} {n : Int} (h : ns[i]? = some n) : sumN spot (ns.take (i + 1)) = (sumN spot (ns.take i) * 65599 + n + 1) % 2147483647 := by
  unfold sumN
  rw [List.take_add_one, h, List.foldl_append]
  rfl
def spSum (K : PySem.W.Frag) : Sp := fun vs H Q _ => ∃ (spot : Int) (a : Addr) (ns : List Int), vs = [.int spot, .ref a] ∧ SqT K H a (ns.map V.int) ∧ Q (.int (sumN spot ns)) H
theorem ok_sum_of (T : Txt K mg) (F : FnAt K mg "sum_of" s_sum_of ["spot", "content"] f cd) : CalE P w K mg base CX0 1 "sum_of" (spSum K) := by
  refine F.cal sc_sum_of (fun vs H Q E h => ?_) (fun A outer s H vs Q E hr h => ?_)
  · obtain ⟨spot, a, ns, rfl, _⟩ := h
    rfl
  · obtain ⟨spot, a, ns, rfl, ha, q⟩ := h
    refine ⟨_, (pss_cons (ps_set (i := 2) sc_sum_of.nd rfl (.inl rfl) (pe_op op_add (pv 0) pe_int))
      (pss_cons (ps_for PassesOwn.never rfl (q_piT (K := K) rfl (pv 1)) (pg_name (i := 3) sc_sum_of.nd rfl (.inl rfl)) (pss_one (ps_set (i := 2) sc_sum_of.nd rfl (.inl rfl) (pe_op op_mod (pe_op op_add (pe_op op_add (pe_op op_mul (pv 2) pe_int) (pv 3)) pe_int) (pe_glo (by rfl) T.m_MODULUS)))))
      (pss_one (ps_ret (pv 2))))), ?_⟩
    refine ⟨_, rfl, _, _, rfl, rfl, _, rfl, a, rfl, ⟨_, ha⟩, for_tup (K := K) (a := a) (xs := ns.map V.int) (fun i σ H1 => H1 = H ∧ ∃ y, σ = [some (.int spot), some (.ref a), some (.int (sumN spot (ns.take i))), y]) ⟨rfl, none, rfl⟩ (fun i σ H1 _ h => by rw [h.1]; exact ha) ?_ ?_⟩
    · rintro i x σ H1 hx ⟨rfl, y, rfl⟩
      rw [List.getElem?_map] at hx
      obtain ⟨n, hn, rfl⟩ := Option.map_eq_some_iff.mp hx
      refine ⟨_, rfl, _, _, rfl, rfl, .inr ⟨by decide, by decide⟩, _, rfl, _, _, rfl, rfl, _, _, rfl, rfl, _, _, rfl, rfl, (by show (0:Int) < 2147483647; decide), rfl, some (.int n), ?_⟩
      rw [sumN_take hn] <;> rfl
    · rintro σ H1 ⟨rfl, y, rfl⟩
      rw [List.length_map, List.take_length]
      exact ⟨_, rfl, q⟩
def spCell (K : PySem.W.Frag) (tb : List Addr) : Sp := fun vs H Q _ => ∃ (spot : Int) (a : Addr) (ns : List Int), vs = [.int spot, .ref a] ∧ SqT K H a (ns.map V.int) ∧ Tabs tb H ∧ ∀ p H', H p = none → Ext tb [] H H' → H' p = some (.tup [.int (sumN spot ns), .ref a]) → Q (.ref p) H'
theorem ok_cell_of {tb : List Addr} (F : FnAt K mg "cell_of" s_cell_of ["spot", "content"] f cd) (C_sum_of : CalE P w K mg base CX0 1 "sum_of" (spSum K)) : CalE P w K mg base CX0 2 "cell_of" (spCell K tb) := by
  refine F.cal sc_cell_of (fun vs H Q E h => ?_) (fun A outer s H vs Q E hr h => ?_)
  · obtain ⟨spot, a, ns, rfl, _⟩ := h
    rfl
  · obtain ⟨spot, a, ns, rfl, ha, hT, q⟩ := h
    refine ⟨_, (pss_one (ps_ret (pe_tup (pa_cons (pe_cal C_sum_of (hr.mono (by first | decide | omega)) (by rfl) (pa_cons (pv 0) (pa_cons (pv 1) pa_nil))) (pa_cons (pv 1) pa_nil))))), ?_⟩
    exact ⟨_, rfl, _, rfl, spot, a, ns, rfl, ha, _, rfl, by show 2 ≤ sizeLine; decide, fun p np => q p _ np (Ext.new hT np) upd_same⟩

theorem ok_l_sum (F : FnAt K mg "_law_sum" s_l_sum ["_law_spot", "_law_content_here"] f cd) : CalE P w K mg base CX0 1 "_law_sum" (spSum K) := by
  refine F.cal sc_l_sum (fun vs H Q E h => ?_) (fun A outer s H vs Q E hr h => ?_)
  · obtain ⟨spot, a, ns, rfl, _⟩ := h
    rfl
  · obtain ⟨spot, a, ns, rfl, ha, q⟩ := h
    refine ⟨_, (pss_cons (ps_set (i := 2) sc_l_sum.nd rfl (.inl rfl) (pe_op op_add (pv 0) pe_int))
      (pss_cons (ps_for PassesOwn.never rfl (q_piT (K := K) rfl (pv 1)) (pg_name (i := 3) sc_l_sum.nd rfl (.inl rfl)) (pss_one (ps_set (i := 2) sc_l_sum.nd rfl (.inl rfl) (pe_op op_mod (pe_op op_add (pe_op op_add (pe_op op_mul (pv 2) pe_int) (pv 3)) pe_int) pe_int))))
      (pss_one (ps_ret (pv 2))))), ?_⟩
    refine ⟨_, rfl, _, _, rfl, rfl, _, rfl, a, rfl, ⟨_, ha⟩, for_tup (K := K) (a := a) (xs := ns.map V.int) (fun i σ H1 => H1 = H ∧ ∃ y, σ = [some (.int spot), some (.ref a), some (.int (sumN spot (ns.take i))), y]) ⟨rfl, none, rfl⟩ (fun i σ H1 _ h => by rw [h.1]; exact ha) ?_ ?_⟩
    · rintro i x σ H1 hx ⟨rfl, y, rfl⟩
      rw [List.getElem?_map] at hx
      obtain ⟨n, hn, rfl⟩ := Option.map_eq_some_iff.mp hx
      refine ⟨_, rfl, _, _, rfl, rfl, .inr ⟨by decide, by decide⟩, _, rfl, _, _, rfl, rfl, _, _, rfl, rfl, _, _, rfl, rfl, (by show (0:Int) < 2147483647; decide), rfl, some (.int n), ?_⟩
      rw [sumN_take hn] <;> rfl
    · rintro σ H1 ⟨rfl, y, rfl⟩
      rw [List.length_map, List.take_length]
      exact ⟨_, rfl, q⟩
/-! ### copied, of data of tuples -/
mutual
def sm : PyData → Bool
  | .tuple ds => decide (ds.length ≤ 1000) && smAll ds
  | _ => true
def smAll : List PyData → Bool
  | [] => true
  | d :: ds => sm d && smAll ds
end
theorem sm_get : ∀ {ds : List PyData} {i : Nat} {d : PyData}, smAll ds = true → ds[i]? = some d → sm d = true
  | [], _, _, _, h => by simp at h
  | x :: r, 0, d, f, h => by
    simp at h
    subst h
    exact (Bool.and_eq_true_iff.mp (show (sm x && smAll r) = true from f)).1
  | x :: r, i + 1, d, f, h => sm_get (ds := r) (i := i) (Bool.and_eq_true_iff.mp (show (sm x && smAll r) = true from f)).2 (by simpa using h)
def spCopied (K : PySem.W.Frag) (tb : List Addr) (n : Nat) : Sp := fun vs H Q _ => ∃ (v : V) (D : PyData), vs = [v] ∧ Rp K H v D ∧ fz D = true ∧ sm D = true ∧ PyData.depth D ≤ n ∧ Tabs tb H ∧ ∀ v' H', Ext tb [] H H' → Rp K H' v' D → Q v' H'
def spCopO (K : PySem.W.Frag) (tb : List Addr) : Nat → Sp
  | 0 => fun _ _ _ _ => False
  | n + 1 => spCopied K tb n
theorem dep_in : ∀ {ds : List PyData} {i : Nat} {d : PyData}, ds[i]? = some d → PyData.depth d ≤ PyData.depthAll ds
  | [], _, _, e => by simp at e
  | x :: r, 0, d, e => by
    simp at e
    subst e
    exact Nat.le_max_left _ _
  | x :: r, i + 1, d, e => Nat.le_trans (dep_in (ds := r) (i := i) (by simpa using e)) (Nat.le_max_right _ _)
theorem ok_copied {n k : Nat} {tb : List Addr} (T : Txt K mg) (F : FnAt K mg "copied" s_copied ["one"] f cd) (C_copied : CalE P w K mg base CX0 k "copied" (spCopO K tb n)) : CalE P w K mg base CX0 (k+1) "copied" (spCopied K tb n) := by
  refine F.cal sc_copied (fun vs H Q E h => ?_) (fun A outer s H vs Q E hr h => ?_)
  · obtain ⟨v, D, rfl, _⟩ := h
    rfl
  · obtain ⟨v, D, rfl, hv, hf, hs, hd, hT, q⟩ := h
    refine ⟨_, (pss_cons (ps_if (pt_val (pe_callB (q_isi (K := K) rfl) (by rfl) T.b_isinstance (by decide +kernel) (pa_cons (pv 0) (pa_cons (pe_bltn (v := .ty "list") (by rfl) T.b_list (by decide +kernel) rfl) pa_nil)))) (pss_one (ps_ret (pe_lc (own := [("part", 1)]) (g := gName 1) (tt := tYes) (by rfl) sc_copied.nd (q_piT (K := K) rfl (pv 0)) (blkOk_by (own := [("part", 1)]) (N := n_copied) (sc := defScope s_copied) (by decide +kernel)) (fun _ _ _ _ _ => (pg_name (i := 1) sc_copied.nd rfl (.inl rfl))) (fun _ _ _ _ _ => pts_nil) (fun _ _ _ _ _ => (pe_cal C_copied (hr.mono (by first | decide | omega)) (by rfl) (pa_cons (pv 1) pa_nil)))))) pss_nil)
      (pss_cons (ps_if (pt_val (pe_callB (q_isi (K := K) rfl) (by rfl) T.b_isinstance (by decide +kernel) (pa_cons (pv 0) (pa_cons (pe_bltn (v := .ty "tuple") (by rfl) T.b_tuple (by decide +kernel) rfl) pa_nil)))) (pss_one (ps_ret (pe_callTy (q_tup (K := K) rfl) (by rfl) T.b_tuple (by decide +kernel) (pa_cons (pe_lc (own := [("part", 1)]) (g := gName 1) (tt := tYes) (by rfl) sc_copied.nd (q_piT (K := K) rfl (pv 0)) (blkOk_by (own := [("part", 1)]) (N := n_copied) (sc := defScope s_copied) (by decide +kernel)) (fun _ _ _ _ _ => (pg_name (i := 1) sc_copied.nd rfl (.inl rfl))) (fun _ _ _ _ _ => pts_nil) (fun _ _ _ _ _ => (pe_cal C_copied (hr.mono (by first | decide | omega)) (by rfl) (pa_cons (pv 1) pa_nil)))) pa_nil)))) pss_nil)
      (pss_cons (ps_if (pt_val (pe_callB (q_isi (K := K) rfl) (by rfl) T.b_isinstance (by decide +kernel) (pa_cons (pv 0) (pa_cons (pe_bltn (v := .ty "dict") (by rfl) T.b_dict (by decide +kernel) rfl) pa_nil)))) (pss_one (ps_ret (pe_dc (own := [("key", 2)]) (g := gName 2) (tt := tYes) (by rfl) sc_copied.nd (q_piT (K := K) rfl (pv 0)) (blkOk_by (own := [("key", 2)]) (N := n_copied) (sc := defScope s_copied) (by decide +kernel)) (fun _ _ _ _ _ => (pg_name (i := 2) sc_copied.nd rfl (.inl rfl))) (fun _ _ _ _ _ => pts_nil) (fun _ _ _ _ _ => (pv 2)) (fun _ _ _ _ _ => (pe_cal C_copied (hr.mono (by first | decide | omega)) (by rfl) (pa_cons (pe_ix (q_ixT (K := K) rfl) (pv 0) (pv 2) (fun _ _ => rfl)) pa_nil)))))) pss_nil)
      (pss_one (ps_ret (pv 0)))))), ?_⟩
    have ty := Rp_ty hv
    have ndc : kitB (tyN D) "dict" = some false := by
      cases D with
      | none => show kitB "NoneType" "dict" = some false; decide +kernel
      | bool _ => show kitB "bool" "dict" = some false; decide +kernel
      | int _ => show kitB "int" "dict" = some false; decide +kernel
      | str _ => show kitB "str" "dict" = some false; decide +kernel
      | tuple _ => show kitB "tuple" "dict" = some false; decide +kernel
      | list _ => exact absurd hf Bool.false_ne_true
      | dict _ => exact absurd hf Bool.false_ne_true
    have nl : isLst D = false := by cases D <;> first | rfl | exact absurd hf Bool.false_ne_true
    refine ⟨_, rfl, _, _, .type (tyN D), _, _, rfl, .ty _, ty, kit_ty (kit_lst D), _, rfl, ?_⟩
    rw [nl]
    refine iteF ?_
    refine ⟨_, rfl, _, _, .type (tyN D), _, _, rfl, .ty _, ty, kit_ty (kit_tup D), _, rfl, ?_⟩
    cases et : isTup D with
    | false =>
      refine iteF ?_
      refine ⟨_, rfl, _, _, .type (tyN D), _, _, rfl, .ty _, ty, kit_ty ndc, _, rfl, ?_⟩
      refine iteF ?_
      exact ⟨_, rfl, q v H Ext.refl hv⟩
    | true =>
    obtain ⟨ds, rfl⟩ : ∃ ds, D = .tuple ds := by cases D <;> first | exact ⟨_, rfl⟩ | cases et
    obtain ⟨a, xs, rfl, ha, hxs⟩ := Rp_tup hv
    refine iteT ?_
    cases n with
    | zero => exact absurd hd (Nat.not_succ_le_zero _)
    | succ n =>
    have hs2 := Bool.and_eq_true_iff.mp (show (decide (ds.length ≤ 1000) && smAll ds) = true from hs)
    have hl1000 : ds.length ≤ 1000 := of_decide_eq_true hs2.1
    have hf2 : fzAll ds = true := hf
    have hlen := RpAll_len hxs
    refine ⟨_, rfl, a, rfl, ⟨_, ha⟩, fun Dl hDn => ?_⟩
    have hDn : H Dl = none := hDn
    refine lc_tup (K := K) (a := a) (xs := xs) (fun i H2 => ∃ us : List V, us.length ≤ i ∧ H2 Dl = some (.lst us) ∧ RpAll K H2 us (ds.take i) ∧ Ext tb [] H H2) ⟨[], Nat.le_refl _, upd_same, .nil, Ext.new hT hDn⟩ (fun i H2 _ h => by
      obtain ⟨_, _, _, _, e⟩ := h
      exact e.sqT hT ha (by simp)) ?_ ?_
    · rintro i x H2 hx ⟨us, hui, hD2, hr2, e2⟩
      have hT2 := e2.tabs hT
      obtain ⟨d, hdi, hdx⟩ := RpAll_get hxs hx
      have hi : i < xs.length := (List.getElem?_eq_some_iff.mp hx).1
      have hdd : PyData.depth d ≤ n := by
        have h1 := dep_in hdi
        have h2 : PyData.depthAll ds + 1 ≤ n + 1 := hd
        omega
      refine ⟨rfl, _, rfl, x, d, rfl, Rp_ext e2 hT d hdx, fz_get hf2 hdi, sm_get hs2.2 hdi, hdd, hT2, fun v' H3 e3 g3 => ?_⟩
      have hT3 := e3.tabs hT2
      have hD3 := e3.lst hT2 hD2 (by simp)
      refine ⟨us, hD3, line_lt (by omega), us ++ [v'], by rw [List.length_append]; show us.length + 1 ≤ _; omega, upd_same, ?_, Ext.own hT (e2.trans e3) hDn⟩
      have tk : ds.take (i + 1) = ds.take i ++ [d] := by rw [List.take_add_one, hdi] <;> rfl
      have r3 : RpAll K H3 (us ++ [v']) (ds.take (i + 1)) := by
        rw [tk]
        exact RpAll_app (RpAll_ext e3 hT2 _ hr2) (.cons g3 .nil)
      have nt : NTs [Dl] H3 := fun z hz => by
        rw [List.mem_singleton.mp hz]
        exact .inl ⟨_, hD3⟩
      exact fzAll_ext nt (Ext.mut (by simp) (ne_tab hT3 hD3 fun ps z => by cases z)) hT3 _ (fz_take _ hf2) r3
    · rintro H2 ⟨us, hui, hD2, hr2, e2⟩
      have hT2 := e2.tabs hT
      rw [hlen, List.take_length] at hr2
      refine ⟨Dl, us, rfl, .inl ⟨SqL.of hD2, fun l hl => ?_⟩⟩
      have e3 : Ext tb [] H2 (upd H2 l (.tup us)) := Ext.new hT2 hl
      exact q _ _ (e2.trans e3) (.tup (SqT.of upd_same) (RpAll_ext e3 hT2 _ hr2))
theorem ok_copieds {tb : List Addr} (T : Txt K mg) (F : FnAt K mg "copied" s_copied ["one"] f cd) : ∀ n : Nat, (CalE P w K mg base CX0 (n+1+1) "copied" (spCopied K tb n))
  | 0 => ok_copied T F (F.cal sc_copied (fun _ _ _ _ h => (show False from h).elim) (fun _ _ _ _ _ _ _ _ h => (show False from h).elim))
  | n + 1 => ok_copied T F (ok_copieds T F n)
/-! ### a disk -/
def pf (n : Int) (c : Addr) : List (Str × V) := putF "cells" (.ref c) (putF "places" (.int n) [])
theorem pc_ : ¬ (("places" : Str) = "cells") := by decide +kernel
theorem pf_places (n : Int) (c : Addr) : (pf n c).lookup ("places" : Str) = some (.int n) := by
  unfold pf
  rw [lookup_putF, if_neg pc_, lookup_putF, if_pos rfl]
theorem pf_cells (n : Int) (c : Addr) : (pf n c).lookup ("cells" : Str) = some (.ref c) := by
  unfold pf
  rw [lookup_putF, if_pos rfl]
theorem pf_no (n : Int) (c : Addr) {m : Str} (h1 : ¬ m = "cells") (h2 : ¬ m = "places") : (pf n c).lookup m = none := by
  unfold pf
  rw [lookup_putF, if_neg h1, lookup_putF, if_neg h2]
  rfl
structure ClsE (K : PySem.W.Frag) (C : Addr) : Prop where
  cl : Cls K C
  nP : NoAttr K C "places"
  nC : NoAttr K C "cells"
/-- keys of cells -/
abbrev ck (i s : Int) : List Key := [.inl i, .inl s]
def spInit (C : Addr) (tb : List Addr) : Sp := fun vs H Q _ => ∃ (x dx : Addr) (n : Int), vs = [.ref x, .int n] ∧ H x = some (.ins C dx []) ∧ Tabs tb H ∧ ∀ c H', H c = none → Ext tb [x] H H' → H' x = some (.ins C dx (pf n c)) → H' c = some (.dT []) → Q .non H'
theorem ok_init {C : Addr} {tb : List Addr} {fd : FuncData} (D : ClsE K C) (F : Fun K "__init__" "Disk.__init__" s_Disk_init f fd) : FnOk P w K mg base CX0 1 f fd ["self", "places"] (spInit C tb) := by
  refine F.ok sc_Disk_init (fun vs H Q E h => ?_) (fun cdv A outer s H vs Q E hr h => ?_)
  · obtain ⟨x, dx, n, rfl, _⟩ := h
    rfl
  · obtain ⟨x, dx, n, rfl, hx, hT, q⟩ := h
    refine ⟨_, (pss_cons (ps_fld (pv 0) (pv 1) rfl)
      (pss_one (ps_fld (pv 0) pe_dnewT rfl))), ?_⟩
    refine ⟨_, rfl, _, rfl, x, C, dx, [], rfl, hx, D.cl, D.nP, (by show 0 < 1000; decide), ?_⟩
    intro c nc
    have ncx : c ≠ x := fun z => by rw [z, upd_same] at nc; cases nc
    have nc0 : H c = none := by rw [upd_ne ncx] at nc; exact nc
    have xt : x ∉ tb := ne_tab hT hx fun ps z => by cases z
    have e1 : Ext tb [x] H (upd H x (.ins C dx (putF "places" (.int n) []))) := Ext.mut (by simp) xt
    have hT1 := e1.tabs hT
    have e2 : Ext tb [x] H (upd (upd H x (.ins C dx (putF "places" (.int n) []))) c (.dT [])) := e1.trans (Ext.new hT1 nc)
    refine ⟨_, rfl, x, C, dx, _, rfl, Eq.trans (upd_ne (Ne.symm ncx)) upd_same, D.cl, D.nC, (by show 1 < 1000; decide), ?_⟩
    refine q c _ nc0 (e2.trans (Ext.mut (by simp) xt)) upd_same ?_
    rw [upd_ne ncx, upd_same]
def spWrite (K : PySem.W.Frag) (C : Addr) (tb : List Addr) : Sp := fun vs H Q _ => ∃ (x dx c p : Addr) (n i s : Int) (kvs : List (List Key × V)) (ns : List Int), vs = [.ref x, .int i, .int s, .ref p] ∧ H x = some (.ins C dx (pf n c)) ∧ H c = some (.dT kvs) ∧ kvs.length ≤ 10000 ∧ SqT K H p (ns.map V.int) ∧ Tabs tb H ∧
  ∀ t H', Ext tb [c] H H' → H' c = some (.dT (putK kvs (ck i s) (.ref t))) → SqT K H' t [.int (sumN s ns), .ref p] → Q .non H'
theorem ok_write {C : Addr} {tb : List Addr} {fd : FuncData} (D : ClsE K C) (F : Fun K "write" "Disk.write" s_Disk_write f fd) (C_cell_of : CalE P w K mg base CX0 2 "cell_of" (spCell K tb)) : FnOk P w K mg base CX0 3 f fd ["self", "copy", "spot", "content"] (spWrite K C tb) := by
  refine F.ok sc_Disk_write (fun vs H Q E h => ?_) (fun cdv A outer s H vs Q E hr h => ?_)
  · obtain ⟨x, dx, c, p, n, i, s, kvs, ns, rfl, _⟩ := h
    rfl
  · obtain ⟨x, dx, c, p, n, i, s, kvs, ns, rfl, hx, hc, hk, hp, hT, q⟩ := h
    refine ⟨_, (pss_one (ps_asg (pe_cal C_cell_of (hr.mono (by first | decide | omega)) (by rfl) (pa_cons (pv 2) (pa_cons (pv 3) pa_nil))) (pg_sub (pe_fld (pv 0) rfl) (pe_tup (pa_cons (pv 1) (pa_cons (pv 2) pa_nil))) (set_dict (DW.units1 hr.units))))), ?_⟩
    refine ⟨_, rfl, _, rfl, s, p, ns, rfl, hp, hT, fun t H1 nt e1 ht => ?_⟩
    have hT1 := e1.tabs hT
    have hx1 : H1 x = some (.ins C dx (pf n c)) := e1.keep _ _ (ne_tab hT hx fun ps z => by cases z) (by simp) hx
    have hc1 : H1 c = some (.dT kvs) := e1.keep _ _ (ne_tab hT hc fun ps z => by cases z) (by simp) hc
    refine ⟨_, rfl, x, C, dx, _, _, rfl, hx1, D.cl, D.nC, pf_cells _ _, ?_⟩
    refine ⟨_, rfl, _, rfl, by show 2 ≤ sizeLine; decide, fun b nb => ?_⟩
    have e2 : Ext tb [] H1 (upd H1 b (.tup [.int i, .int s])) := Ext.new hT1 nb
    have hT2 := e2.tabs hT1
    have nbc : c ≠ b := fun z => by rw [z, nb] at hc1; cases hc1
    have nbt : t ≠ b := fun z => by rw [z, nb] at ht; cases ht
    have hc2 : (upd H1 b (.tup [.int i, .int s])) c = some (.dT kvs) := Eq.trans (upd_ne nbc) hc1
    have ntc : t ≠ c := fun z => by rw [z, hc1] at ht; cases ht
    refine ⟨c, _, rfl, DPut.t (k := ck i s) hc2 upd_same (Nat.lt_of_le_of_lt hk (by decide)), ?_⟩
    refine q t _ (((e1.trans e2).of0).trans (Ext.mut (by simp) (ne_tab hT2 hc2 fun ps z => by cases z))) upd_same (SqT.of ?_)
    rw [upd_ne ntc, upd_ne nbt]
    exact ht
def spDCell (K : PySem.W.Frag) (C : Addr) (tb : List Addr) : Sp := fun vs H Q _ => ∃ (x dx c : Addr) (n i s : Int) (kvs : List (List Key × V)) (D : PyData), vs = [.ref x, .int i, .int s] ∧ H x = some (.ins C dx (pf n c)) ∧ H c = some (.dT kvs) ∧ Rp K H ((valV kvs (ck i s)).getD .non) D ∧ fz D = true ∧ sm D = true ∧ PyData.depth D ≤ 2 ∧ Tabs tb H ∧
  ∀ v' H', Ext tb [] H H' → Rp K H' v' D → Q v' H'
theorem ok_cell {C : Addr} {tb : List Addr} {fd : FuncData} (D : ClsE K C) (F : Fun K "cell" "Disk.cell" s_Disk_cell f fd) (C_copied : CalE P w K mg base CX0 4 "copied" (spCopied K tb 2)) : FnOk P w K mg base CX0 5 f fd ["self", "copy", "spot"] (spDCell K C tb) := by
  refine F.ok sc_Disk_cell (fun vs H Q E h => ?_) (fun cdv A outer s H vs Q E hr h => ?_)
  · obtain ⟨x, dx, c, n, i, s, kvs, Dd, rfl, _⟩ := h
    rfl
  · obtain ⟨x, dx, c, n, i, s, kvs, Dd, rfl, hx, hc, hv, hf, hs, hd, hT, q⟩ := h
    refine ⟨_, (pss_one (ps_ret (pe_cal C_copied (hr.mono (by first | decide | omega)) (by rfl) (pa_cons (pe_dget1 (DW.units1 hr.units) (pe_fld (pv 0) rfl) (pe_tup (pa_cons (pv 1) (pa_cons (pv 2) pa_nil))) ⟨rfl, rfl, rfl, rfl⟩) pa_nil)))), ?_⟩
    refine ⟨_, rfl, x, C, dx, _, _, rfl, hx, D.cl, D.nC, pf_cells _ _, ?_⟩
    refine ⟨c, rfl, .inr ⟨kvs, .inl hc⟩, _, rfl, _, rfl, by show 2 ≤ sizeLine; decide, fun b nb => ?_⟩
    have e2 : Ext tb [] H (upd H b (.tup [.int i, .int s])) := Ext.new hT nb
    have hT2 := e2.tabs hT
    have nbc : c ≠ b := fun z => by rw [z, nb] at hc; cases hc
    refine ⟨_, DGet.t (k := ck i s) (Eq.trans (upd_ne nbc) hc) upd_same, _, Dd, rfl, Rp_ext e2 hT _ hv, hf, hs, hd, hT2, fun v' H' e g => q v' H' (e2.trans e) g⟩

end
end K22

set_option Elab.async false
set_option linter.all false
set_option maxRecDepth 100000
set_option maxHeartbeats 1000000
namespace K22
open PySem PySem.Spec PyProof.Rows L2 HK DT DW
section
variable {P : Program} {w : World} {K : PySem.W.Frag} {mg : Str → Option Value} {base : Heap} {f : Addr} {cd : Value}
/-! ### steps and groups -/
abbrev Sp1 := Option (Int × Int × List Int)
def stepD : Sp1 → PyData
  | none => .tuple [.str "line"]
  | some (i, s, ns) => .tuple [.str "put", .int i, .int s, .tuple (ns.map PyData.int)]
theorem fz_step : ∀ st : Sp1, fz (stepD st) = true
  | none => rfl
  | some (i, s, ns) => by
    show (true && (true && (true && (fzAll (ns.map PyData.int) && true)))) = true
    rw [fz_ints] <;> rfl
theorem fz_steps : ∀ sts : List Sp1, fzAll (sts.map stepD) = true
  | [] => rfl
  | st :: r => by
    show (fz (stepD st) && fzAll (r.map stepD)) = true
    rw [fz_step, fz_steps r] <;> rfl
def isLine : Sp1 → Bool
  | none => true
  | some _ => false
/-- groups, the last one apart -/
def gst : List (V × Sp1) → List (List V) × List V → List (List V) × List V
  | [], a => a
  | (v, st) :: r, (dn, cu) => gst r (if isLine st = true then (dn ++ [cu], []) else (dn, cu ++ [v]))
theorem gst_snoc : ∀ (l : List (V × Sp1)) (v : V) (st : Sp1) (a : List (List V) × List V), gst (l ++ [(v, st)]) a = if isLine st = true then ((gst l a).1 ++ [(gst l a).2], []) else ((gst l a).1, (gst l a).2 ++ [v])
  | [], v, st, (dn, cu) => rfl
  | (u, su) :: r, v, st, (dn, cu) => gst_snoc r v st _
theorem gst_len : ∀ (l : List (V × Sp1)) (a : List (List V) × List V), (gst l a).1.length ≤ a.1.length + l.length ∧ (gst l a).2.length ≤ a.2.length + l.length
  | [], a => ⟨Nat.le_refl _, Nat.le_refl _⟩
  | (v, st) :: r, (dn, cu) => by
    have h := gst_len r (if isLine st = true then (dn ++ [cu], []) else (dn, cu ++ [v]))
    show (gst r (if isLine st = true then (dn ++ [cu], []) else (dn, cu ++ [v]))).1.length ≤ _ ∧ (gst r (if isLine st = true then (dn ++ [cu], []) else (dn, cu ++ [v]))).2.length ≤ _
    cases hl : isLine st with
    | true =>
      rw [hl, if_pos rfl] at h
      rw [if_pos rfl]
      simp only [List.length_append, List.length_cons, List.length_nil] at h ⊢
      omega
    | false =>
      rw [hl, if_neg Bool.false_ne_true] at h
      rw [if_neg Bool.false_ne_true]
      simp only [List.length_append, List.length_cons, List.length_nil] at h ⊢
      omega
structure Grp (tb : List Addr) (H0 H : Hp) (g : Addr) (a : List (List V) × List V) : Prop where
  ex : ∃ (ls : List Addr) (lc : Addr), H g = some (.lst ((ls ++ [lc]).map V.ref)) ∧ ls.length = a.1.length ∧ (∀ (i : Nat) (l : Addr) (us : List V), ls[i]? = some l → a.1[i]? = some us → H l = some (.lst us)) ∧ H lc = some (.lst a.2) ∧ lc ∉ ls ∧ g ∉ ls ∧ g ≠ lc ∧ (∀ l ∈ ls, H0 l = none) ∧ H0 lc = none
  g0 : H0 g = none
  e : Ext tb [] H0 H
def spGroups (K : PySem.W.Frag) (tb : List Addr) : Sp := fun vs H Q _ => ∃ (S : Addr) (ps : List (V × Sp1)), vs = [.ref S] ∧ SqL K H S (ps.map (·.1)) ∧ RpAll K H (ps.map (·.1)) ((ps.map (·.2)).map stepD) ∧ ps.length ≤ 1000 ∧ Tabs tb H ∧ ∀ g H', Grp tb H H' g (gst ps ([], [])) → Q (.ref g) H'
theorem step_tup {H : Hp} {v : V} {st : Sp1} (h : Rp K H v (stepD st)) : ∃ p xs, v = .ref p ∧ SqT K H p xs ∧ xs[0]? = some (.str (if isLine st = true then "line" else "put")) := by
  cases st with
  | none =>
    obtain ⟨p, xs, rfl, h1, h2⟩ := Rp_tup h
    cases h2 with
    | cons k t =>
      cases k
      exact ⟨p, _, rfl, h1, rfl⟩
  | some q =>
    obtain ⟨i, s, ns⟩ := q
    obtain ⟨p, xs, rfl, h1, h2⟩ := Rp_tup h
    cases h2 with
    | cons k t =>
      cases k
      exact ⟨p, _, rfl, h1, rfl⟩
theorem Grp.line {tb : List Addr} {H0 H : Hp} {g p : Addr} {a : List (List V) × List V} (G : Grp tb H0 H g a) (hT : Tabs tb H0) (np : H p = none) : ∃ xs, H g = some (.lst xs) ∧ xs.length = a.1.length + 1 ∧ Grp tb H0 (upd (upd H p (.lst [])) g (.lst (xs ++ [.ref p]))) g (a.1 ++ [a.2], []) := by
  obtain ⟨ls, lc, h1, h2, h3, h4, h5, h6, h7, h8, h9⟩ := G.ex
  have np0 : H0 p = none := G.e.free hT np (by simp)
  have pg : p ≠ g := fun z => by rw [z, h1] at np; cases np
  have plc : p ≠ lc := fun z => by rw [z, h4] at np; cases np
  refine ⟨_, h1, by rw [List.length_map, List.length_append, h2] <;> rfl, ⟨ls ++ [lc], p, ?_, ?_, ?_, ?_, ?_, ?_, Ne.symm pg, ?_, np0⟩, G.g0, ?_⟩
  · rw [upd_same, List.map_append (l₁ := ls ++ [lc])]
    rfl
  · rw [List.length_append, List.length_append, h2] <;> rfl
  · intro i l us hl hu
    have lg : l ≠ g := fun z => by
      rw [z] at hl
      rcases List.mem_append.mp (List.mem_of_getElem? hl) with q | q
      · exact h6 q
      · exact h7 (List.mem_singleton.mp q)
    by_cases hi : i < ls.length
    · rw [List.getElem?_append_left hi] at hl
      rw [List.getElem?_append_left (by omega)] at hu
      have := h3 i l us hl hu
      rw [upd_ne lg, upd_ne (fun z => by rw [z, np] at this; cases this)]
      exact this
    · rw [List.getElem?_append_right (by omega)] at hl
      rw [List.getElem?_append_right (by omega)] at hu
      have hi0 : i - ls.length = 0 := by
        have := (List.getElem?_eq_some_iff.mp hl).1
        rw [List.length_singleton] at this
        omega
      rw [hi0] at hl
      rw [← h2, hi0] at hu
      cases hl
      cases hu
      rw [upd_ne lg, upd_ne (Ne.symm plc)]
      exact h4
  · rw [upd_ne pg, upd_same]
  · intro z
    rcases List.mem_append.mp z with q | q
    · obtain ⟨i, hi, e⟩ := List.getElem_of_mem q
      have hu : i < a.1.length := by omega
      have := h3 i p (a.1[i]) (by rw [List.getElem?_eq_getElem hi, e]) (List.getElem?_eq_getElem hu)
      rw [np] at this
      cases this
    · exact plc (List.mem_singleton.mp q)
  · intro z
    rcases List.mem_append.mp z with q | q
    · exact h6 q
    · exact h7 (List.mem_singleton.mp q)
  · intro l hl
    rcases List.mem_append.mp hl with q | q
    · exact h8 l q
    · rw [List.mem_singleton.mp q]
      exact h9
  · exact Ext.own hT (G.e.trans (Ext.new (G.e.tabs hT) np)) G.g0
theorem Grp.put {tb : List Addr} {H0 H : Hp} {g : Addr} {v : V} {a : List (List V) × List V} (G : Grp tb H0 H g a) (hT : Tabs tb H0) : ∃ xs lc, H g = some (.lst (xs ++ [.ref lc])) ∧ H lc = some (.lst a.2) ∧ Grp tb H0 (upd H lc (.lst (a.2 ++ [v]))) g (a.1, a.2 ++ [v]) := by
  obtain ⟨ls, lc, h1, h2, h3, h4, h5, h6, h7, h8, h9⟩ := G.ex
  refine ⟨ls.map V.ref, lc, by rw [h1, List.map_append] <;> rfl, h4, ⟨ls, lc, by rw [upd_ne h7]; exact h1, h2, ?_, upd_same, h5, h6, h7, h8, h9⟩, G.g0, Ext.own hT G.e h9⟩
  intro i l us hl hu
  rw [upd_ne (fun z => h5 (by rw [← z]; exact List.mem_of_getElem? hl))]
  exact h3 i l us hl hu
theorem Grp.new {tb : List Addr} {H : Hp} {l g : Addr} (hT : Tabs tb H) (nl : H l = none) (ng : (upd H l (.lst [])) g = none) : Grp tb H (upd (upd H l (.lst [])) g (.lst [.ref l])) g ([], []) := by
  have ngl : g ≠ l := fun z => by rw [z, upd_same] at ng; cases ng
  have ng0 : H g = none := by rw [upd_ne ngl] at ng; exact ng
  have e1 : Ext tb [] H (upd H l (.lst [])) := Ext.new hT nl
  refine ⟨⟨[], l, upd_same, rfl, fun i l us h => by simp at h, by rw [upd_ne (Ne.symm ngl), upd_same], by simp, by simp, ngl, fun l h => by simp at h, nl⟩, ng0, e1.trans (Ext.new (e1.tabs hT) ng)⟩
theorem ok_groups_of {tb : List Addr} (T : Txt K mg) (F : FnAt K mg "groups_of" s_groups_of ["steps"] f cd) : CalE P w K mg base CX0 1 "groups_of" (spGroups K tb) := by
  refine F.cal sc_groups_of (fun vs H Q E h => ?_) (fun A outer s H vs Q E hr h => ?_)
  · obtain ⟨S, ps, rfl, _⟩ := h
    rfl
  · obtain ⟨S, ps, rfl, hS, hps, hl, hT, q⟩ := h
    refine ⟨_, (pss_cons (ps_set (i := 1) sc_groups_of.nd rfl (.inl rfl) (pe_lst (pa_cons (pe_lst pa_nil) pa_nil)))
      (pss_cons (ps_for PassesOwn.never rfl (q_piL (K := K) rfl (pv 0)) (pg_name (i := 2) sc_groups_of.nd rfl (.inl rfl)) (pss_one (ps_if (pt_cmpR op_eq (pe_ix (q_ixT (K := K) rfl) (pv 2) pe_int (fun _ _ => rfl)) pe_str (nomark _)) (pss_one (ps_expr (q_bm (K := K) rfl PySem.F.plainAttrs_list PySem.F.slot_list_append PySem.F.type_list_append mt_append (pv 1) (pa_cons (pe_lst pa_nil) pa_nil)))) (pss_one (ps_expr (q_bm (K := K) rfl PySem.F.plainAttrs_list PySem.F.slot_list_append PySem.F.type_list_append mt_append (pe_ix (q_ixL (K := K) rfl) (pv 1) (pe_un un_neg pe_int) (fun _ _ => rfl)) (pa_cons (pv 2) pa_nil)))))))
      (pss_one (ps_ret (pv 1))))), ?_⟩
    refine ⟨Nat.zero_le _, fun l nl => ⟨by show 1 ≤ sizeLine; decide, fun g ng => ?_⟩⟩
    have G0 := Grp.new hT nl ng
    refine ⟨_, rfl, S, rfl, ⟨_, G0.e.sqL hT hS (by simp)⟩, for_list (K := K) (a := S) (xs := ps.map (·.1)) (fun i σ H' => ∃ y2 : Option V, σ = [some (.ref S), some (.ref g), y2] ∧ Grp tb H H' g (gst (ps.take i) ([], []))) ⟨none, rfl, G0⟩ (fun i σ H' _ h => by
      obtain ⟨_, _, G⟩ := h
      exact G.e.sqL hT hS (by simp)) ?_ ?_⟩
    · rintro i v σ H' hv ⟨y2, rfl, G⟩
      have hT' := G.e.tabs hT
      obtain ⟨D, hD, hvD⟩ := RpAll_get hps hv
      rw [List.getElem?_map, List.getElem?_map] at hD
      rw [List.getElem?_map] at hv
      obtain ⟨pv', hpv, rfl⟩ := Option.map_eq_some_iff.mp hv
      rw [hpv] at hD
      obtain ⟨v, st⟩ := pv'
      obtain rfl : stepD st = D := Option.some.inj hD
      have hi : i < ps.length := (List.getElem?_eq_some_iff.mp hpv).1
      have tk : ps.take (i + 1) = ps.take i ++ [(v, st)] := by rw [List.take_add_one, hpv] <;> rfl
      obtain ⟨p, xs, rfl, hp, h0⟩ := step_tup (Rp_ext G.e hT _ hvD)
      refine ⟨_, rfl, p, xs, _, _, rfl, rfl, hp, atI_nat (j := 0) h0, rfl, _, rfl, ?_⟩
      cases hli : isLine st with
      | true =>
        refine iteT ?_
        obtain ⟨ls0, lc0, hg0, _⟩ := G.ex
        refine ⟨_, rfl, .inl ⟨rfl, _, SqL.of hg0⟩, Nat.zero_le _, fun p2 np2 => ?_⟩
        obtain ⟨xs1, hg1, hl1, G1⟩ := G.line hT np2
        refine ⟨g, xs1, _, rfl, rfl, Eq.trans (upd_ne (fun z => by rw [z, np2] at hg1; cases hg1)) hg1, line_lt (by have := (gst_len (ps.take i) ([], [])).1; rw [List.length_take] at this; simp at this; omega), _, rfl, ?_⟩
        rw [tk, gst_snoc, hli, if_pos rfl]
        exact G1
      | false =>
        refine iteF ?_
        obtain ⟨xs1, lc, hg1, hlc, G1⟩ := G.put (v := .ref p) hT
        refine ⟨_, rfl, 1, rfl, g, _, -1, .ref lc, rfl, rfl, SqL.of hg1, atI_last _ _, .inl ⟨rfl, _, SqL.of hlc⟩, _, rfl, lc, _, _, rfl, rfl, hlc, line_lt (by have := (gst_len (ps.take i) ([], [])).2; rw [List.length_take] at this; simp at this; omega), _, rfl, ?_⟩
        rw [tk, gst_snoc, hli, if_neg Bool.false_ne_true]
        exact G1
    · rintro σ H' ⟨y2, rfl, G⟩
      rw [List.length_map, List.take_length] at G
      exact ⟨_, rfl, q g H' G⟩
theorem dp_of {H : Hp} : ∀ {ns : List Int} {ys : List V}, RpAll K H ys (ns.map PyData.int) → DpAll K H ys (ns.map PyData.int)
  | [], _, .nil => .nil
  | n :: r, _, .cons (.int _) t => .cons (.int n) (dp_of t)
theorem step_dp {H : Hp} {v : V} {st : Sp1} (h : Rp K H v (stepD st)) : Dp K H v (stepD st) := by
  cases st with
  | none =>
    obtain ⟨p, xs, rfl, h1, h2⟩ := Rp_tup h
    cases h2 with
    | cons k t =>
      cases k
      cases t
      exact .tup h1 (.cons (.str _) .nil)
  | some q =>
    obtain ⟨i, s, ns⟩ := q
    obtain ⟨p, xs, rfl, h1, h2⟩ := Rp_tup h
    cases h2 with
    | cons k t =>
    cases k
    cases t with
    | cons k t =>
    cases k
    cases t with
    | cons k t =>
    cases k
    cases t with
    | cons k t =>
    cases t
    obtain ⟨p2, ys, rfl, g1, g2⟩ := Rp_tup k
    exact .tup h1 (.cons (.str _) (.cons (.int _) (.cons (.int _) (.cons (.tup g1 (dp_of g2)) .nil))))
theorem step_can (st : Sp1) : PyData.canLay0 (stepD st) = true ∧ PyData.depth (stepD st) ≤ 2 := by
  cases st with
  | none => exact ⟨by decide +kernel, by decide⟩
  | some q =>
    obtain ⟨i, s, ns⟩ := q
    constructor
    · show (PyData.canLay0 (.str "put") && (true && (true && (PyData.canLayAll0 (ns.map PyData.int) && true)))) = true
      rw [canAll_ints, show PyData.canLay0 (.str "put") = true by decide +kernel] <;> rfl
    · show max 0 (max 0 (max 0 (max (PyData.depthAll (ns.map PyData.int) + 1) 0))) + 1 ≤ 2
      rw [depAll_ints]
      decide
theorem step_sh (st : Sp1) : SeqAt.shaped (stepD st) = true := by
  have h := step_can st
  unfold SeqAt.shaped
  rw [h.1, decide_eq_true (show PyData.depth (stepD st) ≤ 64 by omega)] <;> rfl
theorem step_eq : ∀ st : Sp1, PyData.eqv (stepD st) (.tuple [.str "line"]) = isLine st
  | none => by decide +kernel
  | some (i, s, ns) => by
    show PyData.eqv (.tuple [.str "put", .int i, .int s, .tuple (ns.map PyData.int)]) (.tuple [.str "line"]) = false
    rfl
theorem Grp.ext {tb : List Addr} {H0 H H' : Hp} {g : Addr} {a : List (List V) × List V} (G : Grp tb H0 H g a) (hT : Tabs tb H0) (e : Ext tb [] H H') : Grp tb H0 H' g a := by
  have t := G.e.tabs hT
  obtain ⟨ls, lc, h1, h2, h3, h4, h5, h6, h7, h8, h9⟩ := G.ex
  exact ⟨⟨ls, lc, e.lst t h1 (by simp), h2, fun i l us a b => e.lst t (h3 i l us a b) (by simp), e.lst t h4 (by simp), h5, h6, h7, h8, h9⟩, G.g0, G.e.trans e⟩
theorem ok_l_groups {tb : List Addr} (T : Txt K mg) (F : FnAt K mg "_law_groups" s_l_groups ["_law_steps_here"] f cd) : CalE P w K mg base CX0 1 "_law_groups" (spGroups K tb) := by
  refine F.cal sc_l_groups (fun vs H Q E h => ?_) (fun A outer s H vs Q E hr h => ?_)
  · obtain ⟨S, ps, rfl, _⟩ := h
    rfl
  · obtain ⟨S, ps, rfl, hS, hps, hl, hT, q⟩ := h
    refine ⟨_, (pss_cons (ps_set (i := 1) sc_l_groups.nd rfl (.inl rfl) (pe_lst (pa_cons (pe_lst pa_nil) pa_nil)))
      (pss_cons (ps_for PassesOwn.never rfl (q_piL (K := K) rfl (pv 0)) (pg_name (i := 2) sc_l_groups.nd rfl (.inl rfl)) (pss_one (ps_if (pt_cmpR (q_eqD (K := K) rfl hr.units) (pv 2) (pe_tup (pa_cons pe_str pa_nil)) (nomark _)) (pss_one (ps_expr (q_bm (K := K) rfl PySem.F.plainAttrs_list PySem.F.slot_list_append PySem.F.type_list_append mt_append (pv 1) (pa_cons (pe_lst pa_nil) pa_nil)))) (pss_one (ps_expr (q_bm (K := K) rfl PySem.F.plainAttrs_list PySem.F.slot_list_append PySem.F.type_list_append mt_append (pe_ix (q_ixL (K := K) rfl) (pv 1) (pe_un un_neg pe_int) (fun _ _ => rfl)) (pa_cons (pv 2) pa_nil)))))))
      (pss_one (ps_ret (pv 1))))), ?_⟩
    refine ⟨Nat.zero_le _, fun l nl => ⟨by show 1 ≤ sizeLine; decide, fun g ng => ?_⟩⟩
    have G0 := Grp.new hT nl ng
    refine ⟨_, rfl, S, rfl, ⟨_, G0.e.sqL hT hS (by simp)⟩, for_list (K := K) (a := S) (xs := ps.map (·.1)) (fun i σ H' => ∃ y2 : Option V, σ = [some (.ref S), some (.ref g), y2] ∧ Grp tb H H' g (gst (ps.take i) ([], []))) ⟨none, rfl, G0⟩ (fun i σ H' _ h => by
      obtain ⟨_, _, G⟩ := h
      exact G.e.sqL hT hS (by simp)) ?_ ?_⟩
    · rintro i v σ H' hv ⟨y2, rfl, G⟩
      have hT' := G.e.tabs hT
      obtain ⟨D, hD, hvD⟩ := RpAll_get hps hv
      rw [List.getElem?_map, List.getElem?_map] at hD
      rw [List.getElem?_map] at hv
      obtain ⟨pv', hpv, rfl⟩ := Option.map_eq_some_iff.mp hv
      rw [hpv] at hD
      obtain ⟨v, st⟩ := pv'
      obtain rfl : stepD st = D := Option.some.inj hD
      have hi : i < ps.length := (List.getElem?_eq_some_iff.mp hpv).1
      have tk : ps.take (i + 1) = ps.take i ++ [(v, st)] := by rw [List.take_add_one, hpv] <;> rfl
      refine ⟨_, rfl, by show 1 ≤ sizeLine; decide, fun tl ntl => ?_⟩
      have eD : Ext tb [] H' (upd H' tl (.tup [.str "line"])) := Ext.new hT' ntl
      refine ⟨stepD st, .tuple [.str "line"], step_dp (Rp_ext (G.e.trans eD) hT _ hvD), .tup (SqT.of upd_same) (.cons (.str _) .nil), step_sh st, by decide +kernel, _, rfl, ?_⟩
      rw [step_eq st]
      have G := G.ext hT eD
      cases hli : isLine st with
      | true =>
        refine iteT ?_
        obtain ⟨ls0, lc0, hg0, _⟩ := G.ex
        refine ⟨_, rfl, .inl ⟨rfl, _, SqL.of hg0⟩, Nat.zero_le _, fun p2 np2 => ?_⟩
        obtain ⟨xs1, hg1, hl1, G1⟩ := G.line hT np2
        refine ⟨g, xs1, _, rfl, rfl, Eq.trans (upd_ne (fun z => by rw [z, np2] at hg1; cases hg1)) hg1, line_lt (by have := (gst_len (ps.take i) ([], [])).1; rw [List.length_take] at this; simp at this; omega), _, rfl, ?_⟩
        rw [tk, gst_snoc, hli, if_pos rfl]
        exact G1
      | false =>
        refine iteF ?_
        obtain ⟨xs1, lc, hg1, hlc, G1⟩ := G.put (v := v) hT
        refine ⟨_, rfl, 1, rfl, g, _, -1, .ref lc, rfl, rfl, SqL.of hg1, atI_last _ _, .inl ⟨rfl, _, SqL.of hlc⟩, _, rfl, lc, _, _, rfl, rfl, hlc, line_lt (by have := (gst_len (ps.take i) ([], [])).2; rw [List.length_take] at this; simp at this; omega), _, rfl, ?_⟩
        rw [tk, gst_snoc, hli, if_neg Bool.false_ne_true]
        exact G1
    · rintro σ H' ⟨y2, rfl, G⟩
      rw [List.length_map, List.take_length] at G
      exact ⟨_, rfl, q g H' G⟩

end
end K22

set_option Elab.async false
set_option linter.all false
set_option maxRecDepth 100000
set_option maxHeartbeats 1000000
namespace K22
open PySem PySem.Spec PyProof.Rows L2 HK DT DW
section
variable {P : Program} {w : World} {K : PySem.W.Frag} {mg : Str → Option Value} {base : Heap} {f : Addr} {cd : Value}
/-! ### a disk's cells by copies and spots -/
def cellD (s : Int) (ns : List Int) : PyData := .tuple [.int (sumN s ns), .tuple (ns.map PyData.int)]
def putM (M : Int → Int → PyData) (i s : Int) (D : PyData) : Int → Int → PyData := fun a b => if a = i ∧ b = s then D else M a b
def stepM (M : Int → Int → PyData) : Sp1 → Int → Int → PyData
  | none => M
  | some (i, s, ns) => putM M i s (cellD s ns)
def stepsM (M : Int → Int → PyData) (sts : List Sp1) : Int → Int → PyData := sts.foldl stepM M
theorem stepsM_snoc (M : Int → Int → PyData) (l : List Sp1) (st : Sp1) : stepsM M (l ++ [st]) = stepM (stepsM M l) st := by
  unfold stepsM
  rw [List.foldl_append]
  rfl
/-- none, or a pair of a number and a short row of numbers -/
def gd (D : PyData) : Prop := D = .none ∨ ∃ s ns, D = cellD s ns ∧ ns.length ≤ 100
theorem gd_fz {D : PyData} (h : gd D) : fz D = true ∧ sm D = true ∧ PyData.depth D ≤ 2 := by
  rcases h with rfl | ⟨s, ns, rfl, hl⟩
  · exact ⟨rfl, rfl, Nat.zero_le _⟩
  · have sn : ∀ l : List Int, smAll (l.map PyData.int) = true := fun l => by
      induction l with
      | nil => rfl
      | cons a r ih =>
        show (true && smAll (r.map PyData.int)) = true
        rw [ih] <;> rfl
    refine ⟨?_, ?_, ?_⟩
    · show (true && (fzAll (ns.map PyData.int) && true)) = true
      rw [fz_ints] <;> rfl
    · show (decide (2 ≤ 1000) && (true && ((decide ((ns.map PyData.int).length ≤ 1000) && smAll (ns.map PyData.int)) && true))) = true
      rw [sn, decide_eq_true (show (ns.map PyData.int).length ≤ 1000 by rw [List.length_map]; omega)] <;> rfl
    · show max 0 (max (PyData.depthAll (ns.map PyData.int) + 1) 0) + 1 ≤ 2
      rw [depAll_ints]
      decide
structure Dk (K : PySem.W.Frag) (C : Addr) (H : Hp) (x dx c : Addr) (n : Int) (M : Int → Int → PyData) (L : Nat) : Prop where
  ins : H x = some (.ins C dx (pf n c))
  ex : ∃ kvs : List (List Key × V), H c = some (.dT kvs) ∧ kvs.length ≤ L ∧ ∀ i s, Rp K H ((valV kvs (ck i s)).getD .non) (M i s)
  g : ∀ i s, gd (M i s)
section
variable {C x dx c : Addr} {n : Int} {M : Int → Int → PyData} {L : Nat} {tb S : List Addr} {H H' : Hp}
theorem Dk.nt (D : Dk K C H x dx c n M L) : NT H c := by
  obtain ⟨kvs, h, _⟩ := D.ex
  exact .inr (.inl ⟨kvs, h⟩)
theorem Dk.ext (D : Dk K C H x dx c n M L) (e : Ext tb S H H') (t : Tabs tb H) (nt : NTs S H) (hc : c ∉ S) : Dk K C H' x dx c n M L := by
  obtain ⟨kvs, h1, h2, h3⟩ := D.ex
  refine ⟨e.keep _ _ (ne_tab t D.ins fun ps z => by cases z) (fun z => ?_) D.ins, ⟨kvs, e.keep _ _ (ne_tab t h1 fun ps z => by cases z) hc h1, h2, fun i s => fz_ext nt e t _ (gd_fz (D.g i s)).1 (h3 i s)⟩, D.g⟩
  rcases nt x z with ⟨ys, q⟩ | ⟨ys, q⟩ | q <;> (rw [D.ins] at q; cases q)
theorem ck_inj {i s a b : Int} : ck a b = ck i s ↔ a = i ∧ b = s := by
  constructor
  · intro h
    injection h with h1 h2
    injection h2 with h3 h4
    exact ⟨Sum.inl.inj h1, Sum.inl.inj h3⟩
  · rintro ⟨rfl, rfl⟩
    rfl
theorem sqL_dT {a : Addr} {xs : List V} {kvs : List (List Key × V)} (hc : H c = some (.dT kvs)) (e : Ext tb [c] H H') (t : Tabs tb H) (h : SqL K H a xs) : SqL K H' a xs := by
  rcases h with h | h
  · refine .inl (e.rd t (.inl ⟨_, rfl⟩) h fun z => ?_)
    rw [List.mem_singleton.mp z] at h
    rcases h with h | ⟨o, h⟩ <;> (rw [hc] at h; cases h)
  · exact .inr h
end
structure DiskM (P : Program) (w : World) (K : PySem.W.Frag) (mg : Str → Option Value) (base : Heap) (tb : List Addr) (C fW fC : Addr) (fdW fdC : FuncData) : Prop where
  ce : ClsE K C
  m_write : Meth K C "write" fW
  ok_write : FnOk P w K mg base CX0 3 fW fdW ["self", "copy", "spot", "content"] (spWrite K C tb)
  b_write : Binds K fdW ["self", "copy", "spot", "content"] []
  m_cell : Meth K C "cell" fC
  ok_cell : FnOk P w K mg base CX0 5 fC fdC ["self", "copy", "spot"] (spDCell K C tb)
  b_cell : Binds K fdC ["self", "copy", "spot"] []
  new : C8.Mak P w K mg base 1 "Disk" C (spInit C tb) []
theorem DiskM.cl {tb : List Addr} {C fW fC : Addr} {fdW fdC : FuncData} (D : DiskM P w K mg base tb C fW fC fdW fdC) : Cls K C := D.ce.cl
theorem no_write (n : Int) (c : Addr) : (pf n c).lookup ("write" : Str) = none := pf_no n c (by decide +kernel) (by decide +kernel)
theorem no_cell (n : Int) (c : Addr) : (pf n c).lookup ("cell" : Str) = none := pf_no n c (by decide +kernel) (by decide +kernel)
section
variable {C x dx c : Addr} {n : Int} {M : Int → Int → PyData} {L : Nat} {tb : List Addr} {H : Hp}
/-- a disk behind a write -/
theorem Dk.wr {p t : Addr} {i s : Int} {ns : List Int} {kvs : List (List Key × V)} {H' : Hp} (D : Dk K C H x dx c n M L) (hT : Tabs tb H) (hp : SqT K H p (ns.map V.int)) (hn : ns.length ≤ 100) (h1 : H c = some (.dT kvs)) (h2 : kvs.length ≤ L) (h3 : ∀ i s, Rp K H ((valV kvs (ck i s)).getD .non) (M i s))
    (e : Ext tb [c] H H') (h4 : H' c = some (.dT (putK kvs (ck i s) (.ref t)))) (h5 : SqT K H' t [.int (sumN s ns), .ref p]) : Dk K C H' x dx c n (putM M i s (cellD s ns)) (L + 1) := by
  have nt : NTs [c] H := fun z hz => by
    rw [List.mem_singleton.mp hz]
    exact D.nt
  refine ⟨e.keep _ _ (ne_tab hT D.ins fun ps z => by cases z) (fun z => ?_) D.ins, ⟨_, h4, Nat.le_trans (length_putK ..) (by omega), fun a b => ?_⟩, fun a b => ?_⟩
  · have := D.ins
    rw [List.mem_singleton.mp z, h1] at this
    cases this
  · rw [valV_put]
    unfold putM
    by_cases hab : a = i ∧ b = s
    · rw [if_pos (ck_inj.mpr hab), if_pos hab]
      exact .tup h5 (.cons (.int _) (.cons (.tup (sqT_keep nt e hT hp) (Rp_ints ns)) .nil))
    · rw [if_neg (fun z => hab (ck_inj.mp z)), if_neg hab]
      exact fz_ext nt e hT _ (gd_fz (D.g a b)).1 (h3 a b)
  · unfold putM
    by_cases hab : a = i ∧ b = s
    · rw [if_pos hab]
      exact .inr ⟨s, ns, rfl, hn⟩
    · rw [if_neg hab]
      exact D.g a b
end
def okSt : Sp1 → Prop
  | none => True
  | some (_, _, ns) => ns.length ≤ 100
def spDo (K : PySem.W.Frag) (C : Addr) (tb : List Addr) : Sp := fun vs H Q _ => ∃ (x dx c S : Addr) (n : Int) (M : Int → Int → PyData) (L : Nat) (ps : List (V × Sp1)), vs = [.ref x, .ref S] ∧ Dk K C H x dx c n M L ∧ L + ps.length ≤ 4000 ∧ SqL K H S (ps.map (·.1)) ∧ RpAll K H (ps.map (·.1)) ((ps.map (·.2)).map stepD) ∧ (∀ q ∈ ps, okSt q.2) ∧ Tabs tb H ∧
  ∀ H', Ext tb [c] H H' → Dk K C H' x dx c n (stepsM M (ps.map (·.2))) (L + ps.length) → Q .non H'
theorem put_parts {H : Hp} {v : V} {i s : Int} {ns : List Int} (h : Rp K H v (stepD (some (i, s, ns)))) : ∃ p b, v = .ref p ∧ SqT K H p [.str "put", .int i, .int s, .ref b] ∧ SqT K H b (ns.map V.int) := by
  obtain ⟨p, xs, rfl, h1, h2⟩ := Rp_tup h
  cases h2 with
  | cons k t =>
  cases k
  cases t with
  | cons k t =>
  cases k
  cases t with
  | cons k t =>
  cases k
  cases t with
  | cons k t =>
  cases t
  obtain ⟨p2, ys, rfl, g1, g2⟩ := Rp_tup k
  have : ys = ns.map V.int := DpAll_ints (dp_of g2)
  subst this
  exact ⟨p, p2, rfl, h1, g1⟩
theorem line_parts {H : Hp} {v : V} (h : Rp K H v (stepD none)) : ∃ p, v = .ref p ∧ SqT K H p [.str "line"] := by
  obtain ⟨p, xs, rfl, h1, h2⟩ := Rp_tup h
  cases h2 with
  | cons k t =>
    cases k
    cases t
    exact ⟨p, rfl, h1⟩
theorem ok_do_steps {tb : List Addr} {C fW fC : Addr} {fdW fdC : FuncData} (D : DiskM P w K mg base tb C fW fC fdW fdC) (F : FnAt K mg "do_steps" s_do_steps ["disk", "steps"] f cd) : CalE P w K mg base CX0 4 "do_steps" (spDo K C tb) := by
  refine F.cal sc_do_steps (fun vs H Q E h => ?_) (fun A outer s H vs Q E hr h => ?_)
  · obtain ⟨x, dx, c, S, n, M, L, ps, rfl, _⟩ := h
    rfl
  · obtain ⟨x, dx, c, S, n, M, L, ps, rfl, hD, hL, hS, hps, hok, hT, q⟩ := h
    refine ⟨_, (pss_one (ps_for PassesOwn.never rfl (q_piL (K := K) rfl (pv 1)) (pg_name (i := 2) sc_do_steps.nd rfl (.inl rfl)) (pss_one (ps_if (pt_cmpR op_eq (pe_ix (q_ixT (K := K) rfl) (pv 2) pe_int (fun _ _ => rfl)) pe_str (nomark _)) (pss_cons (ps_asg (pv 2) (RJ.q_pgT (K := K) (n := 4) rfl rfl (pgs_cons (pg_name (i := 3) sc_do_steps.nd rfl (.inl rfl)) (pgs_cons (pg_name (i := 4) sc_do_steps.nd rfl (.inl rfl)) (pgs_cons (pg_name (i := 5) sc_do_steps.nd rfl (.inl rfl)) (pgs_cons (pg_name (i := 6) sc_do_steps.nd rfl (.inl rfl)) pgs_nil))))))
      (pss_one (ps_expr (pe_meth (pv 0) D.cl D.m_write D.ok_write (hr.mono (by first | decide | omega)) D.b_write .nil pass0 (pa_cons (pv 4) (pa_cons (pv 5) (pa_cons (pv 6) pa_nil))))))) pss_nil)))), ?_⟩
    obtain ⟨kv0, hc0, _⟩ := hD.ex
    have nt0 : NTs [c] H := fun z hz => by
      rw [List.mem_singleton.mp hz]
      exact hD.nt
    refine ⟨_, rfl, S, rfl, ⟨_, hS⟩, for_list (K := K) (a := S) (xs := ps.map (·.1)) (fun i σ H' => ∃ (y2 y3 y4 y5 y6 : Option V), σ = [some (.ref x), some (.ref S), y2, y3, y4, y5, y6] ∧ Ext tb [c] H H' ∧ Dk K C H' x dx c n (stepsM M ((ps.take i).map (·.2))) (L + i)) ⟨_, _, _, _, _, rfl, Ext.refl, hD⟩ (fun i σ H' _ h => by
      obtain ⟨_, _, _, _, _, _, e, _⟩ := h
      exact sqL_dT hc0 e hT hS) ?_ ?_⟩
    · rintro i v σ H' hv ⟨y2, y3, y4, y5, y6, rfl, e', hD'⟩
      have hT' := e'.tabs hT
      obtain ⟨Dv, hDv, hvD⟩ := RpAll_get hps hv
      rw [List.getElem?_map, List.getElem?_map] at hDv
      rw [List.getElem?_map] at hv
      obtain ⟨pv', hpv, rfl⟩ := Option.map_eq_some_iff.mp hv
      rw [hpv] at hDv
      obtain ⟨v, st⟩ := pv'
      obtain rfl : stepD st = Dv := Option.some.inj hDv
      have hi : i < ps.length := (List.getElem?_eq_some_iff.mp hpv).1
      have tk : (ps.take (i + 1)).map (·.2) = (ps.take i).map (·.2) ++ [st] := by rw [List.take_add_one, hpv, List.map_append] <;> rfl
      have hv' := fz_ext nt0 e' hT _ (fz_step st) hvD
      cases st with
      | none =>
        obtain ⟨p, rfl, hp⟩ := line_parts hv'
        refine ⟨_, rfl, p, _, _, _, rfl, rfl, hp, atI_nat (j := 0) rfl, rfl, _, rfl, iteF ?_⟩
        refine ⟨_, _, _, _, _, rfl, e', ?_⟩
        rw [tk, stepsM_snoc]
        obtain ⟨a1, ⟨kvs, b1, b2, b3⟩, a3⟩ := hD'
        exact ⟨a1, ⟨kvs, b1, by omega, b3⟩, a3⟩
      | some st =>
        obtain ⟨ii, ss, ns⟩ := st
        obtain ⟨p, b, rfl, hp, hb⟩ := put_parts hv'
        refine ⟨_, rfl, p, _, _, _, rfl, rfl, hp, atI_nat (j := 0) rfl, rfl, _, rfl, iteT ?_⟩
        refine ⟨_, rfl, p, _, rfl, hp, rfl, _, _, rfl, _, _, rfl, _, _, rfl, _, _, rfl, rfl, ?_⟩
        refine ⟨_, rfl, x, dx, _, rfl, hD'.ins, no_write _ _, _, rfl, _, rfl, _, rfl, ?_⟩
        obtain ⟨kvs, h1, h2, h3⟩ := hD'.ex
        refine ⟨x, dx, c, b, n, ii, ss, kvs, ns, rfl, hD'.ins, h1, by omega, hb, hT', fun t H2 e2 h4 h5 => ?_⟩
        have D2 := hD'.wr hT' hb (hok _ (List.mem_of_getElem? hpv)) h1 h2 h3 e2 h4 h5
        refine ⟨_, _, _, _, _, rfl, e'.trans e2, ?_⟩
        rw [tk, stepsM_snoc]
        exact D2
    · rintro σ H' ⟨y2, y3, y4, y5, y6, rfl, e', hD'⟩
      rw [List.length_map, List.take_length] at hD'
      exact q H' e' hD'

end
end K22

set_option Elab.async false
set_option linter.all false
set_option maxRecDepth 100000
set_option maxHeartbeats 1000000
namespace K22
open PySem PySem.Spec PyProof.Rows L2 HK DT DW
section
variable {P : Program} {w : World} {K : PySem.W.Frag} {mg : Str → Option Value} {base : Heap} {f : Addr} {cd : Value}
/-! ### the law's contents and steps -/
theorem mod_rg (x m : Int) (h : 0 < m) : 0 ≤ x % m ∧ x % m < m := ⟨Int.emod_nonneg _ (by omega), Int.emod_lt_of_pos _ h⟩
theorem at_map {α : Type} (g : α → V) {l : List α} {i : Int} (h0 : 0 ≤ i) (h1 : i < l.length) : ∃ m, m ∈ l ∧ atI (l.map g) i = some (g m) := by
  have hk : i.toNat < l.length := by omega
  exact ⟨l[i.toNat], List.getElem_mem hk, at_of (j := i.toNat) (by omega) (by rw [List.getElem?_map, List.getElem?_eq_getElem hk] <;> rfl)⟩
def sizes : List Int := [3, 1000, 10 ^ (12:Int).toNat]
def spLCont (tb : List Addr) : Sp := fun vs H Q _ => ∃ (d : Addr) (ds : List Int), vs = [.ref d] ∧ H d = some (.lst (ds.map V.int)) ∧ Dr ds ∧ Tabs tb H ∧
  ∀ (ns r : List Int) p H', ns.length ≤ 4 → Dr r → Ext tb [d] H H' → H' d = some (.lst (r.map V.int)) → H' p = some (.tup (ns.map V.int)) → Q (.ref p) H'
theorem ok_l_content {tb : List Addr} (T : Txt K mg) (F : FnAt K mg "_law_content" s_l_content ["_law_drawn"] f cd) (C_l_next : CalE P w K mg base CX0 1 "_law_next" (spNext tb)) : CalE P w K mg base CX0 2 "_law_content" (spLCont tb) := by
  refine F.cal sc_l_content (fun vs H Q E h => ?_) (fun A outer s H vs Q E hr h => ?_)
  · obtain ⟨d, ds, rfl, _⟩ := h
    rfl
  · obtain ⟨d, ds, rfl, hd, hD, hT, q⟩ := h
    refine ⟨_, (pss_cons (ps_set (i := 1) sc_l_content.nd rfl (.inr rfl) (pe_cal C_l_next (hr.mono (by first | decide | omega)) (by rfl) (pa_cons (pv 0) pa_nil)))
      (pss_one (ps_ret (pe_callTy (q_tup (K := K) rfl) (by rfl) T.b_tuple (by decide +kernel) (pa_cons (pe_lc (own := [("_law_k", 2)]) (g := gName 2) (tt := tYes) (by rfl) sc_l_content.nd (pi_range1 (by rfl) T.b_range (pa_cons (pe_op op_mod (pv 1) pe_int) pa_nil)) (blkOk_by (own := [("_law_k", 2)]) (N := n_l_content) (sc := defScope s_l_content) (by decide +kernel)) (fun _ _ _ _ _ => (pg_name (i := 2) sc_l_content.nd rfl (.inl rfl))) (fun _ _ _ _ _ => pts_nil) (fun _ _ _ _ _ => (pe_op op_mod (pe_op op_add (pe_op op_fdiv (pv 1) pe_int) (pe_op op_mul (pe_op op_mul (pv 2) (pv 2)) (pv 1))) (pe_ix (q_ixL (K := K) rfl) (pe_lst (pa_cons pe_int (pa_cons pe_int (pa_cons (pe_op op_pow pe_int pe_int) pa_nil)))) (pe_op op_mod (pe_op op_fdiv (pv 1) pe_int) pe_int) (fun _ _ => rfl))))) pa_nil))))), ?_⟩
    refine ⟨_, rfl, d, ds, rfl, hd, hD, hT, fun x r H1 hx hr1 ex1 hd1 => ?_⟩
    have hT1 := ex1.tabs hT
    have b5 := mod_rg x 5 (by decide)
    have b3 := mod_rg (x / 3) 3 (by decide)
    obtain ⟨z, hz, hza⟩ := at_map V.int (l := sizes) b3.1 b3.2
    have hz0 : 0 < z := by
      have : ∀ z ∈ sizes, 0 < z := by decide
      exact this z hz
    refine ⟨_, rfl, _, _, rfl, rfl, (by show (0:Int) < 5; decide), _, rfl, by omega, by omega, fun D hDn => ?_⟩
    have hDn : H1 D = none := hDn
    have nDd : D ≠ d := fun z => by rw [z, hd1] at hDn; cases hDn
    have hDn0 : H D = none := ex1.free hT hDn (by simp [nDd])
    refine lc_range (lo := 0) (n := (x % 5).toNat) (fun i H2 => ∃ ns : List Int, ns.length = i ∧ H2 d = some (.lst (r.map V.int)) ∧ H2 D = some (.lst (ns.map V.int)) ∧ Ext tb [d] H H2) ?_ ?_ ?_
    · exact ⟨[], rfl, by rw [upd_ne (Ne.symm nDd)]; exact hd1, upd_same, Ext.own hT ex1 hDn0⟩
    · rintro i H2 hi ⟨ns, hl2, hd2, hDD2, ex2⟩
      have hT2 := ex2.tabs hT
      refine ⟨rfl, _, rfl, _, _, rfl, rfl, ⟨by decide, by decide⟩, _, rfl, _, rfl, _, _, rfl, rfl, .inl ⟨by omega, by omega⟩, _, rfl, _, _, rfl, rfl, .inl ?_, _, _, rfl, rfl, ?_⟩
      · have : (0 + (i : Int)) * (0 + (i : Int)) ≤ 9 * 9 := Int.mul_le_mul (by omega) (by omega) (by omega) (by omega)
        have : 0 ≤ (0 + (i : Int)) * (0 + (i : Int)) := Int.mul_nonneg (by omega) (by omega)
        exact ⟨by omega, by omega⟩
      refine ⟨_, _, rfl, rfl, ⟨by decide, by decide, by decide⟩, by show 3 ≤ sizeLine; decide, fun t nt => ?_⟩
      have ntd : d ≠ t := fun z => by rw [← z, hd2] at nt; cases nt
      have ntD : D ≠ t := fun z => by rw [← z, hDD2] at nt; cases nt
      have e3 : Ext tb [d] H (upd H2 t (.lst (sizes.map V.int))) := ex2.trans (Ext.new hT2 nt)
      refine ⟨_, rfl, _, _, rfl, rfl, ⟨by decide, by decide⟩, _, _, rfl, rfl, (by show (0:Int) < 3; decide), t, sizes.map V.int, _, .int z, rfl, rfl, SqL.of upd_same, hza, _, _, rfl, rfl, hz0, ?_⟩
      refine ⟨_, Eq.trans (upd_ne ntD) hDD2, line_lt (by rw [List.length_map]; omega), ns ++ [(x / 7 + (0 + (i : Int)) * (0 + (i : Int)) * x) % z], by rw [List.length_append, hl2] <;> rfl, by rw [upd_ne (Ne.symm nDd), upd_ne ntd]; exact hd2, by rw [upd_same, List.map_append] <;> rfl, Ext.own hT e3 hDn0⟩
    · rintro H2 ⟨ns, hl2, hd2, hDD2, ex2⟩
      refine ⟨D, _, rfl, .inl ⟨SqL.of hDD2, fun l hl => ?_⟩⟩
      have nld : l ≠ d := fun z => by rw [z, hd2] at hl; cases hl
      exact q ns r l _ (by omega) hr1 (Ext.own hT ex2 (ex2.free hT hl (by simp [nld]))) (by rw [upd_ne (Ne.symm nld)]; exact hd2) upd_same
def okS (m : Int) : Sp1 → Prop
  | none => True
  | some (i, s, ns) => 0 ≤ i ∧ i < 2 ∧ 0 ≤ s ∧ s < m ∧ ns.length ≤ 4
def spSteps (K : PySem.W.Frag) (tb : List Addr) : Sp := fun vs H Q _ => ∃ (d : Addr) (ds : List Int) (m : Int), vs = [.ref d, .int m] ∧ 3 ≤ m ∧ H d = some (.lst (ds.map V.int)) ∧ Dr ds ∧ Tabs tb H ∧
  ∀ Ls (ps : List (V × Sp1)) (es : List Int) H', Ext tb [d] H H' → H Ls = none → Dr es → H' d = some (.lst (es.map V.int)) → H' Ls = some (.lst (ps.map (·.1))) → RpAll K H' (ps.map (·.1)) ((ps.map (·.2)).map stepD) → ps.length ≤ 24 → (∀ q ∈ ps, okS m q.2) → Q (.ref Ls) H'
theorem ok_l_steps {tb : List Addr} (T : Txt K mg) (F : FnAt K mg "_law_steps" s_l_steps ["_law_drawn", "_law_spots"] f cd) (C_l_next : CalE P w K mg base CX0 1 "_law_next" (spNext tb)) (C_l_content : CalE P w K mg base CX0 2 "_law_content" (spLCont tb)) : CalE P w K mg base CX0 3 "_law_steps" (spSteps K tb) := by
  refine F.cal sc_l_steps (fun vs H Q E h => ?_) (fun A outer s H vs Q E hr h => ?_)
  · obtain ⟨d, ds, m, rfl, _⟩ := h
    rfl
  · obtain ⟨d, ds, m, rfl, hm, hd, hD, hT, q⟩ := h
    refine ⟨_, (pss_cons (ps_set (i := 2) sc_l_steps.nd rfl (.inl rfl) (pe_lst pa_nil))
      (pss_cons (ps_for PassesOwn.never rfl (pi_range1 (by rfl) T.b_range (pa_cons (pe_op op_mod (pe_cal C_l_next (hr.mono (by first | decide | omega)) (by rfl) (pa_cons (pv 0) pa_nil)) pe_int) pa_nil)) (pg_name (i := 3) sc_l_steps.nd rfl (.inl rfl)) (pss_cons (ps_set (i := 4) sc_l_steps.nd rfl (.inl rfl) (pe_cal C_l_next (hr.mono (by first | decide | omega)) (by rfl) (pa_cons (pv 0) pa_nil)))
      (pss_one (ps_if (pt_cmpR op_eq (pe_op op_mod (pv 4) pe_int) pe_int (nomark _)) (pss_one (ps_expr (q_bm (K := K) rfl PySem.F.plainAttrs_list PySem.F.slot_list_append PySem.F.type_list_append mt_append (pv 2) (pa_cons (pe_tup (pa_cons pe_str pa_nil)) pa_nil)))) (pss_cons (ps_set (i := 5) sc_l_steps.nd rfl (.inl rfl) (pe_ix (q_ixL (K := K) rfl) (pe_lst (pa_cons (pe_op op_mod (pe_op op_fdiv (pv 4) pe_int) (pv 1)) (pa_cons (pe_op op_mod (pe_op op_fdiv (pv 4) pe_int) pe_int) pa_nil))) (pe_op op_mod (pe_op op_fdiv (pv 4) pe_int) pe_int) (fun _ _ => rfl)))
      (pss_one (ps_expr (q_bm (K := K) rfl PySem.F.plainAttrs_list PySem.F.slot_list_append PySem.F.type_list_append mt_append (pv 2) (pa_cons (pe_tup (pa_cons pe_str (pa_cons (pe_op op_mod (pe_op op_fdiv (pv 4) pe_int) pe_int) (pa_cons (pv 5) (pa_cons (pe_cal C_l_content (hr.mono (by first | decide | omega)) (by rfl) (pa_cons (pv 0) pa_nil)) pa_nil))))) pa_nil)))))))))
      (pss_one (ps_ret (pv 2))))), ?_⟩
    refine ⟨Nat.zero_le _, fun Ls nL => ?_⟩
    have nLd : Ls ≠ d := fun z => by rw [z, hd] at nL; cases nL
    have e0 : Ext tb [d] H (upd H Ls (.lst [])) := Ext.new hT nL
    refine ⟨_, rfl, d, ds, rfl, Eq.trans (upd_ne (Ne.symm nLd)) hd, hD, e0.tabs hT, fun x0 r0 H1 hx0 hD1 ex1 hd1 => ?_⟩
    have b25 := mod_rg x0 25 (by decide)
    have hL1 := ex1.lst (e0.tabs hT) (a := Ls) upd_same (by simp [nLd])
    refine ⟨_, _, rfl, rfl, (by show (0:Int) < 25; decide), _, rfl, by omega, by omega, for_range (lo := 0) (n := (x0 % 25).toNat) (fun i σ H2 => ∃ (ps : List (V × Sp1)) (es : List Int) (y3 y4 y5 : Option V), σ = [some (.ref d), some (.int m), some (.ref Ls), y3, y4, y5] ∧ Dr es ∧ H2 d = some (.lst (es.map V.int)) ∧ H2 Ls = some (.lst (ps.map (·.1))) ∧ RpAll K H2 (ps.map (·.1)) ((ps.map (·.2)).map stepD) ∧ Ext tb [d] H H2 ∧ ps.length ≤ i ∧ ∀ q ∈ ps, okS m q.2)
      ⟨[], r0, _, _, _, rfl, hD1, hd1, hL1, .nil, e0.trans ex1, Nat.le_refl _, fun q hq => by cases hq⟩ ?_ ?_⟩
    · rintro i σ H2 hi ⟨ps, es, y3, y4, y5, rfl, hD2, hd2, hL2, hr2, ex2, hl2, hok⟩
      have hT2 := ex2.tabs hT
      refine ⟨_, rfl, d, es, rfl, hd2, hD2, hT2, fun x r3 H3 hx hD3 ex3 hd3 => ?_⟩
      have ex03 := ex2.trans ex3
      have hT3 := ex03.tabs hT
      have hL3 := ex3.lst hT2 hL2 (by simp [nLd])
      have nt2 : NTs [d] H2 := fun z hz => by
        rw [List.mem_singleton.mp hz]
        exact .inl ⟨_, hd2⟩
      have hr3 := fzAll_ext nt2 ex3 hT2 _ (fz_steps _) hr2
      -- one step more, at t
      have more : ∀ (st : Sp1) (t : Addr) (H4 : Hp) (es' : List Int), okS m st → Dr es' → Ext tb [d] H3 H4 → H4 d = some (.lst (es'.map V.int)) → H4 Ls = some (.lst (ps.map (·.1))) → Rp K H4 (.ref t) (stepD st) → ∀ (y3 y4 y5 : Option V), ∃ (ps' : List (V × Sp1)) (es : List Int) (z3 z4 z5 : Option V), [some (.ref d), some (.int m), some (.ref Ls), y3, y4, y5] = [some (.ref d), some (.int m), some (.ref Ls), z3, z4, z5] ∧ Dr es ∧ (upd H4 Ls (.lst (ps.map (·.1) ++ [.ref t]))) d = some (.lst (es.map V.int)) ∧ (upd H4 Ls (.lst (ps.map (·.1) ++ [.ref t]))) Ls = some (.lst (ps'.map (·.1))) ∧ RpAll K (upd H4 Ls (.lst (ps.map (·.1) ++ [.ref t]))) (ps'.map (·.1)) ((ps'.map (·.2)).map stepD) ∧ Ext tb [d] H (upd H4 Ls (.lst (ps.map (·.1) ++ [.ref t]))) ∧ ps'.length ≤ i + 1 ∧ ∀ q ∈ ps', okS m q.2 := by
        intro st t H4 es' ho hDe e4 hd4 hL4 hg y3 y4 y5
        have hT4 := e4.tabs hT3
        have nt3 : NTs [d] H3 := fun z hz => by
          rw [List.mem_singleton.mp hz]
          exact .inl ⟨_, hd3⟩
        have hr4 := fzAll_ext nt3 e4 hT3 _ (fz_steps _) hr3
        have nt4 : NTs [Ls] H4 := fun z hz => by
          rw [List.mem_singleton.mp hz]
          exact .inl ⟨_, hL4⟩
        have e5 : Ext tb [Ls] H4 (upd H4 Ls (.lst (ps.map (·.1) ++ [.ref t]))) := Ext.mut (by simp) (ne_tab hT4 hL4 fun ps z => by cases z)
        refine ⟨ps ++ [(.ref t, st)], es', _, _, _, rfl, hDe, by rw [upd_ne (Ne.symm nLd)]; exact hd4, by rw [upd_same, List.map_append] <;> rfl, ?_, Ext.own hT (ex03.trans e4) nL, by rw [List.length_append]; show ps.length + 1 ≤ _; omega, fun q hq => ?_⟩
        · rw [List.map_append, List.map_append, List.map_append]
          exact RpAll_app (fzAll_ext nt4 e5 hT4 _ (fz_steps _) hr4) (.cons (fz_ext nt4 e5 hT4 _ (fz_step st) hg) .nil)
        · rcases List.mem_append.mp hq with h | h
          · exact hok q h
          · rw [List.mem_singleton.mp h]
            exact ho
      refine ⟨_, rfl, _, _, rfl, rfl, (by show (0:Int) < 4; decide), rfl, _, rfl, ?_⟩
      cases decide (V.int (x % 4) = V.int 0) with
      | true =>
        refine iteT ?_
        refine ⟨_, rfl, .inl ⟨rfl, _, SqL.of hL3⟩, by show 1 ≤ sizeLine; decide, fun t nt => ?_⟩
        have ntd : d ≠ t := fun z => by rw [← z, hd3] at nt; cases nt
        have ntL : Ls ≠ t := fun z => by rw [← z, hL3] at nt; cases nt
        refine ⟨Ls, _, _, rfl, rfl, Eq.trans (upd_ne ntL) hL3, line_lt (by rw [List.length_map]; omega), ?_⟩
        exact more none t _ r3 trivial hD3 (Ext.new hT3 nt) (Eq.trans (upd_ne ntd) hd3) (Eq.trans (upd_ne ntL) hL3) (.tup (SqT.of upd_same) (.cons (.str _) .nil)) _ _ _
      | false =>
        refine iteF ?_
        refine ⟨_, rfl, _, _, rfl, rfl, ⟨by decide, by decide⟩, _, rfl, _, _, rfl, rfl, (by show (0:Int) < m; omega), _, rfl, _, _, rfl, rfl, ⟨by decide, by decide⟩, _, _, rfl, rfl, (by show (0:Int) < 3; decide), by show 2 ≤ sizeLine; decide, fun t nt => ?_⟩
        have b2 := mod_rg (x / 512) 2 (by decide)
        have bm := mod_rg (x / 8) m (by omega)
        have b3 := mod_rg (x / 8) 3 (by decide)
        obtain ⟨sp, hsp, hspa⟩ := at_map V.int (l := [x / 8 % m, x / 8 % 3]) b2.1 b2.2
        have hs : 0 ≤ sp ∧ sp < m := by
          rcases List.mem_cons.mp hsp with rfl | h
          · exact bm
          · rw [List.mem_singleton.mp h]
            omega
        have ntd : d ≠ t := fun z => by rw [← z, hd3] at nt; cases nt
        have ntL : Ls ≠ t := fun z => by rw [← z, hL3] at nt; cases nt
        have e4 : Ext tb [d] H3 (upd H3 t (.lst ([x / 8 % m, x / 8 % 3].map V.int))) := Ext.new hT3 nt
        have hT4 := e4.tabs hT3
        have hd4 : (upd H3 t (.lst ([x / 8 % m, x / 8 % 3].map V.int))) d = some (.lst (r3.map V.int)) := Eq.trans (upd_ne ntd) hd3
        have hL4 : (upd H3 t (.lst ([x / 8 % m, x / 8 % 3].map V.int))) Ls = some (.lst (ps.map (·.1))) := Eq.trans (upd_ne ntL) hL3
        refine ⟨_, rfl, _, _, rfl, rfl, ⟨by decide, by decide⟩, _, _, rfl, rfl, (by show (0:Int) < 2; decide), t, _, _, .int sp, rfl, rfl, SqL.of upd_same, hspa, ?_⟩
        have b22 := mod_rg (x / 4) 2 (by decide)
        refine ⟨_, rfl, .inl ⟨rfl, _, SqL.of hL4⟩, _, rfl, _, _, rfl, rfl, ⟨by decide, by decide⟩, _, _, rfl, rfl, (by show (0:Int) < 2; decide), _, rfl, _, rfl, d, r3, rfl, hd4, hD3, hT4, fun ns r6 p H6 hn hD6 ex6 hd6 hp6 => ?_⟩
        have hT6 := ex6.tabs hT4
        have hL6 := ex6.lst hT4 hL4 (by simp [nLd])
        refine ⟨by show 4 ≤ sizeLine; decide, fun t2 nt2 => ?_⟩
        have n2d : d ≠ t2 := fun z => by rw [← z, hd6] at nt2; cases nt2
        have n2L : Ls ≠ t2 := fun z => by rw [← z, hL6] at nt2; cases nt2
        have n2p : p ≠ t2 := fun z => by rw [← z, hp6] at nt2; cases nt2
        have e7 : Ext tb [d] H3 (upd H6 t2 (.tup [.str "put", .int (x / 4 % 2), .int sp, .ref p])) := (e4.trans ex6).trans (Ext.new hT6 nt2)
        refine ⟨Ls, _, _, rfl, rfl, Eq.trans (upd_ne n2L) hL6, line_lt (by rw [List.length_map]; omega), ?_⟩
        exact more (some (x / 4 % 2, sp, ns)) t2 _ r6 ⟨b22.1, b22.2, hs.1, hs.2, hn⟩ hD6 e7 (Eq.trans (upd_ne n2d) hd6) (Eq.trans (upd_ne n2L) hL6)
          (.tup (SqT.of upd_same) (.cons (.str _) (.cons (.int _) (.cons (.int _) (.cons (.tup (SqT.of (Eq.trans (upd_ne n2p) hp6)) (Rp_ints ns)) .nil))))) _ _ _
    · rintro σ H2 ⟨ps, es, y3, y4, y5, rfl, hD2, hd2, hL2, hr2, ex2, hl2, hok⟩
      exact ⟨_, rfl, q Ls ps es H2 ex2 nL hD2 hd2 hL2 hr2 (by omega) hok⟩

end
end K22

set_option Elab.async false
set_option linter.all false
set_option maxRecDepth 100000
set_option maxHeartbeats 1000000
namespace K22
open PySem PySem.Spec PyProof.Rows L2 HK DT DW
section
variable {P : Program} {w : World} {K : PySem.W.Frag} {mg : Str → Option Value} {base : Heap} {f : Addr} {cd : Value}
/-! ### the law's cells -/
structure Lc (K : PySem.W.Frag) (H : Hp) (Lo l0 l1 : Addr) (m : Nat) (M : Int → Int → PyData) : Prop where
  o : H Lo = some (.lst [.ref l0, .ref l1])
  ex : ∃ v0 v1 : List V, H l0 = some (.lst v0) ∧ H l1 = some (.lst v1) ∧ v0.length = m ∧ v1.length = m ∧ ∀ s : Nat, s < m → ∃ a b, v0[s]? = some a ∧ v1[s]? = some b ∧ Rp K H a (M 0 s) ∧ Rp K H b (M 1 s)
  ne : l0 ≠ l1 ∧ Lo ≠ l0 ∧ Lo ≠ l1
  g : ∀ i s, gd (M i s)
section
variable {Lo l0 l1 : Addr} {m : Nat} {M : Int → Int → PyData} {tb S : List Addr} {H H' : Hp}
theorem Lc.nts (L : Lc K H Lo l0 l1 m M) : NTs [l0, l1] H := fun z hz => by
  obtain ⟨v0, v1, h1, h2, _⟩ := L.ex
  rcases List.mem_cons.mp hz with rfl | hz
  · exact .inl ⟨_, h1⟩
  · rw [List.mem_singleton.mp hz]
    exact .inl ⟨_, h2⟩
theorem Lc.ext (L : Lc K H Lo l0 l1 m M) (e : Ext tb S H H') (t : Tabs tb H) (nt : NTs S H) (n1 : Lo ∉ S) (n2 : l0 ∉ S) (n3 : l1 ∉ S) : Lc K H' Lo l0 l1 m M := by
  obtain ⟨v0, v1, h1, h2, h3, h4, h5⟩ := L.ex
  refine ⟨e.lst t L.o n1, ⟨v0, v1, e.lst t h1 n2, e.lst t h2 n3, h3, h4, fun s hs => ?_⟩, L.ne, L.g⟩
  obtain ⟨a, b, g1, g2, g3, g4⟩ := h5 s hs
  exact ⟨a, b, g1, g2, fz_ext nt e t _ (gd_fz (L.g 0 s)).1 g3, fz_ext nt e t _ (gd_fz (L.g 1 s)).1 g4⟩
theorem gd_put {i s : Int} {ns : List Int} (h : ∀ i s, gd (M i s)) (hn : ns.length ≤ 100) : ∀ a b, gd (putM M i s (cellD s ns) a b) := fun a b => by
  unfold putM
  by_cases hab : a = i ∧ b = s
  · rw [if_pos hab]
    exact .inr ⟨s, ns, rfl, hn⟩
  · rw [if_neg hab]
    exact h a b
theorem Lc.wr0 {s : Nat} {t : Addr} {ns : List Int} {v0 : List V} (L : Lc K H Lo l0 l1 m M) (hT : Tabs tb H) (hv : H l0 = some (.lst v0)) (hs : s < m) (hn : ns.length ≤ 100) (ht : Rp K H (.ref t) (cellD s ns)) : Lc K (upd H l0 (.lst (v0.set s (.ref t)))) Lo l0 l1 m (putM M 0 s (cellD s ns)) := by
  obtain ⟨w0, v1, h1, h2, h3, h4, h5⟩ := L.ex
  rw [hv] at h1
  cases h1
  have nt : NTs [l0] H := fun z hz => by
    rw [List.mem_singleton.mp hz]
    exact .inl ⟨_, hv⟩
  have e : Ext tb [l0] H (upd H l0 (.lst (v0.set s (.ref t)))) := Ext.mut (by simp) (ne_tab hT hv fun ps z => by cases z)
  refine ⟨by rw [upd_ne L.ne.2.1]; exact L.o, ⟨_, v1, upd_same, by rw [upd_ne (Ne.symm L.ne.1)]; exact h2, by rw [List.length_set, h3], h4, fun u hu => ?_⟩, L.ne, gd_put L.g hn⟩
  obtain ⟨a, b, g1, g2, g3, g4⟩ := h5 u hu
  have e1 : putM M 0 s (cellD s ns) 1 u = M 1 u := if_neg fun z => absurd z.1 (by decide)
  rw [e1]
  by_cases hus : u = s
  · subst hus
    have e0 : putM M 0 u (cellD u ns) 0 u = cellD u ns := if_pos ⟨rfl, rfl⟩
    rw [e0]
    exact ⟨.ref t, b, by rw [List.getElem?_set_self (by omega)], g2, fz_ext nt e hT _ (gd_fz (.inr ⟨u, ns, rfl, hn⟩)).1 ht, fz_ext nt e hT _ (gd_fz (L.g 1 u)).1 g4⟩
  · have e0 : putM M 0 s (cellD s ns) 0 u = M 0 u := if_neg fun z => hus (by have := z.2; omega)
    rw [e0]
    exact ⟨a, b, by rw [List.getElem?_set_ne (Ne.symm hus)]; exact g1, g2, fz_ext nt e hT _ (gd_fz (L.g 0 u)).1 g3, fz_ext nt e hT _ (gd_fz (L.g 1 u)).1 g4⟩
theorem Lc.wr1 {s : Nat} {t : Addr} {ns : List Int} {v1 : List V} (L : Lc K H Lo l0 l1 m M) (hT : Tabs tb H) (hv : H l1 = some (.lst v1)) (hs : s < m) (hn : ns.length ≤ 100) (ht : Rp K H (.ref t) (cellD s ns)) : Lc K (upd H l1 (.lst (v1.set s (.ref t)))) Lo l0 l1 m (putM M 1 s (cellD s ns)) := by
  obtain ⟨v0, w1, h1, h2, h3, h4, h5⟩ := L.ex
  rw [hv] at h2
  cases h2
  have nt : NTs [l1] H := fun z hz => by
    rw [List.mem_singleton.mp hz]
    exact .inl ⟨_, hv⟩
  have e : Ext tb [l1] H (upd H l1 (.lst (v1.set s (.ref t)))) := Ext.mut (by simp) (ne_tab hT hv fun ps z => by cases z)
  refine ⟨by rw [upd_ne L.ne.2.2]; exact L.o, ⟨v0, _, by rw [upd_ne L.ne.1]; exact h1, upd_same, h3, by rw [List.length_set, h4], fun u hu => ?_⟩, L.ne, gd_put L.g hn⟩
  obtain ⟨a, b, g1, g2, g3, g4⟩ := h5 u hu
  have e1 : putM M 1 s (cellD s ns) 0 u = M 0 u := if_neg fun z => absurd z.1 (by decide)
  rw [e1]
  by_cases hus : u = s
  · subst hus
    have e0 : putM M 1 u (cellD u ns) 1 u = cellD u ns := if_pos ⟨rfl, rfl⟩
    rw [e0]
    exact ⟨a, .ref t, g1, by rw [List.getElem?_set_self (by omega)], fz_ext nt e hT _ (gd_fz (L.g 0 u)).1 g3, fz_ext nt e hT _ (gd_fz (.inr ⟨u, ns, rfl, hn⟩)).1 ht⟩
  · have e0 : putM M 1 s (cellD s ns) 1 u = M 1 u := if_neg fun z => hus (by have := z.2; omega)
    rw [e0]
    exact ⟨a, b, g1, by rw [List.getElem?_set_ne (Ne.symm hus)]; exact g2, fz_ext nt e hT _ (gd_fz (L.g 0 u)).1 g3, fz_ext nt e hT _ (gd_fz (L.g 1 u)).1 g4⟩
end
theorem ixN_nat {n : Nat} {s : Int} (h0 : 0 ≤ s) (h : s < n) : ixN n s = some s.toNat := by
  unfold ixN
  rw [if_pos h0, if_pos h]
def isPut (m : Nat) : Sp1 → Prop
  | none => False
  | some (i, s, ns) => 0 ≤ i ∧ i < 2 ∧ 0 ≤ s ∧ s < m ∧ ns.length ≤ 4
def spPut (K : PySem.W.Frag) (tb : List Addr) : Sp := fun vs H Q _ => ∃ (Lo l0 l1 Pl : Addr) (m : Nat) (M : Int → Int → PyData) (ps : List (V × Sp1)), vs = [.ref Lo, .ref Pl] ∧ Lc K H Lo l0 l1 m M ∧ H Pl = some (.lst (ps.map (·.1))) ∧ Pl ≠ l0 ∧ Pl ≠ l1 ∧ RpAll K H (ps.map (·.1)) ((ps.map (·.2)).map stepD) ∧ (∀ q ∈ ps, isPut m q.2) ∧ Tabs tb H ∧
  ∀ H', Ext tb [l0, l1] H H' → Lc K H' Lo l0 l1 m (stepsM M (ps.map (·.2))) → Q .non H'
theorem ok_l_put {tb : List Addr} (F : FnAt K mg "_law_put" s_l_put ["_law_cells", "_law_puts"] f cd) (C_l_sum : CalE P w K mg base CX0 1 "_law_sum" (spSum K)) : CalE P w K mg base CX0 2 "_law_put" (spPut K tb) := by
  refine F.cal sc_l_put (fun vs H Q E h => ?_) (fun A outer s H vs Q E hr h => ?_)
  · obtain ⟨Lo, l0, l1, Pl, m, M, ps, rfl, _⟩ := h
    rfl
  · obtain ⟨Lo, l0, l1, Pl, m, M, ps, rfl, hL, hP, nP0, nP1, hps, hok, hT, q⟩ := h
    refine ⟨_, (pss_one (ps_for PassesOwn.never rfl (q_piL (K := K) rfl (pv 1)) (RJ.q_pgT (K := K) (n := 4) rfl rfl (pgs_cons (pg_name (i := 2) sc_l_put.nd rfl (.inl rfl)) (pgs_cons (pg_name (i := 3) sc_l_put.nd rfl (.inl rfl)) (pgs_cons (pg_name (i := 4) sc_l_put.nd rfl (.inl rfl)) (pgs_cons (pg_name (i := 5) sc_l_put.nd rfl (.inl rfl)) pgs_nil))))) (pss_one (ps_asg (pe_tup (pa_cons (pe_cal C_l_sum (hr.mono (by first | decide | omega)) (by rfl) (pa_cons (pv 4) (pa_cons (pv 5) pa_nil))) (pa_cons (pv 5) pa_nil))) (pg_sub (pe_ix (q_ixL (K := K) rfl) (pv 0) (pv 3) (fun _ _ => rfl)) (pv 4) set_list))))), ?_⟩
    have nt0 := hL.nts
    refine ⟨_, rfl, Pl, rfl, ⟨_, SqL.of hP⟩, for_list (K := K) (a := Pl) (xs := ps.map (·.1)) (fun i σ H' => ∃ (y2 y3 y4 y5 : Option V), σ = [some (.ref Lo), some (.ref Pl), y2, y3, y4, y5] ∧ Ext tb [l0, l1] H H' ∧ Lc K H' Lo l0 l1 m (stepsM M ((ps.take i).map (·.2)))) ⟨_, _, _, _, rfl, Ext.refl, hL⟩ (fun i σ H' _ h => by
      obtain ⟨_, _, _, _, _, e, _⟩ := h
      exact SqL.of (e.lst hT hP (by simp [nP0, nP1]))) ?_ ?_⟩
    · rintro i v σ H' hv ⟨y2, y3, y4, y5, rfl, e', hL'⟩
      have hT' := e'.tabs hT
      obtain ⟨Dv, hDv, hvD⟩ := RpAll_get hps hv
      rw [List.getElem?_map, List.getElem?_map] at hDv
      rw [List.getElem?_map] at hv
      obtain ⟨pv', hpv, rfl⟩ := Option.map_eq_some_iff.mp hv
      rw [hpv] at hDv
      obtain ⟨v, st⟩ := pv'
      obtain rfl : stepD st = Dv := Option.some.inj hDv
      have tk : (ps.take (i + 1)).map (·.2) = (ps.take i).map (·.2) ++ [st] := by rw [List.take_add_one, hpv, List.map_append] <;> rfl
      have hv' := fz_ext nt0 e' hT _ (fz_step st) hvD
      have hput := hok _ (List.mem_of_getElem? hpv)
      cases st with
      | none => exact absurd hput id
      | some st =>
      obtain ⟨ii, ss, ns⟩ := st
      obtain ⟨c1, c2, c3, c4, c5⟩ := (show 0 ≤ ii ∧ ii < 2 ∧ 0 ≤ ss ∧ ss < m ∧ ns.length ≤ 4 from hput)
      obtain ⟨p, b, rfl, hp, hb⟩ := put_parts hv'
      refine ⟨p, _, rfl, hp, rfl, _, _, rfl, _, _, rfl, _, _, rfl, _, _, rfl, rfl, ?_⟩
      refine ⟨_, rfl, _, rfl, ss, b, ns, rfl, hb, _, rfl, by show 2 ≤ sizeLine; decide, fun t nt => ?_⟩
      have e2 : Ext tb [] H' (upd H' t (.tup [.int (sumN ss ns), .ref b])) := Ext.new hT' nt
      have hT2 := e2.tabs hT'
      have L2' := hL'.ext e2 hT' (fun z hz => by cases hz) (by simp) (by simp) (by simp)
      have ht2 : Rp K (upd H' t (.tup [.int (sumN ss ns), .ref b])) (.ref t) (cellD ss ns) := .tup (SqT.of upd_same) (.cons (.int _) (.cons (.tup (e2.sqT hT' hb (by simp)) (Rp_ints ns)) .nil))
      generalize upd H' t (.tup [.int (sumN ss ns), .ref b]) = H2 at e2 hT2 L2' ht2 ⊢
      obtain ⟨v0, v1, g1, g2, g3, g4, g5⟩ := L2'.ex
      obtain ⟨sn, rfl⟩ : ∃ sn : Nat, ss = (sn : Int) := ⟨ss.toNat, by omega⟩
      have hsn : sn < m := by omega
      have : ii = 0 ∨ ii = 1 := by omega
      rcases this with rfl | rfl
      · refine ⟨_, rfl, _, rfl, Lo, _, _, .ref l0, rfl, rfl, SqL.of L2'.o, atI_nat (j := 0) rfl, _, rfl, l0, v0, _, _, rfl, rfl, g1, ixN_nat c3 (by omega), ?_⟩
        refine ⟨_, _, _, _, rfl, (e'.trans e2.of0).trans (Ext.mut (by simp) (ne_tab hT2 g1 fun ps z => by cases z)), ?_⟩
        rw [tk, stepsM_snoc, Int.toNat_natCast]
        exact L2'.wr0 hT2 g1 hsn (by omega) ht2
      · refine ⟨_, rfl, _, rfl, Lo, _, _, .ref l1, rfl, rfl, SqL.of L2'.o, atI_nat (j := 1) rfl, _, rfl, l1, v1, _, _, rfl, rfl, g2, ixN_nat c3 (by omega), ?_⟩
        refine ⟨_, _, _, _, rfl, (e'.trans e2.of0).trans (Ext.mut (by simp) (ne_tab hT2 g2 fun ps z => by cases z)), ?_⟩
        rw [tk, stepsM_snoc, Int.toNat_natCast]
        exact L2'.wr1 hT2 g2 hsn (by omega) ht2
    · rintro σ H' ⟨y2, y3, y4, y5, rfl, e', hL'⟩
      rw [List.length_map, List.take_length] at hL'
      exact q H' e' hL'

end
end K22

set_option Elab.async false
set_option linter.all false
set_option maxRecDepth 100000
set_option maxHeartbeats 1000000
namespace K22
open PySem PySem.Spec PyProof.Rows L2 HK DT DW
section
variable {P : Program} {w : World} {K : PySem.W.Frag} {mg : Str → Option Value} {base : Heap} {f : Addr} {cd : Value}
/-! ### _law_same of one data: True -/
mutual
def nb : PyData → Bool
  | .none => true
  | .bool _ => false
  | .int _ => true
  | .str _ => true
  | .list ds => nbAll ds
  | .tuple ds => nbAll ds
  | .dict _ => false
def nbAll : List PyData → Bool
  | [] => true
  | d :: ds => nb d && nbAll ds
end
theorem nb_get : ∀ {ds : List PyData} {i : Nat} {d : PyData}, nbAll ds = true → ds[i]? = some d → nb d = true
  | [], _, _, _, e => by simp at e
  | x :: r, 0, d, h, e => by
    simp at e
    subst e
    exact (Bool.and_eq_true_iff.mp (show (nb x && nbAll r) = true from h)).1
  | x :: r, i + 1, d, h, e => nb_get (ds := r) (i := i) (Bool.and_eq_true_iff.mp (show (nb x && nbAll r) = true from h)).2 (by simpa using e)
theorem dep_get : ∀ {ds : List PyData} {i : Nat} {d : PyData}, ds[i]? = some d → PyData.depth d ≤ PyData.depthAll ds
  | [], _, _, e => by simp at e
  | x :: r, 0, d, e => by
    simp at e
    subst e
    exact Nat.le_max_left _ _
  | x :: r, i + 1, d, e => Nat.le_trans (dep_get (ds := r) (i := i) (by simpa using e)) (Nat.le_max_right _ _)
def spSame (K : PySem.W.Frag) (tb : List Addr) (n : Nat) : Sp := fun vs H Q _ => ∃ (v u : V) (d : PyData), vs = [v, u] ∧ Dp K H v d ∧ Dp K H u d ∧ nb d = true ∧ PyData.depth d ≤ n ∧ Tabs tb H ∧ ∀ H', Ext tb [] H H' → Q (.bl true) H'
def spAllSame (K : PySem.W.Frag) (tb : List Addr) (n : Nat) : Sp := fun vs H Q _ => ∃ (a b : Addr) (xs ys : List V) (ds : List PyData), vs = [.ref a, .ref b] ∧ SqL K H a xs ∧ SqL K H b ys ∧ DpAll K H xs ds ∧ DpAll K H ys ds ∧ nbAll ds = true ∧ PyData.depthAll ds ≤ n ∧ Tabs tb H ∧ ∀ H', Ext tb [] H H' → Q (.bl true) H'
def spNever : Sp := fun _ _ _ _ => False
def spAllO (K : PySem.W.Frag) (tb : List Addr) : Nat → Sp
  | 0 => spNever
  | n + 1 => spAllSame K tb n
theorem ok_l_same {n : Nat} {tb : List Addr} (T : Txt K mg) (F : FnAt K mg "_law_same" s_l_same ["_law_found", "_law_due"] f cd) (C_l_all_same : CalE P w K mg base CX0 (2*n+1) "_law_all_same" (spAllO K tb n)) : CalE P w K mg base CX0 (2*n+1+1) "_law_same" (spSame K tb n) := by
  refine F.cal sc_l_same (fun vs H Q E h => ?_) (fun A outer s H vs Q E hr h => ?_)
  · obtain ⟨v, u, d, rfl, _⟩ := h
    rfl
  · obtain ⟨v, u, d, rfl, hv, hu, hn, hd, hT, q⟩ := h
    refine ⟨_, (pss_cons (ps_if (pt_val (pe_callB (q_isi (K := K) rfl) (by rfl) T.b_isinstance (by decide +kernel) (pa_cons (pv 1) (pa_cons (pe_bltn (v := .ty "tuple") (by rfl) T.b_tuple (by decide +kernel) rfl) pa_nil)))) (pss_cons (ps_if (PW.pt (pw_or (pt_not (pt_val (pe_callB (q_isi (K := K) rfl) (by rfl) T.b_isinstance (by decide +kernel) (pa_cons (pv 0) (pa_cons (pe_bltn (v := .ty "tuple") (by rfl) T.b_tuple (by decide +kernel) rfl) pa_nil))))) (pw_or1 (pt_cmpR op_ne (pe_callB (q_len (K := K) rfl) (by rfl) T.b_len PySem.boot_len (pa_cons (pv 0) pa_nil)) (pe_callB (q_len (K := K) rfl) (by rfl) T.b_len PySem.boot_len (pa_cons (pv 1) pa_nil)) (nomark _))))) (pss_one (ps_ret pe_bl)) pss_nil)
      (pss_one (ps_ret (pe_cal C_l_all_same (hr.mono (by first | decide | omega)) (by rfl) (pa_cons (pe_callTy (q_lst (K := K) rfl) (by rfl) T.b_list (by decide +kernel) (pa_cons (pv 0) pa_nil)) (pa_cons (pe_callTy (q_lst (K := K) rfl) (by rfl) T.b_list (by decide +kernel) (pa_cons (pv 1) pa_nil)) pa_nil)))))) pss_nil)
      (pss_cons (ps_if (pt_val (pe_callB (q_isi (K := K) rfl) (by rfl) T.b_isinstance (by decide +kernel) (pa_cons (pv 1) (pa_cons (pe_bltn (v := .ty "list") (by rfl) T.b_list (by decide +kernel) rfl) pa_nil)))) (pss_one (ps_ret (pe_and (pe_callB (q_isi (K := K) rfl) (by rfl) T.b_isinstance (by decide +kernel) (pa_cons (pv 0) (pa_cons (pe_bltn (v := .ty "list") (by rfl) T.b_list (by decide +kernel) rfl) pa_nil))) (pe_and (pe_cmpR op_eq (pe_callB (q_len (K := K) rfl) (by rfl) T.b_len PySem.boot_len (pa_cons (pv 0) pa_nil)) (pe_callB (q_len (K := K) rfl) (by rfl) T.b_len PySem.boot_len (pa_cons (pv 1) pa_nil)) (nomark _)) (pe_one (pe_cal C_l_all_same (hr.mono (by first | decide | omega)) (by rfl) (pa_cons (pv 0) (pa_cons (pv 1) pa_nil)))))))) pss_nil)
      (pss_cons (ps_if (pt_val (pe_callB (q_isi (K := K) rfl) (by rfl) T.b_isinstance (by decide +kernel) (pa_cons (pv 1) (pa_cons (pe_bltn (v := .ty "str") (by rfl) T.b_str (by decide +kernel) rfl) pa_nil)))) (pss_one (ps_ret (pe_and (pe_callB (q_isi (K := K) rfl) (by rfl) T.b_isinstance (by decide +kernel) (pa_cons (pv 0) (pa_cons (pe_bltn (v := .ty "str") (by rfl) T.b_str (by decide +kernel) rfl) pa_nil))) (pe_one (pe_cmpR op_eq (pv 0) (pv 1) (nomark _)))))) pss_nil)
      (pss_cons (ps_if (pt_cmpR op_isN (pv 1) pe_non (nomark _)) (pss_one (ps_ret (pe_cmpR op_isN (pv 0) pe_non (nomark _)))) pss_nil)
      (pss_one (ps_ret (pe_and (pe_callB (q_isi (K := K) rfl) (by rfl) T.b_isinstance (by decide +kernel) (pa_cons (pv 0) (pa_cons (pe_bltn (v := .ty "int") (by rfl) T.b_int (by decide +kernel) rfl) pa_nil))) (pe_and (pe_not (pe_callB (q_isi (K := K) rfl) (by rfl) T.b_isinstance (by decide +kernel) (pa_cons (pv 0) (pa_cons (pe_bltn (v := .ty "bool") (by rfl) T.b_bool (by decide +kernel) rfl) pa_nil)))) (pe_one (pe_cmpR op_eq (pv 0) (pv 1) (nomark _))))))))))), ?_⟩
    have tv := Dp_ty hv
    have tu := Dp_ty hu
    refine ⟨_, rfl, _, _, .type (tyN d), _, _, rfl, .ty _, tu, kit_ty (kit_tup d), _, rfl, ?_⟩
    cases d with
    | tuple ds =>
      cases n with
      | zero => exact absurd hd (Nat.not_succ_le_zero _)
      | succ n =>
        cases hv with
        | @tup a xs _ ha hxs =>
        cases hu with
        | @tup b ys _ hb hys =>
        refine iteT ?_
        refine ⟨_, rfl, _, _, .type "tuple", _, true, rfl, .ty _, tv, kit_ty (by decide +kernel), true, rfl, iteF ?_⟩
        have hl : xs.length = ys.length := (DpAll_len hxs).trans (DpAll_len hys).symm
        refine ⟨_, rfl, _, _, rfl, .inr ⟨_, ha, rfl⟩, _, rfl, _, _, rfl, .inr ⟨_, hb, rfl⟩, rfl, _, rfl, iteNS (by rw [hl]) ?_⟩
        refine ⟨_, rfl, a, xs, rfl, .inr ha, fun l1 n1 => ?_⟩
        have e1 : Ext tb [] H (upd H l1 (.lst xs)) := Ext.new hT n1
        have hT1 := e1.tabs hT
        refine ⟨_, rfl, b, ys, rfl, .inr (e1.sqT hT hb (by simp)), fun l2 n2 => ?_⟩
        have e2 : Ext tb [] (upd H l1 (.lst xs)) (upd (upd H l1 (.lst xs)) l2 (.lst ys)) := Ext.new hT1 n2
        exact ⟨l1, l2, xs, ys, ds, rfl, e2.sqL hT1 (SqL.of upd_same) (by simp), SqL.of upd_same, DpAll_ext (e1.trans e2) hT ds hxs, DpAll_ext (e1.trans e2) hT ds hys, hn, Nat.le_of_succ_le_succ hd, (e1.trans e2).tabs hT, fun H' e' => q H' ((e1.trans e2).trans e')⟩
    | list ds =>
      cases n with
      | zero => exact absurd hd (Nat.not_succ_le_zero _)
      | succ n =>
        cases hv with
        | @lst a xs _ ha hxs =>
        cases hu with
        | @lst b ys _ hb hys =>
        refine iteF ?_
        refine ⟨_, rfl, _, _, .type "list", _, true, rfl, .ty _, tu, kit_ty (by decide +kernel), _, rfl, iteT ?_⟩
        refine ⟨_, rfl, _, _, .type "list", _, true, rfl, .ty _, tv, kit_ty (by decide +kernel), true, rfl, iteT ?_⟩
        have hl : xs.length = ys.length := (DpAll_len hxs).trans (DpAll_len hys).symm
        refine ⟨_, rfl, _, _, rfl, .inl ⟨_, ha, rfl⟩, _, rfl, _, _, rfl, .inl ⟨_, hb, rfl⟩, rfl, _, rfl, ?_⟩
        rw [hl, decide_eq_true rfl]
        refine iteT ?_
        exact ⟨_, rfl, _, rfl, a, b, xs, ys, ds, rfl, ha, hb, hxs, hys, hn, Nat.le_of_succ_le_succ hd, hT, q⟩
    | str z =>
      cases hv
      cases hu
      refine iteF ?_
      refine ⟨_, rfl, _, _, .type "str", _, false, rfl, .ty _, tu, kit_ty (by decide +kernel), _, rfl, iteF ?_⟩
      refine ⟨_, rfl, _, _, .type "str", _, true, rfl, .ty _, tu, kit_ty (by decide +kernel), _, rfl, iteT ?_⟩
      refine ⟨_, rfl, _, _, .type "str", _, true, rfl, .ty _, tv, kit_ty (by decide +kernel), true, rfl, iteT ?_⟩
      refine ⟨_, rfl, _, rfl, rfl, ?_⟩
      rw [decide_eq_true rfl]
      exact q H Ext.refl
    | none =>
      cases hv
      cases hu
      refine iteF ?_
      refine ⟨_, rfl, _, _, .type "NoneType", _, false, rfl, .ty _, tu, kit_ty (by decide +kernel), _, rfl, iteF ?_⟩
      refine ⟨_, rfl, _, _, .type "NoneType", _, false, rfl, .ty _, tu, kit_ty (by decide +kernel), _, rfl, iteF ?_⟩
      refine ⟨_, rfl, rfl, _, rfl, iteT ?_⟩
      exact ⟨_, rfl, rfl, q H Ext.refl⟩
    | int i =>
      cases hv
      cases hu
      refine iteF ?_
      refine ⟨_, rfl, _, _, .type "int", _, false, rfl, .ty _, tu, kit_ty (by decide +kernel), _, rfl, iteF ?_⟩
      refine ⟨_, rfl, _, _, .type "int", _, false, rfl, .ty _, tu, kit_ty (by decide +kernel), _, rfl, iteF ?_⟩
      refine ⟨_, rfl, rfl, _, rfl, iteF ?_⟩
      refine ⟨_, rfl, _, _, .type "int", _, true, rfl, .ty _, tv, kit_ty (by decide +kernel), true, rfl, iteT ?_⟩
      refine ⟨_, rfl, _, _, .type "int", _, false, rfl, .ty _, tv, kit_ty (by decide +kernel), false, rfl, true, rfl, iteT ?_⟩
      refine ⟨_, rfl, _, rfl, rfl, ?_⟩
      rw [decide_eq_true rfl]
      exact q H Ext.refl
    | bool b => cases hn
    | dict kvs => cases hn
theorem ok_l_all_same {n : Nat} {tb : List Addr} (T : Txt K mg) (F : FnAt K mg "_law_all_same" s_l_all_same ["_law_found", "_law_due"] f cd) (C_l_same : CalE P w K mg base CX0 (2*n+1+1) "_law_same" (spSame K tb n)) : CalE P w K mg base CX0 (2*n+1+1+1) "_law_all_same" (spAllSame K tb n) := by
  refine F.cal sc_l_all_same (fun vs H Q E h => ?_) (fun A outer s H vs Q E hr h => ?_)
  · obtain ⟨a, b, xs, ys, ds, rfl, _⟩ := h
    rfl
  · obtain ⟨a, b, xs, ys, ds, rfl, ha, hb, hxs, hys, hn, hd, hT, q⟩ := h
    refine ⟨_, (pss_cons (ps_for PassesOwn.never rfl (pi_zip (by rfl) T.b_zip (pa_cons (pv 0) (pa_cons (pv 1) pa_nil))) (RJ.q_pgT (K := K) (n := 2) rfl rfl (pgs_cons (pg_name (i := 2) sc_l_all_same.nd rfl (.inl rfl)) (pgs_cons (pg_name (i := 3) sc_l_all_same.nd rfl (.inl rfl)) pgs_nil))) (pss_one (ps_if (pt_not (pt_val (pe_cal C_l_same (hr.mono (by first | decide | omega)) (by rfl) (pa_cons (pv 2) (pa_cons (pv 3) pa_nil))))) (pss_one (ps_ret pe_bl)) pss_nil)))
      (pss_one (ps_ret pe_bl))), ?_⟩
    have hl : xs.length = ys.length := (DpAll_len hxs).trans (DpAll_len hys).symm
    refine ⟨_, rfl, _, rfl, a, b, xs, ys, rfl, ha, hb, RZ.for_zipL hl (fun i σ H1 => Ext tb [] H H1 ∧ ∃ y2 y3, σ = [some (.ref a), some (.ref b), y2, y3]) ⟨Ext.refl, none, none, rfl⟩ (fun i σ H1 h => ⟨h.1.sqL hT ha (by simp), h.1.sqL hT hb (by simp)⟩) ?_ ?_⟩
    · rintro i x y tt σ H1 hx hy ⟨ex, y2, y3, rfl⟩ nt
      have e1 : Ext tb [] H1 (upd H1 tt (.tup [x, y])) := Ext.new (ex.tabs hT) nt
      have e2 := ex.trans e1
      refine ⟨tt, [x, y], rfl, SqT.of upd_same, rfl, x, [y], rfl, y, [], rfl, rfl, ?_⟩
      obtain ⟨d, hdx, hvx⟩ := DpAll_get hxs hx
      obtain ⟨d', hdy, hvy⟩ := DpAll_get hys hy
      rw [hdx] at hdy
      cases hdy
      refine ⟨_, rfl, _, rfl, x, y, d, rfl, Dp_ext e2 hT d hvx, Dp_ext e2 hT d hvy, nb_get hn hdx, Nat.le_trans (dep_get hdx) hd, e2.tabs hT, fun H' e' => ⟨true, rfl, iteF ?_⟩⟩
      exact ⟨e2.trans e', _, _, rfl⟩
    · rintro σ H1 ⟨ex, y2, y3, rfl⟩
      exact q H1 ex
theorem ok_sames {tb : List Addr} {f2 : Addr} {cd2 : Value} (T : Txt K mg) (F : FnAt K mg "_law_same" s_l_same ["_law_found", "_law_due"] f cd) (F2 : FnAt K mg "_law_all_same" s_l_all_same ["_law_found", "_law_due"] f2 cd2) : ∀ n : Nat, (CalE P w K mg base CX0 (2*n+1+1) "_law_same" (spSame K tb n))
  | 0 => ok_l_same T F (F2.cal sc_l_all_same (fun _ _ _ _ h => (show False from h).elim) (fun _ _ _ _ _ _ _ _ h => (show False from h).elim))
  | n + 1 => ok_l_same T F (ok_l_all_same T F2 (ok_sames T F F2 n))

/-! ### _law_has, _law_filled -/
mutual
theorem fz_dp {H : Hp} : ∀ (d : PyData) {v : V}, fz d = true → Rp K H v d → Dp K H v d
  | .none, _, _, .non => .non
  | .bool b, _, _, .bl _ => .bl b
  | .int i, _, _, .int _ => .int i
  | .str s, _, _, .str _ => .str s
  | .tuple ds, _, f, .tup h a => .tup h (fzAll_dp ds f a)
theorem fzAll_dp {H : Hp} : ∀ (ds : List PyData) {vs : List V}, fzAll ds = true → RpAll K H vs ds → DpAll K H vs ds
  | [], _, _, .nil => .nil
  | d :: ds, _, f, .cons h a => by
    have f := Bool.and_eq_true_iff.mp (show (fz d && fzAll ds) = true from f)
    exact .cons (fz_dp d f.1 h) (fzAll_dp ds f.2 a)
end
theorem nb_ints : ∀ ns : List Int, nbAll (ns.map PyData.int) = true
  | [] => rfl
  | n :: r => by
    show (true && nbAll (r.map PyData.int)) = true
    rw [nb_ints r] <;> rfl
theorem gd_nb {D : PyData} (h : gd D) : nb D = true := by
  rcases h with rfl | ⟨s, ns, rfl, _⟩
  · rfl
  · show (true && (nbAll (ns.map PyData.int) && true)) = true
    rw [nb_ints] <;> rfl
theorem shrinkE {tb S S' : List Addr} {H H' : Hp} (h : Ext tb S H H') (w : ∀ z ∈ S, z ∈ S' ∨ H z = none) : Ext tb S' H H' :=
  ⟨fun b o h1 h2 e => h.keep b o h1 (fun z => by
    rcases w b z with q | q
    · exact h2 q
    · rw [q] at e
      cases e) e, h.tabs⟩
def spHas (K : PySem.W.Frag) (C : Addr) (tb : List Addr) : Sp := fun vs H Q _ => ∃ (x dx c Lo l0 l1 : Addr) (n : Int) (m L : Nat) (M : Int → Int → PyData), vs = [.ref x, .ref Lo] ∧ Dk K C H x dx c n M L ∧ Lc K H Lo l0 l1 m M ∧ m ≤ 1000 ∧ Tabs tb H ∧ ∀ H', Ext tb [] H H' → Q (.bl true) H'
theorem ok_l_has {tb : List Addr} {C fW fC : Addr} {fdW fdC : FuncData} (T : Txt K mg) (D : DiskM P w K mg base tb C fW fC fdW fdC) (F : FnAt K mg "_law_has" s_l_has ["_law_disk", "_law_cells"] f cd) (C_l_same : CalE P w K mg base CX0 10 "_law_same" (spSame K tb 4)) : CalE P w K mg base CX0 11 "_law_has" (spHas K C tb) := by
  refine F.cal sc_l_has (fun vs H Q E h => ?_) (fun A outer s H vs Q E hr h => ?_)
  · obtain ⟨x, dx, c, Lo, l0, l1, n, m, L, M, rfl, _⟩ := h
    rfl
  · obtain ⟨x, dx, c, Lo, l0, l1, n, m, L, M, rfl, hD, hL, hm, hT, q⟩ := h
    refine ⟨_, (pss_cons (ps_for PassesOwn.never rfl (pi_range1 (by rfl) T.b_range (pa_cons pe_int pa_nil)) (pg_name (i := 2) sc_l_has.nd rfl (.inl rfl)) (pss_one (ps_for PassesOwn.never rfl (pi_range1 (by rfl) T.b_range (pa_cons (pe_callB (q_len (K := K) rfl) (by rfl) T.b_len PySem.boot_len (pa_cons (pe_ix (q_ixL (K := K) rfl) (pv 1) pe_int (fun _ _ => rfl)) pa_nil)) pa_nil)) (pg_name (i := 3) sc_l_has.nd rfl (.inl rfl)) (pss_one (ps_if (pt_not (pt_val (pe_cal C_l_same (hr.mono (by first | decide | omega)) (by rfl) (pa_cons (pe_meth (pv 0) D.cl D.m_cell D.ok_cell (hr.mono (by first | decide | omega)) D.b_cell .nil pass0 (pa_cons (pv 2) (pa_cons (pv 3) pa_nil))) (pa_cons (pe_ix (q_ixL (K := K) rfl) (pe_ix (q_ixL (K := K) rfl) (pv 1) (pv 2) (fun _ _ => rfl)) (pv 3) (fun _ _ => rfl)) pa_nil))))) (pss_one (ps_ret pe_bl)) pss_nil)))))
      (pss_one (ps_ret pe_bl))), ?_⟩
    have no : NTs [] H := fun z hz => by cases hz
    refine ⟨_, rfl, by decide, by decide, for_range (lo := 0) (n := (2 : Int).toNat) (fun i σ H2 => ∃ (y2 y3 : Option V), σ = [some (.ref x), some (.ref Lo), y2, y3] ∧ Ext tb [] H H2) ⟨_, _, rfl, Ext.refl⟩ ?_ ?_⟩
    · rintro i σ H2 hi ⟨y2, y3, rfl, e2⟩
      have hi : i < 2 := hi
      have L2' := hL.ext e2 hT no (by simp) (by simp) (by simp)
      obtain ⟨v0, v1, g1, g2, g3, g4, g5⟩ := L2'.ex
      refine ⟨_, rfl, Lo, _, _, .ref l0, rfl, rfl, SqL.of L2'.o, atI_nat (j := 0) rfl, _, _, rfl, .inl ⟨_, SqL.of g1, rfl⟩, ?_⟩
      rw [g3]
      refine ⟨_, rfl, by omega, by omega, for_range (lo := 0) (n := ((m : Nat) : Int).toNat) (fun j σ H3 => ∃ (y3 : Option V), σ = [some (.ref x), some (.ref Lo), some (.int (0 + (i : Int))), y3] ∧ Ext tb [] H H3) ⟨_, rfl, e2⟩ ?_ ?_⟩
      · rintro j σ H3 hj ⟨y3, rfl, e3⟩
        have hj : j < m := by omega
        have hT3 := e3.tabs hT
        have D3 := hD.ext e3 hT no (by simp)
        have L3 := hL.ext e3 hT no (by simp) (by simp) (by simp)
        obtain ⟨kvs, k1, k2, k3⟩ := D3.ex
        have gM := gd_fz (D3.g (0 + (i : Int)) (0 + (j : Int)))
        refine ⟨_, rfl, x, dx, _, rfl, D3.ins, no_cell _ _, _, rfl, _, rfl, x, dx, c, n, _, _, kvs, M (0 + (i : Int)) (0 + (j : Int)), rfl, D3.ins, k1, k3 _ _, gM.1, gM.2.1, gM.2.2, hT3, fun v' H4 e4 r4 => ?_⟩
        have hT4 := e4.tabs hT3
        have L4 := L3.ext e4 hT3 (fun z hz => by cases hz) (by simp) (by simp) (by simp)
        obtain ⟨w0, w1, q1, q2, q3, q4, q5⟩ := L4.ex
        obtain ⟨a, b, p1, p2, p3, p4⟩ := q5 j hj
        have fin : ∀ H5, Ext tb [] H4 H5 → ∃ y3 : Option V, [some (.ref x), some (.ref Lo), some (.int (0 + (i : Int))), some (.int (0 + (j : Int)))] = [some (.ref x), some (.ref Lo), some (.int (0 + (i : Int))), y3] ∧ Ext tb [] H H5 := fun H5 e5 => ⟨_, rfl, (e3.trans e4).trans e5⟩
        have : i = 0 ∨ i = 1 := by omega
        rcases this with rfl | rfl
        · refine ⟨_, rfl, _, rfl, Lo, _, _, .ref l0, rfl, rfl, SqL.of L4.o, atI_nat (j := 0) rfl, _, rfl, l0, w0, _, a, rfl, rfl, SqL.of q1, at_of (j := j) (by omega) p1, ?_⟩
          rw [show (0 + ((0 : Nat) : Int)) = 0 from rfl, Int.zero_add] at r4 gM
          exact ⟨_, _, M 0 j, rfl, fz_dp _ gM.1 r4, fz_dp _ gM.1 p3, gd_nb (L4.g 0 j), by omega, hT4, fun H5 e5 => ⟨true, rfl, iteF (fin H5 e5)⟩⟩
        · refine ⟨_, rfl, _, rfl, Lo, _, _, .ref l1, rfl, rfl, SqL.of L4.o, atI_nat (j := 1) rfl, _, rfl, l1, w1, _, b, rfl, rfl, SqL.of q2, at_of (j := j) (by omega) p2, ?_⟩
          rw [show (0 + ((1 : Nat) : Int)) = 1 from rfl, Int.zero_add] at r4 gM
          exact ⟨_, _, M 1 j, rfl, fz_dp _ gM.1 r4, fz_dp _ gM.1 p4, gd_nb (L4.g 1 j), by omega, hT4, fun H5 e5 => ⟨true, rfl, iteF (fin H5 e5)⟩⟩
      · rintro σ H3 ⟨y3, rfl, e3⟩
        exact ⟨_, _, rfl, e3⟩
    · rintro σ H2 ⟨y2, y3, rfl, e2⟩
      exact q H2 e2

end
end K22

set_option Elab.async false
set_option linter.all false
set_option maxRecDepth 100000
set_option maxHeartbeats 1000000
namespace K22
open PySem PySem.Spec PyProof.Rows L2 HK DT DW
section
variable {P : Program} {w : World} {K : PySem.W.Frag} {mg : Str → Option Value} {base : Heap} {f : Addr} {cd : Value}
/-! ### _law_filled -/
theorem Dk.mono {C x dx c : Addr} {n : Int} {M : Int → Int → PyData} {L L' : Nat} {H : Hp} (D : Dk K C H x dx c n M L) (h : L ≤ L') : Dk K C H x dx c n M L' := by
  obtain ⟨a1, ⟨kvs, b1, b2, b3⟩, a3⟩ := D
  exact ⟨a1, ⟨kvs, b1, Nat.le_trans b2 h, b3⟩, a3⟩
theorem Ext.wide {tb S S' : List Addr} {H H' : Hp} (h : Ext tb S H H') (w : ∀ z ∈ S, z ∈ S') : Ext tb S' H H' := shrinkE h fun z hz => .inl (w z hz)
def M0 : Int → Int → PyData := fun _ _ => .none
theorem rep_one (k : Nat) : (List.replicate k [V.non]).flatten = List.replicate k V.non := by simp
theorem Lc.new {H : Hp} {Lo l0 l1 : Addr} {k : Nat} (h0 : H Lo = some (.lst [.ref l0, .ref l1])) (h1 : H l0 = some (.lst (List.replicate k [V.non]).flatten)) (h2 : H l1 = some (.lst (List.replicate k [V.non]).flatten)) (ne : l0 ≠ l1 ∧ Lo ≠ l0 ∧ Lo ≠ l1) : Lc K H Lo l0 l1 k M0 := by
  rw [rep_one] at h1 h2
  refine ⟨h0, ⟨_, _, h1, h2, List.length_replicate, List.length_replicate, fun s hs => ⟨.non, .non, ?_, ?_, .non, .non⟩⟩, ne, fun _ _ => .inl rfl⟩
  · rw [List.getElem?_replicate, if_pos hs]
  · rw [List.getElem?_replicate, if_pos hs]
def spFilled (K : PySem.W.Frag) (C : Addr) (tb : List Addr) : Sp := fun vs H Q _ => ∃ (x dx c d : Addr) (ds : List Int) (n : Int), vs = [.ref x, .ref d] ∧ 0 ≤ n ∧ n ≤ 100 ∧ Dk K C H x dx c n M0 0 ∧ H d = some (.lst (ds.map V.int)) ∧ Dr ds ∧ Tabs tb H ∧
  ∀ Lo l0 l1 M es H', Ext tb [c, d] H H' → H Lo = none → H l0 = none → H l1 = none → Dr es → H' d = some (.lst (es.map V.int)) → Dk K C H' x dx c n M 24 → Lc K H' Lo l0 l1 (n + 4).toNat M → Q (.ref Lo) H'
theorem ok_l_filled {tb : List Addr} {C fW fC : Addr} {fdW fdC : FuncData} (T : Txt K mg) (D : DiskM P w K mg base tb C fW fC fdW fdC) (F : FnAt K mg "_law_filled" s_l_filled ["_law_disk", "_law_drawn"] f cd) (C_l_steps : CalE P w K mg base CX0 3 "_law_steps" (spSteps K tb)) (C_l_put : CalE P w K mg base CX0 2 "_law_put" (spPut K tb)) : CalE P w K mg base CX0 4 "_law_filled" (spFilled K C tb) := by
  refine F.cal sc_l_filled (fun vs H Q E h => ?_) (fun A outer s H vs Q E hr h => ?_)
  · obtain ⟨x, dx, c, d, ds, n, rfl, _⟩ := h
    rfl
  · obtain ⟨x, dx, c, d, ds, n, rfl, hn0, hn1, hD, hd, hDr, hT, q⟩ := h
    refine ⟨_, (pss_cons (ps_set (i := 2) sc_l_filled.nd rfl (.inl rfl) (pe_lst (pa_cons (pe_op op_rep (pe_lst (pa_cons pe_non pa_nil)) (pe_op op_add (pe_fld (pv 0) rfl) pe_int)) (pa_cons (pe_op op_rep (pe_lst (pa_cons pe_non pa_nil)) (pe_op op_add (pe_fld (pv 0) rfl) pe_int)) pa_nil))))
      (pss_cons (ps_for PassesOwn.never rfl (q_piL (K := K) rfl (pe_cal C_l_steps (hr.mono (by first | decide | omega)) (by rfl) (pa_cons (pv 1) (pa_cons (pe_op op_add (pe_fld (pv 0) rfl) pe_int) pa_nil)))) (pg_name (i := 3) sc_l_filled.nd rfl (.inl rfl)) (pss_one (ps_if (pt_cmpR (q_neD (K := K) rfl hr.units) (pv 3) (pe_tup (pa_cons pe_str pa_nil)) (nomark _)) (pss_cons (ps_expr (pe_meth (pv 0) D.cl D.m_write D.ok_write (hr.mono (by first | decide | omega)) D.b_write .nil pass0 (pa_cons (pe_ix (q_ixT (K := K) rfl) (pv 3) pe_int (fun _ _ => rfl)) (pa_cons (pe_ix (q_ixT (K := K) rfl) (pv 3) pe_int (fun _ _ => rfl)) (pa_cons (pe_ix (q_ixT (K := K) rfl) (pv 3) pe_int (fun _ _ => rfl)) pa_nil)))))
      (pss_one (ps_expr (pe_cal C_l_put (hr.mono (by first | decide | omega)) (by rfl) (pa_cons (pv 2) (pa_cons (pe_lst (pa_cons (pv 3) pa_nil)) pa_nil)))))) pss_nil)))
      (pss_one (ps_ret (pv 2))))), ?_⟩
    obtain ⟨kv0, hc0, _⟩ := hD.ex
    have ndc : d ≠ c := fun z => by rw [z, hc0] at hd; cases hd
    have hx : x ∉ tb := ne_tab hT hD.ins fun ps z => by cases z
    have bl : ([V.non] : List V).length * (n + 4).toNat ≤ sizeLine := by
      have : ([V.non] : List V).length * (n + 4).toNat ≤ 104 := by
        show 1 * (n + 4).toNat ≤ 104
        omega
      exact Nat.le_trans this (by decide)
    refine ⟨by show 1 ≤ sizeLine; decide, fun p1 np1 => ?_⟩
    have e1 : Ext tb [] H (upd H p1 (.lst [V.non])) := Ext.new hT np1
    refine ⟨_, rfl, x, C, dx, _, _, rfl, e1.keep _ _ hx (by simp) hD.ins, D.ce.cl, D.ce.nP, pf_places _ _, _, _, rfl, rfl, p1, n + 4, [V.non], rfl, rfl, upd_same, by omega, by omega, bl, fun l0 nl0 => ?_⟩
    have e2 := e1.trans (Ext.new (o := .lst (List.replicate (n + 4).toNat [V.non]).flatten) (e1.tabs hT) nl0)
    have l00 := e1.free hT nl0 (by simp)
    have h2 : (upd (upd H p1 (.lst [V.non])) l0 (.lst (List.replicate (n + 4).toNat [V.non]).flatten)) l0 = _ := upd_same
    generalize upd (upd H p1 (.lst [V.non])) l0 (.lst (List.replicate (n + 4).toNat [V.non]).flatten) = H2 at e2 h2 ⊢
    refine ⟨by show 1 ≤ sizeLine; decide, fun p2 np2 => ?_⟩
    have e3 : Ext tb [] H2 (upd H2 p2 (.lst [V.non])) := Ext.new (e2.tabs hT) np2
    have e3' := e2.trans e3
    refine ⟨_, rfl, x, C, dx, _, _, rfl, e3'.keep _ _ hx (by simp) hD.ins, D.ce.cl, D.ce.nP, pf_places _ _, _, _, rfl, rfl, p2, n + 4, [V.non], rfl, rfl, upd_same, by omega, by omega, bl, fun l1 nl1 => ?_⟩
    have e4 : Ext tb [] (upd H2 p2 (.lst [V.non])) (upd (upd H2 p2 (.lst [V.non])) l1 (.lst (List.replicate (n + 4).toNat [V.non]).flatten)) := Ext.new (e3'.tabs hT) nl1
    have l10 := e3'.free hT nl1 (by simp)
    have h23 := e3.lst (e2.tabs hT) h2 (by simp)
    have n01 : l0 ≠ l1 := fun z => by rw [z, nl1] at h23; cases h23
    have h24 := e4.lst (e3'.tabs hT) h23 (by simp)
    have h3 : (upd (upd H2 p2 (.lst [V.non])) l1 (.lst (List.replicate (n + 4).toNat [V.non]).flatten)) l1 = _ := upd_same
    have e4' := e3'.trans e4
    generalize upd (upd H2 p2 (.lst [V.non])) l1 (.lst (List.replicate (n + 4).toNat [V.non]).flatten) = H3 at e4' h24 h3 ⊢
    refine ⟨by show 2 ≤ sizeLine; decide, fun Lo nLo => ?_⟩
    have Lo0 := e4'.free hT nLo (by simp)
    have e5 : Ext tb [] H3 (upd H3 Lo (.lst [.ref l0, .ref l1])) := Ext.new (e4'.tabs hT) nLo
    have nL0 : Lo ≠ l0 := fun z => by rw [z, h24] at nLo; cases nLo
    have nL1 : Lo ≠ l1 := fun z => by rw [z, h3] at nLo; cases nLo
    have L5 : Lc K (upd H3 Lo (.lst [.ref l0, .ref l1])) Lo l0 l1 (n + 4).toNat M0 := Lc.new upd_same (e5.lst (e4'.tabs hT) h24 (by simp)) (e5.lst (e4'.tabs hT) h3 (by simp)) ⟨n01, nL0, nL1⟩
    have e5' := e4'.trans e5
    generalize upd H3 Lo (.lst [.ref l0, .ref l1]) = H5 at e5' L5 ⊢
    have hT5 := e5'.tabs hT
    have D5 := hD.ext e5' hT (fun z hz => by cases hz) (by simp)
    have hd5 := e5'.lst hT hd (by simp)
    refine ⟨_, rfl, _, rfl, x, C, dx, _, _, rfl, D5.ins, D.ce.cl, D.ce.nP, pf_places _ _, _, _, rfl, rfl, d, ds, n + 4, rfl, by omega, hd5, hDr, hT5, fun Ls ps es H6 e6 nLs hes hd6 hLs6 hps6 hl6 hok6 => ?_⟩
    have hT6 := e6.tabs hT5
    have fre : ∀ z, H z = none → z ≠ d := fun z h w => by rw [w, hd] at h; cases h
    have nt5 : NTs [d] H5 := fun z hz => by
      rw [List.mem_singleton.mp hz]
      exact .inl ⟨_, hd5⟩
    have D6 := D5.ext e6 hT5 nt5 (by simp [Ne.symm ndc])
    have L6 := L5.ext e6 hT5 nt5 (by simp [fre _ Lo0]) (by simp [fre _ l00]) (by simp [fre _ l10])
    have nt6 : NTs [c, l0, l1] H6 := fun z hz => by
      rcases List.mem_cons.mp hz with rfl | hz
      · exact D6.nt
      · exact L6.nts z hz
    obtain ⟨w0, w1, hw0, hw1, hw0l, hw1l, _⟩ := L6.ex
    have LsN : Ls ∉ [c, l0, l1] := by
      obtain ⟨kv5, hc5, _⟩ := D5.ex
      obtain ⟨u0, u1, hu0, hu1, _⟩ := L5.ex
      have z1 : Ls ≠ c := fun z => by rw [z, hc5] at nLs; cases nLs
      have z2 : Ls ≠ l0 := fun z => by rw [z, hu0] at nLs; cases nLs
      have z3 : Ls ≠ l1 := fun z => by rw [z, hu1] at nLs; cases nLs
      simp [z1, z2, z3]
    refine ⟨Ls, rfl, ⟨_, SqL.of hLs6⟩, for_list (K := K) (a := Ls) (xs := ps.map (·.1)) (fun i σ H' => ∃ (y3 : Option V), σ = [some (.ref x), some (.ref d), some (.ref Lo), y3] ∧ Ext tb [c, l0, l1] H6 H' ∧ Dk K C H' x dx c n (stepsM M0 ((ps.take i).map (·.2))) i ∧ Lc K H' Lo l0 l1 (n + 4).toNat (stepsM M0 ((ps.take i).map (·.2)))) ⟨_, rfl, Ext.refl, D6, L6⟩ (fun i σ H' _ h => by
      obtain ⟨_, _, e, _⟩ := h
      exact SqL.of (e.lst hT6 hLs6 LsN)) ?_ ?_⟩
    · rintro i v σ H' hv ⟨y3, rfl, e', D', L'⟩
      have hT' := e'.tabs hT6
      obtain ⟨Dv, hDv, hvD⟩ := RpAll_get hps6 hv
      rw [List.getElem?_map, List.getElem?_map] at hDv
      rw [List.getElem?_map] at hv
      obtain ⟨pv', hpv, rfl⟩ := Option.map_eq_some_iff.mp hv
      rw [hpv] at hDv
      obtain ⟨v, st⟩ := pv'
      obtain rfl : stepD st = Dv := Option.some.inj hDv
      have hi : i < ps.length := (List.getElem?_eq_some_iff.mp hpv).1
      have tk : (ps.take (i + 1)).map (·.2) = (ps.take i).map (·.2) ++ [st] := by rw [List.take_add_one, hpv, List.map_append] <;> rfl
      have hv' := fz_ext nt6 e' hT6 _ (fz_step st) hvD
      have hokv := hok6 _ (List.mem_of_getElem? hpv)
      refine ⟨_, rfl, by show 1 ≤ sizeLine; decide, fun tl ntl => ?_⟩
      have eD : Ext tb [] H' (upd H' tl (.tup [.str "line"])) := Ext.new hT' ntl
      refine ⟨stepD st, .tuple [.str "line"], step_dp (Rp_ext eD hT' _ hv'), .tup (SqT.of upd_same) (.cons (.str _) .nil), step_sh st, by decide +kernel, _, rfl, ?_⟩
      rw [step_eq st]
      have eD' := e'.trans eD.of0
      have D7 := D'.ext eD hT' (fun z hz => by cases hz) (by simp)
      have L7 := L'.ext eD hT' (fun z hz => by cases hz) (by simp) (by simp) (by simp)
      have hv7 := Rp_ext eD hT' _ hv'
      have hT7 := eD.tabs hT'
      generalize upd H' tl (.tup [.str "line"]) = H7 at eD' D7 L7 hv7 hT7 ⊢
      cases st with
      | none =>
        refine iteF ?_
        refine ⟨_, rfl, eD', ?_, ?_⟩
        · rw [tk, stepsM_snoc]
          exact D7.mono (Nat.le_succ _)
        · rw [tk, stepsM_snoc]
          exact L7
      | some st =>
        obtain ⟨ii, ss, ns⟩ := st
        obtain ⟨c1, c2, c3, c4, c5⟩ := (show 0 ≤ ii ∧ ii < 2 ∧ 0 ≤ ss ∧ ss < n + 4 ∧ ns.length ≤ 4 from hokv)
        obtain ⟨p, b, rfl, hp, hb⟩ := put_parts hv7
        refine iteT ?_
        obtain ⟨kvs, h1, h2, h3⟩ := D7.ex
        refine ⟨_, rfl, x, dx, _, rfl, D7.ins, no_write _ _, _, rfl, p, _, _, _, rfl, rfl, hp, atI_nat (j := 1) rfl, _, rfl, p, _, _, _, rfl, rfl, hp, atI_nat (j := 2) rfl, _, rfl, p, _, _, _, rfl, rfl, hp, atI_nat (j := 3) rfl, x, dx, c, b, n, ii, ss, kvs, ns, rfl, D7.ins, h1, by omega, hb, hT7, fun t H8 e8 h8 g8 => ?_⟩
        have hT8 := e8.tabs hT7
        have D8 := D7.wr hT7 hb (by omega) h1 h2 h3 e8 h8 g8
        have ntc : NTs [c] H7 := fun z hz => by
          rw [List.mem_singleton.mp hz]
          exact D7.nt
        obtain ⟨u0, u1, hu0, hu1, _⟩ := L7.ex
        have L8 := L7.ext e8 hT7 ntc (by have := L7.o; simp; intro z; rw [z, h1] at this; cases this) (by simp; intro z; rw [z, h1] at hu0; cases hu0) (by simp; intro z; rw [z, h1] at hu1; cases hu1)
        have hv8 := fz_ext ntc e8 hT7 _ (fz_step _) hv7
        refine ⟨_, rfl, _, rfl, by show 1 ≤ sizeLine; decide, fun Pl nPl => ?_⟩
        have e9 : Ext tb [] H8 (upd H8 Pl (.lst [.ref p])) := Ext.new hT8 nPl
        have L9 := L8.ext e9 hT8 (fun z hz => by cases hz) (by simp) (by simp) (by simp)
        have D9 := D8.ext e9 hT8 (fun z hz => by cases hz) (by simp)
        have hT9 := e9.tabs hT8
        obtain ⟨z0, z1, hz0, hz1, _⟩ := L8.ex
        refine ⟨Lo, l0, l1, Pl, _, _, [(.ref p, some (ii, ss, ns))], rfl, L9, upd_same, (fun z => by rw [z, hz0] at nPl; cases nPl), (fun z => by rw [z, hz1] at nPl; cases nPl), .cons (Rp_ext e9 hT8 _ hv8) .nil, fun q hq => ?_, hT9, fun H10 e10 L10 => ?_⟩
        · rw [List.mem_singleton.mp hq]
          exact ⟨c1, c2, c3, by omega, c5⟩
        · have ntl : NTs [l0, l1] _ := L9.nts
          obtain ⟨kv9, h9, _⟩ := D9.ex
          obtain ⟨y0, y1, hy0, hy1, _⟩ := L9.ex
          have D10 := D9.ext e10 hT9 ntl (by
            have a1 : c ≠ l0 := fun z => by rw [z, hy0] at h9; cases h9
            have a2 : c ≠ l1 := fun z => by rw [z, hy1] at h9; cases h9
            simp [a1, a2])
          refine ⟨_, rfl, ((eD'.trans (Ext.wide e8 (by simp))).trans e9.of0).trans (Ext.wide e10 (by simp)), ?_, ?_⟩
          · rw [tk, stepsM_snoc]
            exact D10
          · rw [tk, stepsM_snoc]
            exact L10
    · rintro σ H' ⟨y3, rfl, e', D', L'⟩
      rw [List.length_map, List.take_length] at D' L'
      refine ⟨_, rfl, q Lo l0 l1 _ es H' ?_ Lo0 l00 l10 hes (e'.lst hT6 hd6 ?_) (D'.mono hl6) L'⟩
      · refine shrinkE (S := [c, d, l0, l1]) (((e5'.of0).trans (Ext.wide e6 (by simp))).trans (Ext.wide e' (by simp))) fun z hz => ?_
        simp at hz
        rcases hz with rfl | rfl | rfl | rfl
        · exact .inl (by simp)
        · exact .inl (by simp)
        · exact .inr l00
        · exact .inr l10
      · simp [ndc, Ne.symm (fre _ l00), Ne.symm (fre _ l10)]

end
end K22

set_option Elab.async false
set_option linter.all false
set_option maxRecDepth 100000
set_option maxHeartbeats 1000000
namespace K22
open PySem PySem.Spec PyProof.Rows L2 HK DT DW
section
variable {P : Program} {w : World} {K : PySem.W.Frag} {mg : Str → Option Value} {base : Heap} {f : Addr} {cd : Value}
/-! ### groups of pairs, and their data -/
def gP : List (V × Sp1) → List (List (V × Sp1)) × List (V × Sp1) → List (List (V × Sp1)) × List (V × Sp1)
  | [], a => a
  | q :: r, (dn, cu) => gP r (if isLine q.2 = true then (dn ++ [cu], []) else (dn, cu ++ [q]))
def pF (a : List (List (V × Sp1)) × List (V × Sp1)) : List (List V) × List V := (a.1.map (fun g => g.map (·.1)), a.2.map (·.1))
theorem gst_gP : ∀ (l : List (V × Sp1)) (a : List (List (V × Sp1)) × List (V × Sp1)), gst l (pF a) = pF (gP l a)
  | [], _ => rfl
  | (v, st) :: r, (dn, cu) => by
    show gst r (if isLine st = true then (dn.map (fun g => g.map (·.1)) ++ [cu.map (·.1)], []) else (dn.map (fun g => g.map (·.1)), cu.map (·.1) ++ [v])) = pF (gP r (if isLine st = true then (dn ++ [cu], []) else (dn, cu ++ [(v, st)])))
    rw [← gst_gP r]
    congr 1
    by_cases h : isLine st = true
    · rw [if_pos h, if_pos h]
      simp [pF]
    · rw [if_neg h, if_neg h]
      simp [pF]
def nl (q : V × Sp1) : Bool := !isLine q.2
theorem gP_flat : ∀ (l : List (V × Sp1)) (a : List (List (V × Sp1)) × List (V × Sp1)), (gP l a).1.flatten ++ (gP l a).2 = a.1.flatten ++ a.2 ++ l.filter nl
  | [], a => by simp [gP]
  | (v, st) :: r, (dn, cu) => by
    show (gP r (if isLine st = true then (dn ++ [cu], []) else (dn, cu ++ [(v, st)]))).1.flatten ++ (gP r (if isLine st = true then (dn ++ [cu], []) else (dn, cu ++ [(v, st)]))).2 = _
    rw [gP_flat r]
    by_cases h : isLine st = true
    · rw [if_pos h]
      simp [nl, h]
    · rw [if_neg h]
      simp [nl, h]
theorem gP_len : ∀ (l : List (V × Sp1)) (a : List (List (V × Sp1)) × List (V × Sp1)), (gP l a).1.length ≤ a.1.length + l.length
  | [], a => by simp [gP]
  | (v, st) :: r, (dn, cu) => by
    show (gP r (if isLine st = true then (dn ++ [cu], []) else (dn, cu ++ [(v, st)]))).1.length ≤ _
    have := gP_len r (if isLine st = true then (dn ++ [cu], []) else (dn, cu ++ [(v, st)]))
    by_cases h : isLine st = true
    · rw [if_pos h] at this ⊢
      simp at this ⊢
      omega
    · rw [if_neg h] at this ⊢
      simp at this ⊢
      omega
def G0 (ps : List (V × Sp1)) : List (List (V × Sp1)) := (gP ps ([], [])).1 ++ [(gP ps ([], [])).2]
theorem G0_flat (ps : List (V × Sp1)) : (G0 ps).flatten = ps.filter nl := by
  have := gP_flat ps ([], [])
  unfold G0
  simp at this ⊢
  exact this
theorem G0_len (ps : List (V × Sp1)) : 1 ≤ (G0 ps).length ∧ (G0 ps).length ≤ ps.length + 1 := by
  have := gP_len ps ([], [])
  unfold G0
  simp at this ⊢
  omega
theorem G0_mem {ps gr : List (V × Sp1)} {q : V × Sp1} (h : gr ∈ G0 ps) (hq : q ∈ gr) : q ∈ ps ∧ isLine q.2 = false := by
  have : q ∈ ps.filter nl := by
    rw [← G0_flat]
    exact List.mem_flatten.mpr ⟨gr, h, hq⟩
  have := List.mem_filter.mp this
  exact ⟨this.1, by have := this.2; simpa [nl] using this⟩
theorem G0_gr {ps gr : List (V × Sp1)} (h : gr ∈ G0 ps) : gr.length ≤ ps.length := by
  have h1 : gr.length ≤ (G0 ps).flatten.length := (List.sublist_flatten_of_mem h).length_le
  rw [G0_flat] at h1
  exact Nat.le_trans h1 (List.length_filter_le ..)
theorem stepsM_filter : ∀ (ps : List (V × Sp1)) (M : Int → Int → PyData), stepsM M ((ps.filter nl).map (·.2)) = stepsM M (ps.map (·.2))
  | [], _ => rfl
  | (v, none) :: r, M => stepsM_filter r M
  | (v, some st) :: r, M => stepsM_filter r (stepM M (some st))
theorem Grp.full {tb : List Addr} {H0 H : Hp} {g : Addr} {ps : List (V × Sp1)} (G : Grp tb H0 H g (gst ps ([], []))) : ∃ LS : List Addr, H g = some (.lst (LS.map V.ref)) ∧ LS.length = (G0 ps).length ∧ (∀ (i : Nat) (l : Addr) (gr : List (V × Sp1)), LS[i]? = some l → (G0 ps)[i]? = some gr → H l = some (.lst (gr.map (·.1)))) ∧ (∀ l ∈ LS, H0 l = none) ∧ g ∉ LS := by
  obtain ⟨ls, lc, h1, h2, h3, h4, h5, h6, h7, h8, h9⟩ := G.ex
  have eg : gst ps ([], []) = pF (gP ps ([], [])) := gst_gP ps ([], [])
  rw [eg] at h2 h3 h4
  have h2' : ls.length = (gP ps ([], [])).1.length := by rw [h2]; simp [pF]
  refine ⟨ls ++ [lc], h1, by simp [G0, h2'], ?_, ?_, ?_⟩
  · intro i l gr hl hg
    unfold G0 at hg
    by_cases hi : i < ls.length
    · rw [List.getElem?_append_left hi] at hl
      rw [List.getElem?_append_left (by omega)] at hg
      exact h3 i l (gr.map (·.1)) hl (by show ((gP ps ([], [])).1.map (fun g => g.map (·.1)))[i]? = _; rw [List.getElem?_map, hg] <;> rfl)
    · rw [List.getElem?_append_right (by omega)] at hl
      rw [List.getElem?_append_right (by omega)] at hg
      have hi0 : i - ls.length = 0 := by
        have := (List.getElem?_eq_some_iff.mp hl).1
        rw [List.length_singleton] at this
        omega
      rw [hi0] at hl
      rw [← h2', hi0] at hg
      cases hl
      cases hg
      exact h4
  · intro l hl
    rcases List.mem_append.mp hl with z | z
    · exact h8 l z
    · rw [List.mem_singleton.mp z]
      exact h9
  · intro hl
    rcases List.mem_append.mp hl with z | z
    · exact h6 z
    · exact h7 (List.mem_singleton.mp z)
theorem canAll_of {α : Type} {g : α → PyData} : ∀ {l : List α}, (∀ q ∈ l, PyData.canLay0 (g q) = true) → PyData.canLayAll0 (l.map g) = true
  | [], _ => rfl
  | q :: r, h => by
    show (PyData.canLay0 (g q) && PyData.canLayAll0 (r.map g)) = true
    rw [h q (List.mem_cons_self ..), canAll_of fun z hz => h z (List.mem_cons_of_mem _ hz)] <;> rfl
theorem depAll_of {α : Type} {g : α → PyData} {n : Nat} : ∀ {l : List α}, (∀ q ∈ l, PyData.depth (g q) ≤ n) → PyData.depthAll (l.map g) ≤ n
  | [], _ => Nat.zero_le _
  | q :: r, h => Nat.max_le.mpr ⟨h q (List.mem_cons_self ..), depAll_of fun z hz => h z (List.mem_cons_of_mem _ hz)⟩
theorem nbAll_of {α : Type} {g : α → PyData} : ∀ {l : List α}, (∀ q ∈ l, nb (g q) = true) → nbAll (l.map g) = true
  | [], _ => rfl
  | q :: r, h => by
    show (nb (g q) && nbAll (r.map g)) = true
    rw [h q (List.mem_cons_self ..), nbAll_of fun z hz => h z (List.mem_cons_of_mem _ hz)] <;> rfl
theorem dpAll_pw {H : Hp} : ∀ {vs : List V} {ds : List PyData}, vs.length = ds.length → (∀ (i : Nat) v d, vs[i]? = some v → ds[i]? = some d → Dp K H v d) → DpAll K H vs ds
  | [], [], _, _ => .nil
  | v :: vs, d :: ds, h, g => .cons (g 0 v d rfl rfl) (dpAll_pw (by simpa using h) fun i v d h1 h2 => g (i + 1) v d (by simpa using h1) (by simpa using h2))
theorem step_nb : ∀ st : Sp1, nb (stepD st) = true
  | none => rfl
  | some (i, s, ns) => by
    show (true && (true && (true && (nbAll (ns.map PyData.int) && true)))) = true
    rw [nb_ints] <;> rfl
def grD (gr : List (V × Sp1)) : PyData := .list (gr.map fun q => stepD q.2)
theorem grD_nb (gr : List (V × Sp1)) : nb (grD gr) = true := nbAll_of (g := fun q : V × Sp1 => stepD q.2) fun q _ => step_nb q.2
theorem grD_dep (gr : List (V × Sp1)) : PyData.depth (grD gr) ≤ 3 := Nat.succ_le_succ (depAll_of (g := fun q : V × Sp1 => stepD q.2) fun q _ => (step_can q.2).2)
theorem grD_can (gr : List (V × Sp1)) : PyData.canLay0 (grD gr) = true := canAll_of (g := fun q : V × Sp1 => stepD q.2) fun q _ => (step_can q.2).1
theorem grD_sh (gr : List (V × Sp1)) : SeqAt.shaped (grD gr) = true := by
  unfold SeqAt.shaped
  rw [grD_can, decide_eq_true (show PyData.depth (grD gr) ≤ 64 by have := grD_dep gr; omega)] <;> rfl
theorem grD_eq (gr : List (V × Sp1)) : PyData.eqv (grD gr) (grD gr) = true := SeqAt.eqv_refl _ (grD_can gr)
def gsD (gs : List (List (V × Sp1))) : PyData := .list (gs.map grD)
theorem gsD_nb (gs : List (List (V × Sp1))) : nb (gsD gs) = true := nbAll_of (g := grD) fun q _ => grD_nb q
theorem gsD_dep (gs : List (List (V × Sp1))) : PyData.depth (gsD gs) ≤ 4 := Nat.succ_le_succ (depAll_of (g := grD) fun q _ => grD_dep q)
theorem dp_gr {H : Hp} {l : Addr} {gr : List (V × Sp1)} (h : H l = some (.lst (gr.map (·.1)))) (hq : ∀ q ∈ gr, Rp K H q.1 (stepD q.2)) : Dp K H (.ref l) (grD gr) := by
  refine .lst (SqL.of h) (dpAll_pw (by simp) fun i v d h1 h2 => ?_)
  rw [List.getElem?_map] at h1 h2
  obtain ⟨q, g1, rfl⟩ := Option.map_eq_some_iff.mp h1
  rw [g1] at h2
  obtain rfl : stepD q.2 = d := Option.some.inj h2
  exact step_dp (hq q (List.mem_of_getElem? g1))
theorem Grp.dp {tb : List Addr} {H0 H : Hp} {g : Addr} {ps : List (V × Sp1)} (G : Grp tb H0 H g (gst ps ([], []))) (hq : ∀ q ∈ ps, Rp K H q.1 (stepD q.2)) : Dp K H (.ref g) (gsD (G0 ps)) := by
  obtain ⟨LS, h1, h2, h3, _⟩ := G.full
  refine .lst (SqL.of h1) (dpAll_pw (by simp [h2]) fun i v d g1 g2 => ?_)
  rw [List.getElem?_map] at g1 g2
  obtain ⟨l, k1, rfl⟩ := Option.map_eq_some_iff.mp g1
  obtain ⟨gr, k2, rfl⟩ := Option.map_eq_some_iff.mp g2
  exact dp_gr (h3 i l gr k1 k2) fun q hq' => hq q (G0_mem (List.mem_of_getElem? k2) hq').1
theorem rp_mem {H : Hp} : ∀ {ps : List (V × Sp1)}, RpAll K H (ps.map (·.1)) ((ps.map (·.2)).map stepD) → ∀ q ∈ ps, Rp K H q.1 (stepD q.2)
  | [], _, q, hq => by cases hq
  | p :: r, .cons h t, q, hq => by
    rcases List.mem_cons.mp hq with rfl | hq
    · exact h
    · exact rp_mem t q hq
theorem rp_all {H : Hp} : ∀ {ps : List (V × Sp1)}, (∀ q ∈ ps, Rp K H q.1 (stepD q.2)) → RpAll K H (ps.map (·.1)) ((ps.map (·.2)).map stepD)
  | [], _ => .nil
  | p :: r, h => .cons (h p (List.mem_cons_self ..)) (rp_all fun q hq => h q (List.mem_cons_of_mem _ hq))

end
end K22

set_option Elab.async false
set_option linter.all false
set_option maxRecDepth 100000
set_option maxHeartbeats 1000000
namespace K22
open PySem PySem.Spec PyProof.Rows L2 HK DT DW
section
variable {P : Program} {w : World} {K : PySem.W.Frag} {mg : Str → Option Value} {base : Heap} {f : Addr} {cd : Value}
/-! ### Disk.twin -/
theorem dcT_keys {d : Addr} {o : Obj} {kvs : List (List Key × V)} {g : TG} {tk tv : TE} {vs : List Nat} {σ : L2.St} {H1 : Hp} {D : Addr} {Qd : Hp → Prop} (Pv : Nat → Hp → Prop) (h0 : Pv 0 (upd H1 D (.dT []))) (hl : ∀ i H, Pv i H → H d = some (.frz o (.dT kvs)))
    (hs : ∀ i k v q H, kvs[i]? = some (k, v) → Pv i H → H q = some (.tup (k.map kV)) → g (.ref q) (wipe σ vs) H fun σ2 H2 => wipe σ2 vs = wipe σ vs ∧ tk σ2 H2 fun y H4 => tv σ2 H4 fun z H5 => ∃ H6, DC.putT H5 D y z H6 ∧ Pv (i + 1) H6)
    (hd : ∀ H, Pv kvs.length H → Qd H) :
    ∃ W : Nat → Nat → Hp → Prop, (∃ m, W 0 m (upd H1 D (.dT []))) ∧ ∀ i m H, W i m H → ((Itkt d o kvs).stop i H ∧ Qd H) ∨
      ((Itkt d o kvs).go i H ∧ ∃ Nx : Hp → Prop, (∀ H', Nx H' → ∃ m', m' < m ∧ W (i + 1) m' H') ∧ ∀ x H', (Itkt d o kvs).yld i H x H' →
        g x (wipe σ vs) H' fun σ2 H2 => wipe σ2 vs = wipe σ vs ∧ tk σ2 H2 fun y H4 => tv σ2 H4 fun z H5 => ∃ H6, DC.putT H5 D y z H6 ∧ Nx H6) := by
  refine ⟨fun i m H => m + i = kvs.length ∧ Pv i H, ⟨kvs.length, rfl, h0⟩, ?_⟩
  rintro i m H ⟨e, p⟩
  have q := hl i H p
  by_cases hi : i < kvs.length
  · refine .inr ⟨⟨q, hi⟩, Pv (i + 1), fun H' p' => ⟨m - 1, by omega, by omega, p'⟩, ?_⟩
    rintro x H' ⟨rfl, k, v, b, g1, rfl, g2⟩
    exact hs i k v b _ g1 p g2
  · obtain rfl : i = kvs.length := by omega
    exact .inl ⟨⟨q, Nat.le_refl _⟩, hd H p⟩
theorem pf_eq (n : Int) (c : Addr) : pf n c = ([("places", V.int n), ("cells", V.ref c)] : List (Str × V)) := by
  show (if ("places" : Str) = "cells" then [(("places" : Str), V.ref c)] else (("places" : Str), V.int n) :: putF "cells" (V.ref c) []) = _
  rw [if_neg pc_]
  rfl
theorem pf_put (n : Int) (c c' : Addr) : putF "cells" (.ref c') (pf n c) = pf n c' := by
  rw [pf_eq, pf_eq]
  show (if ("places" : Str) = "cells" then _ else (("places" : Str), V.int n) :: (if ("cells" : Str) = "cells" then [(("cells" : Str), V.ref c')] else _)) = ([("places", V.int n), ("cells", V.ref c')] : List (Str × V))
  rw [if_neg pc_, if_pos rfl]
theorem val_in : ∀ {kvs : List (List Key × V)} {i : Nat} {k : List Key} {v : V}, kvs[i]? = some (k, v) → ∃ v', valV kvs k = some v' := by
  intro kvs i k v h
  cases e : valV kvs k with
  | some v' => exact ⟨v', rfl⟩
  | none =>
    unfold valV at e
    rw [Option.map_eq_none_iff, List.find?_eq_none] at e
    exact absurd (e _ (List.mem_of_getElem? h)) (by simp)
theorem val_out {kvs : List (List Key × V)} {k : List Key} (h : k ∉ kvs.map Prod.fst) : valV kvs k = none := by
  unfold valV
  rw [Option.map_eq_none_iff, List.find?_eq_none]
  intro x hx
  simp
  intro e
  exact h (List.mem_map.mpr ⟨x, hx, e⟩)
def spTwin (K : PySem.W.Frag) (C : Addr) (tb : List Addr) : Sp := fun vs H Q _ => ∃ (x dx c : Addr) (n : Int) (M : Int → Int → PyData) (L : Nat), vs = [.ref x] ∧ Dk K C H x dx c n M L ∧ L ≤ 4000 ∧ Tabs tb H ∧
  ∀ x' dx' c' H', H x' = none → H c' = none → Ext tb [] H H' → Dk K C H' x' dx' c' n M L → Q (.ref x') H'
theorem ok_twin {tb : List Addr} {C fW fC : Addr} {fdW fdC fd : FuncData} (D : DiskM P w K mg base tb C fW fC fdW fdC) (F : Fun K "twin" "Disk.twin" s_Disk_twin f fd) : FnOk P w K mg base CX0 3 f fd ["self"] (spTwin K C tb) := by
  refine F.ok sc_Disk_twin (fun vs H Q E h => ?_) (fun cdv A outer s H vs Q E hr h => ?_)
  · obtain ⟨x, dx, c, n, M, L, rfl, _⟩ := h
    rfl
  · obtain ⟨x, dx, c, n, M, L, rfl, hD, hL, hT, q⟩ := h
    refine ⟨_, (pss_cons (ps_set (i := 1) sc_Disk_twin.nd rfl (.inl rfl) (C8.pe_mk D.new hr (by decide) (by rfl) (pa_cons (pe_fld (pv 0) rfl) pa_nil)))
      (pss_cons (ps_fld (pv 1) (pe_lock (DC.pe_dcT (own := [("key", 2)]) (g := gName 2) (DC.units0 hr.units) (by rfl) sc_Disk_twin.nd (pi_keys (pe_fld (pv 0) rfl)) (blkOk_by (own := [("key", 2)]) (N := n_Disk_twin) (sc := defScope s_Disk_twin) (by decide +kernel)) (fun _ _ _ _ _ => by exact (pg_name (i := 2) sc_Disk_twin.nd rfl (.inl rfl))) (fun _ _ _ _ _ => by exact (pv 2)) (fun _ _ _ _ _ => by exact (pe_dget (DW.units1 hr.units) (DC.q_fld (K := K) rfl (pv 0) rfl) (pv 2) (fun _ _ => rfl))))) rfl)
      (pss_one (ps_ret (pv 1))))), ?_⟩
    refine ⟨_, rfl, x, C, dx, _, _, rfl, hD.ins, D.ce.cl, D.ce.nP, pf_places _ _, fun x1 dx1 nx ndx nxd => ?_⟩
    have e0 : Ext tb [] H (upd (upd H dx1 (.own x1)) x1 (.ins C dx1 [])) := (Ext.new hT ndx).trans (Ext.new ((Ext.new (ch := []) hT ndx).tabs hT) (by rw [upd_ne (Ne.symm nxd)]; exact nx))
    refine ⟨x1, dx1, n, rfl, upd_same, e0.tabs hT, fun c1 H1 nc e1 hx1 hc1 => ⟨rfl, ?_⟩⟩
    have E1 : Ext tb [] H H1 := shrinkE ((e0.of0 : Ext tb [x1] _ _).trans e1) fun z hz => by
      rw [List.mem_singleton.mp hz]
      exact .inr nx
    have hT1 := E1.tabs hT
    have D1 := hD.ext E1 hT (fun z hz => by cases hz) (by simp)
    obtain ⟨kvs, hc, hk, hv⟩ := D1.ex
    have xc : x ≠ c := fun z => by have := D1.ins; rw [z, hc] at this; cases this
    have x1c : x1 ≠ c := fun z => by rw [z, hc] at hx1; cases hx1
    refine ⟨c, .dT kvs, hc, True.intro, fun od => ?_⟩
    refine ⟨_, rfl, x, C, dx, _, _, rfl, Eq.trans (upd_ne xc) D1.ins, D.ce.cl, D.ce.nC, pf_cells _ _, c, od, rfl, .inr ⟨kvs, upd_same, fun Dn nDn => ?_⟩⟩
    have nDc : Dn ≠ c := fun z => by rw [z, upd_same] at nDn; cases nDn
    have nD1 : H1 Dn = none := by rw [upd_ne nDc] at nDn; exact nDn
    have nDx : Dn ≠ x := fun z => by have := D1.ins; rw [← z, nD1] at this; cases this
    have nDx1 : Dn ≠ x1 := fun z => by rw [← z, nD1] at hx1; cases hx1
    refine dcT_keys (fun i H' => ∃ ks : List (List Key × V), ks.length ≤ i ∧ (∀ k : List Key, (k ∈ (kvs.take i).map Prod.fst → valV ks k = valV kvs k) ∧ (k ∉ (kvs.take i).map Prod.fst → valV ks k = none)) ∧ H' = upd (upd H1 c (.frz od (.dT kvs))) Dn (.dT ks)) ⟨[], Nat.le_refl _, fun k => ⟨fun h => by simp at h, fun _ => rfl⟩, rfl⟩ ?_ ?_ ?_
    · rintro i H' ⟨ks, _, _, rfl⟩
      rw [upd_ne (Ne.symm nDc), upd_same]
    · rintro i k v b H' hi ⟨ks, hl, hval, rfl⟩ hb
      have hil : i < kvs.length := (List.getElem?_eq_some_iff.mp hi).1
      obtain ⟨v', hv'⟩ := val_in hi
      refine ⟨rfl, _, rfl, _, rfl, x, C, dx, _, _, rfl, by rw [upd_ne (Ne.symm nDx), upd_ne xc]; exact D1.ins, D.ce.cl, D.ce.nC, pf_cells _ _, _, rfl, c, v', rfl, .inr ⟨kvs, k, b, .inr ⟨od, by rw [upd_ne (Ne.symm nDc), upd_same]⟩, rfl, hb, hv'.symm⟩, _, ⟨ks, k, b, rfl, upd_same, hb, line_lt (by omega), rfl⟩, ?_⟩
      refine ⟨putK ks k v', Nat.le_trans (length_putK ..) (by omega), fun j => ?_, by rw [upd_upd]⟩
      have tk : (kvs.take (i + 1)).map Prod.fst = (kvs.take i).map Prod.fst ++ [k] := by rw [List.take_add_one, hi, List.map_append] <;> rfl
      rw [valV_put, tk]
      by_cases hj : j = k
      · subst hj
        rw [if_pos rfl]
        exact ⟨fun _ => hv'.symm, fun h => absurd (by simp) h⟩
      · rw [if_neg hj]
        refine ⟨fun h => (hval j).1 ?_, fun h => (hval j).2 fun z => h (List.mem_append_left _ z)⟩
        rcases List.mem_append.mp h with z | z
        · exact z
        · exact absurd (List.mem_singleton.mp z) hj
    · rintro H' ⟨ks, hl, hval, rfl⟩
      rw [List.take_length] at hval
      have hval' : ∀ k : List Key, valV ks k = valV kvs k := fun k => by
        by_cases h : k ∈ kvs.map Prod.fst
        · exact (hval k).1 h
        · rw [(hval k).2 h, val_out h]
      have hm : upd (upd (upd H1 c (.frz od (.dT kvs))) Dn (.dT ks)) c (.dT kvs) = upd H1 Dn (.dT ks) := by
        funext b
        by_cases hb : b = c
        · rw [hb, upd_same, upd_ne (Ne.symm nDc), hc]
        · rw [upd_ne hb]
          by_cases hb2 : b = Dn
          · rw [hb2, upd_same, upd_same]
          · rw [upd_ne hb2, upd_ne hb2, upd_ne hb]
      refine ⟨by rw [upd_ne (Ne.symm nDc), upd_same], ?_⟩
      rw [hm]
      refine ⟨_, rfl, x1, C, dx1, _, rfl, Eq.trans (upd_ne (Ne.symm nDx1)) hx1, D.ce.cl, D.ce.nC, (by rw [pf_eq]; show 2 < 1000; decide), _, rfl, ?_⟩
      rw [pf_put]
      have e3 : Ext tb [] H (upd H1 Dn (.dT ks)) := E1.trans (Ext.new hT1 nD1)
      have e4 := Ext.own (o := .ins C dx1 (pf n Dn)) hT e3 nx
      refine q x1 dx1 Dn _ nx (E1.free hT nD1 (by simp)) e4 ⟨upd_same, ⟨ks, by rw [upd_ne nDx1, upd_same], by omega, fun i s => ?_⟩, hD.g⟩
      rw [hval']
      have E14 : Ext tb [] H1 (upd H1 Dn (.dT ks)) := Ext.new hT1 nD1
      obtain ⟨kv0, hc0, _, hv0⟩ := hD.ex
      have : kv0 = kvs := by
        have := E1.keep _ _ (ne_tab hT hc0 fun ps z => by cases z) (by simp) hc0
        rw [hc] at this
        cases this
        rfl
      rw [← this]
      exact Rp_ext e4 hT _ (hv0 i s)

end
end K22

set_option Elab.async false
set_option linter.all false
set_option maxRecDepth 100000
set_option maxHeartbeats 1000000
namespace K22
open PySem PySem.Spec PyProof.Rows L2 HK DT DW
section
variable {P : Program} {w : World} {K : PySem.W.Frag} {mg : Str → Option Value} {base : Heap} {f : Addr} {cd : Value}
/-! ### cut_steps -/
def pickG (gr : List (V × Sp1)) (ks : List Int) : List (V × Sp1) := ks.filterMap fun k => gr[k.toNat]?
def grAt (ps : List (V × Sp1)) (gi : Nat) : List (V × Sp1) := ((G0 ps)[gi]?).getD []
def cutL (ps : List (V × Sp1)) (gi : Nat) (ks : List Int) : List (V × Sp1) := ((G0 ps).take gi).flatten ++ pickG (grAt ps gi) ks
theorem pick_snoc {gr : List (V × Sp1)} {ks : List Int} {i : Nat} {k : Int} {q : V × Sp1} (h : ks[i]? = some k) (hq : gr[k.toNat]? = some q) : pickG gr (ks.take (i + 1)) = pickG gr (ks.take i) ++ [q] := by
  unfold pickG
  rw [List.take_add_one, h, List.filterMap_append]
  simp [hq]
theorem pick_mem {gr : List (V × Sp1)} {ks : List Int} {q : V × Sp1} (h : q ∈ pickG gr ks) : q ∈ gr := by
  obtain ⟨k, _, hk⟩ := List.mem_filterMap.mp h
  exact List.mem_of_getElem? hk
theorem pick_len (gr : List (V × Sp1)) (ks : List Int) : (pickG gr ks).length ≤ ks.length := List.length_filterMap_le ..
theorem grAt_some {ps : List (V × Sp1)} {gi : Nat} (h : gi < (G0 ps).length) : (G0 ps)[gi]? = some (grAt ps gi) := by
  unfold grAt
  rw [List.getElem?_eq_getElem h]
  rfl
theorem stepsM_app (M : Int → Int → PyData) (a b : List Sp1) : stepsM M (a ++ b) = stepsM (stepsM M a) b := by
  unfold stepsM
  rw [List.foldl_append]
theorem flat_snoc {ps gr : List (V × Sp1)} {j : Nat} (h : (G0 ps)[j]? = some gr) : ((G0 ps).take (j + 1)).flatten.map (·.2) = ((G0 ps).take j).flatten.map (·.2) ++ gr.map (·.2) := by
  rw [List.take_add_one, h, List.flatten_append, List.map_append]
  simp
/-- a list of lists stands for the groups -/
def Gs (H : Hp) (g : Addr) (ps : List (V × Sp1)) (LS : List Addr) : Prop := H g = some (.lst (LS.map V.ref)) ∧ LS.length = (G0 ps).length ∧ ∀ (i : Nat) (l : Addr) (gr : List (V × Sp1)), LS[i]? = some l → (G0 ps)[i]? = some gr → H l = some (.lst (gr.map (·.1)))
theorem Gs.ext {tb S : List Addr} {H H' : Hp} {g : Addr} {ps : List (V × Sp1)} {LS : List Addr} (G : Gs H g ps LS) (t : Tabs tb H) (e : Ext tb S H H') (h1 : g ∉ S) (h2 : ∀ l ∈ LS, l ∉ S) : Gs H' g ps LS :=
  ⟨e.lst t G.1 h1, G.2.1, fun i l gr a b => e.lst t (G.2.2 i l gr a b) (h2 l (List.mem_of_getElem? a))⟩
theorem Grp.gs {tb : List Addr} {H0 H : Hp} {g : Addr} {ps : List (V × Sp1)} (G : Grp tb H0 H g (gst ps ([], []))) : ∃ LS, Gs H g ps LS ∧ ∀ l ∈ LS, H0 l = none := by
  obtain ⟨LS, h1, h2, h3, h4, _⟩ := G.full
  exact ⟨LS, ⟨h1, h2, h3⟩, h4⟩
def spCut (K : PySem.W.Frag) (C : Addr) (tb : List Addr) : Sp := fun vs H Q _ => ∃ (x dx c S Kp : Addr) (n : Int) (M : Int → Int → PyData) (L : Nat) (ps : List (V × Sp1)) (gi : Nat) (ks : List Int), vs = [.ref x, .ref S, .int (gi : Nat), .ref Kp] ∧ Dk K C H x dx c n M L ∧ L ≤ 1000 ∧ ps.length ≤ 24 ∧ ks.length ≤ 24 ∧ H S = some (.lst (ps.map (·.1))) ∧ (∀ q ∈ ps, Rp K H q.1 (stepD q.2)) ∧ (∀ q ∈ ps, okSt q.2) ∧ H Kp = some (.lst (ks.map V.int)) ∧ gi < (G0 ps).length ∧ (∀ k ∈ ks, 0 ≤ k ∧ k < (grAt ps gi).length) ∧ Tabs tb H ∧
  ∀ H', Ext tb [c] H H' → Dk K C H' x dx c n (stepsM M ((cutL ps gi ks).map (·.2))) 3000 → Q .non H'
theorem ok_cut_steps {tb : List Addr} {C fW fC : Addr} {fdW fdC : FuncData} (D : DiskM P w K mg base tb C fW fC fdW fdC) (F : FnAt K mg "cut_steps" s_cut_steps ["disk", "steps", "group", "kept"] f cd) (C_groups_of : CalE P w K mg base CX0 1 "groups_of" (spGroups K tb)) (C_do_steps : CalE P w K mg base CX0 4 "do_steps" (spDo K C tb)) : CalE P w K mg base CX0 5 "cut_steps" (spCut K C tb) := by
  refine F.cal sc_cut_steps (fun vs H Q E h => ?_) (fun A outer s H vs Q E hr h => ?_)
  · obtain ⟨x, dx, c, S, Kp, n, M, L, ps, gi, ks, rfl, _⟩ := h
    rfl
  · obtain ⟨x, dx, c, S, Kp, n, M, L, ps, gi, ks, rfl, hD, hL, hl, hkl, hS, hps, hok, hKp, hgi, hks, hT, q⟩ := h
    refine ⟨_, (pss_cons (ps_set (i := 4) sc_cut_steps.nd rfl (.inr rfl) (pe_cal C_groups_of (hr.mono (by first | decide | omega)) (by rfl) (pa_cons (pv 1) pa_nil)))
      (pss_cons (ps_for PassesOwn.never rfl (q_piL (K := K) rfl (pe_slice (q_slL (K := K) rfl) (pv 4) po_none (po_some (pv 2)))) (pg_name (i := 5) sc_cut_steps.nd rfl (.inl rfl)) (pss_one (ps_expr (pe_cal C_do_steps (hr.mono (by first | decide | omega)) (by rfl) (pa_cons (pv 0) (pa_cons (pv 5) pa_nil))))))
      (pss_one (ps_expr (pe_cal C_do_steps (hr.mono (by first | decide | omega)) (by rfl) (pa_cons (pv 0) (pa_cons (pe_lc (own := [("number", 6)]) (g := gName 6) (tt := tYes) (by rfl) sc_cut_steps.nd (q_piL (K := K) rfl (pv 3)) (blkOk_by (own := [("number", 6)]) (N := n_cut_steps) (sc := defScope s_cut_steps) (by decide +kernel)) (fun _ _ _ _ _ => (pg_name (i := 6) sc_cut_steps.nd rfl (.inl rfl))) (fun _ _ _ _ _ => pts_nil) (fun _ _ _ _ _ => (pe_ix (q_ixL (K := K) rfl) (pe_ix (q_ixL (K := K) rfl) (pv 4) (pv 2) (fun _ _ => rfl)) (pv 6) (fun _ _ => rfl)))) pa_nil))))))), ?_⟩
    refine ⟨_, rfl, S, ps, rfl, SqL.of hS, rp_all hps, by omega, hT, fun g H1 G => ?_⟩
    have hT1 := G.e.tabs hT
    obtain ⟨LS, hG, hfr⟩ := G.gs
    obtain ⟨kv0, hc0, _⟩ := hD.ex
    have hG0 := G0_len ps
    refine ⟨_, rfl, _, rfl, _, rfl, g, _, rfl, SqL.of hG.1, fun p np => ?_⟩
    rw [cut_to V.ref LS gi (by have := hG.2.1; omega)]
    have e2 : Ext tb [] H (upd H1 p (.lst ((LS.take gi).map V.ref))) := G.e.trans (Ext.new hT1 np)
    have hp2 : (upd H1 p (.lst ((LS.take gi).map V.ref))) p = some (.lst ((LS.take gi).map V.ref)) := upd_same
    have p0 := G.e.free hT np (by simp)
    have hG2 := hG.ext (S := []) hT1 (Ext.new (o := .lst ((LS.take gi).map V.ref)) hT1 np) (by simp) (by simp)
    generalize upd H1 p (.lst ((LS.take gi).map V.ref)) = H2 at e2 hp2 hG2 ⊢
    have hT2 := e2.tabs hT
    have no : NTs [] H := fun z hz => by cases hz
    have D2 := hD.ext e2 hT no (by simp)
    have ntc : NTs [c] H2 := fun z hz => by
      rw [List.mem_singleton.mp hz]
      exact D2.nt
    have st2 : ∀ q ∈ ps, Rp K H2 q.1 (stepD q.2) := fun q hq => Rp_ext e2 hT _ (hps q hq)
    have nc : ∀ z, H z = none → z ∉ [c] := fun z h w => by rw [List.mem_singleton.mp w, hc0] at h; cases h
    have Kc : Kp ∉ [c] := fun w => by rw [List.mem_singleton.mp w, hc0] at hKp; cases hKp
    have hKp2 := e2.lst hT hKp (by simp)
    refine ⟨p, rfl, ⟨_, SqL.of hp2⟩, for_list (K := K) (a := p) (xs := (LS.take gi).map V.ref) (fun j σ H' => ∃ (y5 y6 : Option V), σ = [some (.ref x), some (.ref S), some (.int (gi : Nat)), some (.ref Kp), some (.ref g), y5, y6] ∧ Ext tb [c] H2 H' ∧ Dk K C H' x dx c n (stepsM M (((G0 ps).take j).flatten.map (·.2))) (L + 24 * j)) ⟨_, _, rfl, Ext.refl, D2⟩ (fun j σ H' _ h => by
      obtain ⟨_, _, _, e, _⟩ := h
      exact SqL.of (e.lst hT2 hp2 (nc p p0))) ?_ ?_⟩
    · rintro j v σ H' hv ⟨y5, y6, rfl, e', D'⟩
      rw [List.getElem?_map] at hv
      obtain ⟨l, hl', rfl⟩ := Option.map_eq_some_iff.mp hv
      have hjg : j < gi := by
        have := (List.getElem?_eq_some_iff.mp hl').1
        rw [List.length_take] at this
        omega
      rw [List.getElem?_take_of_lt hjg] at hl'
      have hgj : (G0 ps)[j]? = some (grAt ps j) := grAt_some (by omega)
      have mm := List.mem_of_getElem? hgj
      have hlj := e'.lst hT2 (hG2.2.2 j l _ hl' hgj) (nc l (hfr l (List.mem_of_getElem? hl')))
      have hT' := e'.tabs hT2
      have glen := G0_gr mm
      refine ⟨_, rfl, _, rfl, x, dx, c, l, n, _, _, grAt ps j, rfl, D', by omega, SqL.of hlj, rp_all fun q hq => fz_ext ntc e' hT2 _ (fz_step _) (st2 q (G0_mem mm hq).1), fun q hq => hok q (G0_mem mm hq).1, hT', fun H3 e3 D3 => ?_⟩
      refine ⟨_, _, rfl, e'.trans e3, ?_⟩
      rw [flat_snoc hgj, stepsM_app]
      exact D3.mono (by omega)
    · rintro σ H' ⟨y5, y6, rfl, e', D'⟩
      have lenT : ((LS.take gi).map V.ref).length = gi := by
        rw [List.length_map, List.length_take]
        have := hG.2.1
        omega
      rw [lenT] at D'
      have hT' := e'.tabs hT2
      have hgi' := grAt_some hgi
      have mm := List.mem_of_getElem? hgi'
      obtain ⟨l, hl'⟩ : ∃ l, LS[gi]? = some l := ⟨_, List.getElem?_eq_getElem (show gi < LS.length by have := hG.2.1; omega)⟩
      have hlj := e'.lst hT2 (hG2.2.2 gi l _ hl' hgi') (nc l (hfr l (List.mem_of_getElem? hl')))
      have hg' := e'.lst hT2 hG2.1 (nc g G.g0)
      have hKp' := e'.lst hT2 hKp2 Kc
      refine ⟨_, rfl, _, rfl, Kp, rfl, ⟨_, SqL.of hKp'⟩, fun Dl nDl => ?_⟩
      have nDl : H' Dl = none := nDl
      have ne1 : g ≠ Dl := fun z => by rw [← z, hg'] at nDl; cases nDl
      have ne2 : l ≠ Dl := fun z => by rw [← z, hlj] at nDl; cases nDl
      have ne3 : Kp ≠ Dl := fun z => by rw [← z, hKp'] at nDl; cases nDl
      refine lc_list (K := K) (a := Kp) (xs := ks.map V.int) (fun i H3 => H3 = upd H' Dl (.lst ((pickG (grAt ps gi) (ks.take i)).map (·.1)))) rfl (fun i H3 _ h => by rw [h]; exact SqL.of (by rw [upd_ne ne3]; exact hKp')) ?_ ?_
      · rintro i v H3 hv rfl
        rw [List.getElem?_map] at hv
        obtain ⟨k, hk, rfl⟩ := Option.map_eq_some_iff.mp hv
        have hkr := hks k (List.mem_of_getElem? hk)
        have hkl' : k.toNat < (grAt ps gi).length := by omega
        obtain ⟨qv, hqv⟩ : ∃ qv, (grAt ps gi)[k.toNat]? = some qv := ⟨_, List.getElem?_eq_getElem hkl'⟩
        refine ⟨rfl, _, rfl, _, rfl, g, _, _, .ref l, rfl, rfl, SqL.of (by rw [upd_ne ne1]; exact hg'), atI_nat (j := gi) (by rw [List.getElem?_map, hl'] <;> rfl), _, rfl, l, _, k, qv.1, rfl, rfl, SqL.of (by rw [upd_ne ne2]; exact hlj), at_of (j := k.toNat) (by omega) (by rw [List.getElem?_map, hqv] <;> rfl), _, upd_same, line_lt (by rw [List.length_map]; have := pick_len (grAt ps gi) (ks.take i); rw [List.length_take] at this; omega), ?_⟩
        rw [upd_upd, pick_snoc hk hqv, List.map_append]
        rfl
      · rintro H3 rfl
        rw [List.length_map, List.take_length]
        have e4 : Ext tb [] H' (upd H' Dl (.lst ((pickG (grAt ps gi) ks).map (·.1)))) := Ext.new hT' nDl
        have no' : NTs [] H' := fun z hz => by cases hz
        have pl := pick_len (grAt ps gi) ks
        refine ⟨x, dx, c, Dl, n, _, _, pickG (grAt ps gi) ks, rfl, D'.ext e4 hT' no' (by simp), by omega, SqL.of upd_same, rp_all fun q hq => Rp_ext e4 hT' _ (fz_ext ntc e' hT2 _ (fz_step _) (st2 q (G0_mem mm (pick_mem hq)).1)), fun q hq => hok q (G0_mem mm (pick_mem hq)).1, e4.tabs hT', fun H5 e5 D5 => ?_⟩
        refine q H5 (((e2.of0).trans e').trans (e4.of0.trans e5)) ?_
        unfold cutL
        rw [List.map_append, stepsM_app]
        exact D5.mono (by omega)

end
end K22

set_option Elab.async false
set_option linter.all false
set_option maxRecDepth 100000
set_option maxHeartbeats 1000000
namespace K22
open PySem PySem.Spec PyProof.Rows L2 HK DT DW
section
variable {P : Program} {w : World} {K : PySem.W.Frag} {mg : Str → Option Value} {base : Heap} {f : Addr} {cd : Value}
/-! ### _law_kept -/
theorem erase_map (l : List Int) (j : Nat) : (l.map V.int).eraseIdx j = (l.eraseIdx j).map V.int := by
  induction l generalizing j with
  | nil => rfl
  | cons a r ih =>
    cases j with
    | zero => rfl
    | succ j =>
      show V.int a :: (r.map V.int).eraseIdx j = V.int a :: (r.eraseIdx j).map V.int
      rw [ih]
theorem ix_nat {i : Int} {n : Nat} (h0 : 0 ≤ i) (h1 : i < n) : seqIndex? i n = some i.toNat := by
  unfold seqIndex?
  have : ¬ i < 0 := by omega
  simp [this, h0, h1]
theorem rg_map (m : Int) : rgV 0 m = ((List.range m.toNat).map fun i : Nat => (i : Int)).map V.int := by
  unfold rgV
  rw [List.map_map, Int.sub_zero]
  apply List.map_congr_left
  intro i _
  show V.int (0 + (i : Int)) = V.int i
  rw [Int.zero_add]
def spKept (tb : List Addr) : Sp := fun vs H Q _ => ∃ (d : Addr) (ds : List Int) (m : Nat), vs = [.ref d, .int (m : Nat)] ∧ m ≤ 24 ∧ H d = some (.lst (ds.map V.int)) ∧ Dr ds ∧ Tabs tb H ∧
  ∀ Kp (ks es : List Int) H', Ext tb [d] H H' → H Kp = none → Dr es → H' d = some (.lst (es.map V.int)) → H' Kp = some (.lst (ks.map V.int)) → ks.length ≤ 24 → (∀ k ∈ ks, 0 ≤ k ∧ k < (m : Int)) → Q (.ref Kp) H'
theorem ok_l_kept {tb : List Addr} (T : Txt K mg) (F : FnAt K mg "_law_kept" s_l_kept ["_law_drawn", "_law_many"] f cd) (C_l_next : CalE P w K mg base CX0 1 "_law_next" (spNext tb)) : CalE P w K mg base CX0 2 "_law_kept" (spKept tb) := by
  refine F.cal sc_l_kept (fun vs H Q E h => ?_) (fun A outer s H vs Q E hr h => ?_)
  · obtain ⟨d, ds, m, rfl, _⟩ := h
    rfl
  · obtain ⟨d, ds, m, rfl, hm, hd, hDr, hT, q⟩ := h
    refine ⟨_, (pss_cons (ps_set (i := 2) sc_l_kept.nd rfl (.inl rfl) (pe_listRg (by rfl) (by rfl) T.b_list (prg_1 (by rfl) T.b_range (pv 1))))
      (pss_cons (ps_set (i := 3) sc_l_kept.nd rfl (.inl rfl) (pe_lst pa_nil))
      (pss_cons (ps_for PassesOwn.never rfl (pi_range1 (by rfl) T.b_range (pa_cons (pe_ix (q_ixL (K := K) rfl) (pe_lst (pa_cons pe_int (pa_cons (pv 1) (pa_cons (pe_callB (call_min2 rfl) (by rfl) T.b_min (by decide +kernel) (pa_cons pe_int (pa_cons (pv 1) pa_nil))) (pa_cons (pe_op op_mod (pe_cal C_l_next (hr.mono (by first | decide | omega)) (by rfl) (pa_cons (pv 0) pa_nil)) (pe_op op_add (pv 1) pe_int)) pa_nil))))) (pe_op op_mod (pe_cal C_l_next (hr.mono (by first | decide | omega)) (by rfl) (pa_cons (pv 0) pa_nil)) pe_int) (fun _ _ => rfl)) pa_nil)) (pg_name (i := 4) sc_l_kept.nd rfl (.inl rfl)) (pss_one (ps_expr (q_bm (K := K) rfl PySem.F.plainAttrs_list PySem.F.slot_list_append PySem.F.type_list_append mt_append (pv 3) (pa_cons (q_bm (K := K) rfl PySem.F.plainAttrs_list PySem.F.slot_list_pop PySem.F.type_list_pop mt_popAt (pv 2) (pa_cons (pe_op op_mod (pe_cal C_l_next (hr.mono (by first | decide | omega)) (by rfl) (pa_cons (pv 0) pa_nil)) (pe_callB (q_len (K := K) rfl) (by rfl) T.b_len PySem.boot_len (pa_cons (pv 2) pa_nil))) pa_nil)) pa_nil)))))
      (pss_one (ps_ret (pv 3)))))), ?_⟩
    refine ⟨_, rfl, _, rfl, RgOk.of_le (by omega) (by omega) (by omega) (by omega), fun Lf nLf => ?_⟩
    rw [rg_map]
    have e1 : Ext tb [] H (upd H Lf (.lst (((List.range ((m : Nat) : Int).toNat).map fun i : Nat => (i : Int)).map V.int))) := Ext.new hT nLf
    have hLf1 : (upd H Lf (.lst (((List.range ((m : Nat) : Int).toNat).map fun i : Nat => (i : Int)).map V.int))) Lf = some (.lst (((List.range ((m : Nat) : Int).toNat).map fun i : Nat => (i : Int)).map V.int)) := upd_same
    generalize upd H Lf (.lst (((List.range ((m : Nat) : Int).toNat).map fun i : Nat => (i : Int)).map V.int)) = H1 at e1 hLf1 ⊢
    have hT1 := e1.tabs hT
    refine ⟨Nat.zero_le _, fun Kp nKp => ?_⟩
    have Kp0 := e1.free hT nKp (by simp)
    have e2 := e1.trans (Ext.new (o := .lst []) hT1 nKp)
    have nLK : Lf ≠ Kp := fun z => by rw [← z, hLf1] at nKp; cases nKp
    have hLf2 : (upd H1 Kp (.lst [])) Lf = _ := Eq.trans (upd_ne nLK) hLf1
    have hKp2 : (upd H1 Kp (.lst [])) Kp = some (.lst []) := upd_same
    generalize upd H1 Kp (.lst []) = H2 at e2 hLf2 hKp2 ⊢
    have hT2 := e2.tabs hT
    have hd2 := e2.lst hT hd (by simp)
    have nLd : Lf ≠ d := fun z => by rw [z, hd] at nLf; cases nLf
    have nKd : Kp ≠ d := fun z => by rw [z, hd] at Kp0; cases Kp0
    refine ⟨_, rfl, _, rfl, _, _, rfl, _, rfl, d, ds, rfl, hd2, hDr, hT2, fun x1 r1 H3 hx1 hD3 e3 hd3 => ?_⟩
    have hT3 := e3.tabs hT2
    have b1 := mod_rg x1 ((m : Int) + 1) (by omega)
    refine ⟨_, rfl, _, _, rfl, rfl, _, _, rfl, rfl, (by show (0:Int) < (m : Int) + 1; omega), by show 4 ≤ sizeLine; decide, fun t nt => ?_⟩
    have ntd : t ≠ d := fun z => by rw [z, hd3] at nt; cases nt
    generalize hmn : (if ((m : Nat) : Int) < 1 then ((m : Nat) : Int) else 1) = mn
    have bmn : 0 ≤ mn ∧ mn ≤ m := by
      rw [← hmn]
      split <;> omega
    have e4 : Ext tb [] H3 (upd H3 t (.lst [.int 0, .int (m : Nat), .int mn, .int (x1 % ((m : Int) + 1))])) := Ext.new hT3 nt
    have ht4 : (upd H3 t (.lst [.int 0, .int (m : Nat), .int mn, .int (x1 % ((m : Int) + 1))])) t = some (.lst (([0, (m : Int), mn, x1 % ((m : Int) + 1)] : List Int).map V.int)) := upd_same
    have hd4 := e4.lst hT3 hd3 (by simp)
    generalize upd H3 t (.lst [.int 0, .int (m : Nat), .int mn, .int (x1 % ((m : Int) + 1))]) = H4 at e4 ht4 hd4 ⊢
    have hT4 := e4.tabs hT3
    refine ⟨_, rfl, d, r1, rfl, hd4, hD3, hT4, fun x2 r2 H5 hx2 hD5 e5 hd5 => ?_⟩
    have hT5 := e5.tabs hT4
    have b4 := mod_rg x2 4 (by decide)
    obtain ⟨z, hz, hza⟩ := at_map V.int (l := ([0, (m : Int), mn, x1 % ((m : Int) + 1)] : List Int)) b4.1 b4.2
    have bz : 0 ≤ z ∧ z ≤ m := by
      simp at hz
      rcases hz with rfl | rfl | rfl | rfl <;> omega
    have e25 : Ext tb [d] H2 H5 := (e3.trans e4.of0).trans e5
    have E5 : Ext tb [d] H H5 := e2.of0.trans e25
    have hLf5 := e25.lst hT2 hLf2 (by simp [nLd])
    have hKp5 := e25.lst hT2 hKp2 (by simp [nKd])
    have hrl : ((List.range ((m : Nat) : Int).toNat).map fun i : Nat => (i : Int)).length = m := by simp
    refine ⟨_, _, rfl, rfl, (by show (0:Int) < 4; decide), t, _, _, .int z, rfl, rfl, SqL.of (e5.lst hT4 ht4 (by simp [ntd])), hza, _, rfl, by omega, by omega, for_range (lo := 0) (n := z.toNat) (fun i σ H' => ∃ (ls ks es : List Int) (y4 : Option V), σ = [some (.ref d), some (.int (m : Nat)), some (.ref Lf), some (.ref Kp), y4] ∧ Ext tb [d] H H' ∧ Dr es ∧ H' d = some (.lst (es.map V.int)) ∧ H' Lf = some (.lst (ls.map V.int)) ∧ H' Kp = some (.lst (ks.map V.int)) ∧ ls.length + i = m ∧ ks.length = i ∧ (∀ k ∈ ls, 0 ≤ k ∧ k < (m : Int)) ∧ (∀ k ∈ ks, 0 ≤ k ∧ k < (m : Int))) ⟨_, [], r2, _, rfl, E5, hD5, hd5, hLf5, hKp5, hrl, rfl, fun k hk => ?_, fun k hk => by cases hk⟩ ?_ ?_⟩
    · simp at hk
      obtain ⟨j, hj, rfl⟩ := hk
      omega
    · rintro i σ H' hi ⟨ls, ks, es, y4, rfl, e', hes, hd', hL', hK', hll, hkl, hlr, hkr⟩
      have hT' := e'.tabs hT
      have hpos : (0:Int) < ((ls.map V.int).length : Nat) := by
        rw [List.length_map]
        omega
      refine ⟨_, rfl, .inl ⟨rfl, _, SqL.of hK'⟩, _, rfl, .inl ⟨rfl, _, SqL.of hL'⟩, _, rfl, d, es, rfl, hd', hes, hT', fun x3 r3 H6 hx3 hD6 e6 hd6 => ?_⟩
      have hL6 := e6.lst hT' hL' (by simp [nLd])
      have hK6 := e6.lst hT' hK' (by simp [nKd])
      have b3 := mod_rg x3 ((ls.map V.int).length : Nat) hpos
      have b3' : (x3 % (((ls.map V.int).length : Nat) : Int)).toNat < ls.length := by
        have := b3.2
        rw [List.length_map] at this ⊢
        omega
      obtain ⟨k, hk⟩ : ∃ k, ls[(x3 % (((ls.map V.int).length : Nat) : Int)).toNat]? = some k := ⟨_, List.getElem?_eq_getElem b3'⟩
      refine ⟨_, rfl, _, _, rfl, .inl ⟨_, SqL.of hL6, rfl⟩, _, _, rfl, rfl, hpos, Lf, _, _, _, .int k, rfl, rfl, hL6, by omega, by have := b3.2; rw [List.length_map] at this ⊢; omega, ix_nat b3.1 b3.2, by rw [List.getElem?_map, hk] <;> rfl, Kp, _, _, rfl, rfl, Eq.trans (upd_ne (Ne.symm nLK)) hK6, line_lt (by rw [List.length_map]; omega), ?_⟩
      rw [erase_map]
      have kin := List.mem_of_getElem? hk
      refine ⟨ls.eraseIdx (x3 % (((ls.map V.int).length : Nat) : Int)).toNat, ks ++ [k], r3, _, rfl, Ext.own hT (Ext.own hT (e'.trans e6) nLf) Kp0, hD6, by rw [upd_ne (Ne.symm nKd), upd_ne (Ne.symm nLd)]; exact hd6, by rw [upd_ne nLK, upd_same], by rw [upd_same, List.map_append] <;> rfl, ?_, by rw [List.length_append, hkl] <;> rfl, fun j hj => hlr j (List.mem_of_mem_eraseIdx hj), fun j hj => ?_⟩
      · rw [List.length_eraseIdx_of_lt b3']
        omega
      · rcases List.mem_append.mp hj with z | z
        · exact hkr j z
        · rw [List.mem_singleton.mp z]
          exact hlr k kin
    · rintro σ H' ⟨ls, ks, es, y4, rfl, e', hes, hd', hL', hK', hll, hkl, hlr, hkr⟩
      exact ⟨_, rfl, q Kp ks es H' e' Kp0 hes hd' hK' (by omega) hkr⟩

end
end K22

set_option Elab.async false
set_option linter.all false
set_option maxRecDepth 100000
set_option maxHeartbeats 1000000
namespace K22
open PySem PySem.Spec PyProof.Rows L2 HK DT DW
section
variable {P : Program} {w : World} {K : PySem.W.Frag} {mg : Str → Option Value} {base : Heap} {f : Addr} {cd : Value}
/-! ### _law_cut -/
def spLCut (K : PySem.W.Frag) (tb : List Addr) : Sp := fun vs H Q _ => ∃ (Lo l0 l1 g Kp : Addr) (m : Nat) (M : Int → Int → PyData) (ps : List (V × Sp1)) (gi : Nat) (ks : List Int) (LS : List Addr), vs = [.ref Lo, .ref g, .int (gi : Nat), .ref Kp] ∧ Lc K H Lo l0 l1 m M ∧ Gs H g ps LS ∧ H Kp = some (.lst (ks.map V.int)) ∧ ks.length ≤ 24 ∧ ps.length ≤ 24 ∧ gi < (G0 ps).length ∧ (∀ k ∈ ks, 0 ≤ k ∧ k < (grAt ps gi).length) ∧ (∀ q ∈ ps, Rp K H q.1 (stepD q.2)) ∧ (∀ q ∈ ps, isLine q.2 = false → isPut m q.2) ∧ Tabs tb H ∧
  ∀ Lo' l0' l1' H', Ext tb [] H H' → Lc K H' Lo' l0' l1' m (stepsM M ((cutL ps gi ks).map (·.2))) → Q (.ref Lo') H'
theorem ok_l_cut {tb : List Addr} (T : Txt K mg) (F : FnAt K mg "_law_cut" s_l_cut ["_law_cells", "_law_groups_here", "_law_group", "_law_kept_here"] f cd) (C_l_put : CalE P w K mg base CX0 2 "_law_put" (spPut K tb)) : CalE P w K mg base CX0 3 "_law_cut" (spLCut K tb) := by
  refine F.cal sc_l_cut (fun vs H Q E h => ?_) (fun A outer s H vs Q E hr h => ?_)
  · obtain ⟨Lo, l0, l1, g, Kp, m, M, ps, gi, ks, LS, rfl, _⟩ := h
    rfl
  · obtain ⟨Lo, l0, l1, g, Kp, m, M, ps, gi, ks, LS, rfl, hL, hG, hKp, hkl, hl, hgi, hks, hps, hput, hT, q⟩ := h
    refine ⟨_, (pss_cons (ps_setLc (i := 4) (own := [("_law_one", 6)]) (g := gName 6) (tt := tYes) (by rfl) sc_l_cut.nd rfl rfl (sw_true rfl rfl rfl (by decide +kernel)) (q_piL (K := K) rfl (pv 0)) (blkOk_by (own := [("_law_one", 6)]) (N := n_l_cut) (sc := defScope s_l_cut) (by decide +kernel)) (fun _ _ _ _ _ => (pg_name (i := 6) sc_l_cut.nd rfl (.inl rfl))) (fun _ _ _ _ _ => pts_nil) (fun _ _ _ _ _ => (pe_callTy (q_lst (K := K) rfl) (by rfl) T.b_list (by decide +kernel) (pa_cons (pv 6) pa_nil))))
      (pss_cons (ps_for PassesOwn.never rfl (q_piL (K := K) rfl (pe_slice (q_slL (K := K) rfl) (pv 1) po_none (po_some (pv 2)))) (pg_name (i := 5) sc_l_cut.nd rfl (.inl rfl)) (pss_one (ps_expr (pe_cal C_l_put (hr.mono (by first | decide | omega)) (by rfl) (pa_cons (pv 4) (pa_cons (pv 5) pa_nil))))))
      (pss_cons (ps_expr (pe_cal C_l_put (hr.mono (by first | decide | omega)) (by rfl) (pa_cons (pv 4) (pa_cons (pe_lc (own := [("_law_number", 7)]) (g := gName 7) (tt := tYes) (by rfl) sc_l_cut.nd (q_piL (K := K) rfl (pv 3)) (blkOk_by (own := [("_law_number", 7)]) (N := n_l_cut) (sc := defScope s_l_cut) (by decide +kernel)) (fun _ _ _ _ _ => (pg_name (i := 7) sc_l_cut.nd rfl (.inl rfl))) (fun _ _ _ _ _ => pts_nil) (fun _ _ _ _ _ => (pe_ix (q_ixL (K := K) rfl) (pe_ix (q_ixL (K := K) rfl) (pv 1) (pv 2) (fun _ _ => rfl)) (pv 7) (fun _ _ => rfl)))) pa_nil))))
      (pss_one (ps_ret (pv 4)))))), ?_⟩
    obtain ⟨v0, v1, hv0, hv1, hl0, hl1, hv⟩ := hL.ex
    have no : NTs [] H := fun z hz => by cases hz
    refine ⟨_, rfl, Lo, rfl, ⟨_, SqL.of hL.o⟩, fun Dl nDl => ?_⟩
    have nDl : H Dl = none := nDl
    refine lc_list (K := K) (a := Lo) (xs := [.ref l0, .ref l1]) (fun i H' => Ext tb [] H H' ∧ ((i = 0 ∧ H' Dl = some (.lst [])) ∨ (∃ m0, i = 1 ∧ H' Dl = some (.lst [.ref m0]) ∧ H' m0 = some (.lst v0) ∧ m0 ≠ Dl ∧ H m0 = none) ∨ (∃ m0 m1, i = 2 ∧ H' Dl = some (.lst [.ref m0, .ref m1]) ∧ H' m0 = some (.lst v0) ∧ H' m1 = some (.lst v1) ∧ m0 ≠ m1 ∧ m0 ≠ Dl ∧ m1 ≠ Dl ∧ H m0 = none ∧ H m1 = none))) ⟨Ext.new hT nDl, .inl ⟨rfl, upd_same⟩⟩ (fun i H' _ h => SqL.of (h.1.lst hT hL.o (by simp))) ?_ ?_
    · rintro i x H' hx ⟨e', hc⟩
      have hT' := e'.tabs hT
      rcases hc with ⟨rfl, hD⟩ | ⟨m0, rfl, hD, h0, n0, f0⟩ | ⟨m0, m1, rfl, _⟩
      · obtain rfl : V.ref l0 = x := Option.some.inj hx
        refine ⟨rfl, _, rfl, l0, v0, rfl, .inl (SqL.of (e'.lst hT hv0 (by simp))), fun p np => ?_⟩
        have pD : p ≠ Dl := fun z => by rw [z, hD] at np; cases np
        refine ⟨_, Eq.trans (upd_ne (Ne.symm pD)) hD, by show 0 < sizeLine; decide, Ext.own hT (e'.trans (Ext.new hT' np)) nDl, .inr (.inl ⟨p, rfl, upd_same, by rw [upd_ne pD, upd_same], pD, e'.free hT np (by simp)⟩)⟩
      · obtain rfl : V.ref l1 = x := Option.some.inj hx
        refine ⟨rfl, _, rfl, l1, v1, rfl, .inl (SqL.of (e'.lst hT hv1 (by simp))), fun p np => ?_⟩
        have pD : p ≠ Dl := fun z => by rw [z, hD] at np; cases np
        have p0 : m0 ≠ p := fun z => by rw [← z, h0] at np; cases np
        refine ⟨_, Eq.trans (upd_ne (Ne.symm pD)) hD, by show 1 < sizeLine; decide, Ext.own hT (e'.trans (Ext.new hT' np)) nDl, .inr (.inr ⟨m0, p, rfl, upd_same, by rw [upd_ne n0, upd_ne p0]; exact h0, by rw [upd_ne pD, upd_same], p0, n0, pD, f0, e'.free hT np (by simp)⟩)⟩
      · cases hx
    · rintro H3 ⟨e3, hc⟩
      rcases hc with ⟨z, _⟩ | ⟨m0, z, _⟩ | ⟨m0, m1, _, hD3, h0, h1, n01, n0, n1, f0, f1⟩
      · cases z
      · cases z
      have hT3 := e3.tabs hT
      have L3o := hL.ext e3 hT no (by simp) (by simp) (by simp)
      have L3 : Lc K H3 Dl m0 m1 m M := by
        refine ⟨hD3, ⟨v0, v1, h0, h1, hl0, hl1, fun s hs => ?_⟩, ⟨n01, Ne.symm n0, Ne.symm n1⟩, hL.g⟩
        obtain ⟨a, b, g1, g2, g3, g4⟩ := hv s hs
        exact ⟨a, b, g1, g2, Rp_ext e3 hT _ g3, Rp_ext e3 hT _ g4⟩
      have G3 := hG.ext hT e3 (by simp) (by simp)
      refine ⟨_, rfl, _, rfl, _, rfl, g, _, rfl, SqL.of G3.1, fun p np => ?_⟩
      rw [cut_to V.ref LS gi (by have := hG.2.1; omega)]
      have e34 : Ext tb [] H3 (upd H3 p (.lst ((LS.take gi).map V.ref))) := Ext.new hT3 np
      have hp4 : (upd H3 p (.lst ((LS.take gi).map V.ref))) p = some (.lst ((LS.take gi).map V.ref)) := upd_same
      have np0 : p ≠ m0 := fun z => by rw [z, h0] at np; cases np
      have np1 : p ≠ m1 := fun z => by rw [z, h1] at np; cases np
      generalize upd H3 p (.lst ((LS.take gi).map V.ref)) = H4 at e34 hp4 ⊢
      have e4 := e3.trans e34
      have hT4 := e4.tabs hT
      have no3 : NTs [] H3 := fun z hz => by cases hz
      have L4 := L3.ext e34 hT3 no3 (by simp) (by simp) (by simp)
      have G4 := hG.ext hT e4 (by simp) (by simp)
      have st4 : ∀ q ∈ ps, Rp K H4 q.1 (stepD q.2) := fun q hq => Rp_ext e4 hT _ (hps q hq)
      have hKp4 := e4.lst hT hKp (by simp)
      have nm : ∀ z xs, H z = some (.lst xs) → z ∉ [m0, m1] := fun z xs h w => by
        simp at w
        rcases w with rfl | rfl
        · rw [f0] at h; cases h
        · rw [f1] at h; cases h
      have nt4 := L4.nts
      refine ⟨p, rfl, ⟨_, SqL.of hp4⟩, for_list (K := K) (a := p) (xs := (LS.take gi).map V.ref) (fun j σ H' => ∃ (y5 y6 y7 : Option V), σ = [some (.ref Lo), some (.ref g), some (.int (gi : Nat)), some (.ref Kp), some (.ref Dl), y5, y6, y7] ∧ Ext tb [m0, m1] H4 H' ∧ Lc K H' Dl m0 m1 m (stepsM M (((G0 ps).take j).flatten.map (·.2)))) ⟨_, _, _, rfl, Ext.refl, L4⟩ (fun j σ H' _ h => by
        obtain ⟨_, _, _, _, e, _⟩ := h
        exact SqL.of (e.lst hT4 hp4 (by simp [np0, np1]))) ?_ ?_⟩
      · rintro j v σ H' hv ⟨y5, y6, y7, rfl, e', L'⟩
        rw [List.getElem?_map] at hv
        obtain ⟨l, hl', rfl⟩ := Option.map_eq_some_iff.mp hv
        have hjg : j < gi := by
          have := (List.getElem?_eq_some_iff.mp hl').1
          rw [List.length_take] at this
          omega
        rw [List.getElem?_take_of_lt hjg] at hl'
        have hgj : (G0 ps)[j]? = some (grAt ps j) := grAt_some (by omega)
        have mm := List.mem_of_getElem? hgj
        have nl := nm l _ (hG.2.2 j l _ hl' hgj)
        have hlj := e'.lst hT4 (G4.2.2 j l _ hl' hgj) nl
        simp at nl
        refine ⟨_, rfl, _, rfl, Dl, m0, m1, l, _, _, grAt ps j, rfl, L', hlj, nl.1, nl.2, rp_all fun q hq => fz_ext nt4 e' hT4 _ (fz_step _) (st4 q (G0_mem mm hq).1), fun q hq => hput q (G0_mem mm hq).1 (G0_mem mm hq).2, e'.tabs hT4, fun H5 e5 L5 => ?_⟩
        refine ⟨_, _, _, rfl, e'.trans e5, ?_⟩
        rw [flat_snoc hgj, stepsM_app]
        exact L5
      · rintro σ H' ⟨y5, y6, y7, rfl, e', L'⟩
        have lenT : ((LS.take gi).map V.ref).length = gi := by
          rw [List.length_map, List.length_take]
          have := hG.2.1
          omega
        rw [lenT] at L'
        have hT' := e'.tabs hT4
        have hgi' := grAt_some hgi
        have mm := List.mem_of_getElem? hgi'
        obtain ⟨l, hl'⟩ : ∃ l, LS[gi]? = some l := ⟨_, List.getElem?_eq_getElem (show gi < LS.length by have := hG.2.1; omega)⟩
        have hlj := e'.lst hT4 (G4.2.2 gi l _ hl' hgi') (nm l _ (hG.2.2 gi l _ hl' hgi'))
        have hg' := e'.lst hT4 G4.1 (nm g _ hG.1)
        have hKp' := e'.lst hT4 hKp4 (nm Kp _ hKp)
        refine ⟨_, rfl, _, rfl, Kp, rfl, ⟨_, SqL.of hKp'⟩, fun Pl nPl => ?_⟩
        have nPl : H' Pl = none := nPl
        have ne1 : g ≠ Pl := fun z => by rw [← z, hg'] at nPl; cases nPl
        have ne2 : l ≠ Pl := fun z => by rw [← z, hlj] at nPl; cases nPl
        have ne3 : Kp ≠ Pl := fun z => by rw [← z, hKp'] at nPl; cases nPl
        refine lc_list (K := K) (a := Kp) (xs := ks.map V.int) (fun i H5 => H5 = upd H' Pl (.lst ((pickG (grAt ps gi) (ks.take i)).map (·.1)))) rfl (fun i H5 _ h => by rw [h]; exact SqL.of (by rw [upd_ne ne3]; exact hKp')) ?_ ?_
        · rintro i v H5 hv rfl
          rw [List.getElem?_map] at hv
          obtain ⟨k, hk, rfl⟩ := Option.map_eq_some_iff.mp hv
          have hkr := hks k (List.mem_of_getElem? hk)
          have hkl' : k.toNat < (grAt ps gi).length := by omega
          obtain ⟨qv, hqv⟩ : ∃ qv, (grAt ps gi)[k.toNat]? = some qv := ⟨_, List.getElem?_eq_getElem hkl'⟩
          refine ⟨rfl, _, rfl, _, rfl, g, _, _, .ref l, rfl, rfl, SqL.of (by rw [upd_ne ne1]; exact hg'), atI_nat (j := gi) (by rw [List.getElem?_map, hl'] <;> rfl), _, rfl, l, _, k, qv.1, rfl, rfl, SqL.of (by rw [upd_ne ne2]; exact hlj), at_of (j := k.toNat) (by omega) (by rw [List.getElem?_map, hqv] <;> rfl), _, upd_same, line_lt (by rw [List.length_map]; have := pick_len (grAt ps gi) (ks.take i); rw [List.length_take] at this; omega), ?_⟩
          rw [upd_upd, pick_snoc hk hqv, List.map_append]
          rfl
        · rintro H5 rfl
          rw [List.length_map, List.take_length]
          have e5 : Ext tb [] H' (upd H' Pl (.lst ((pickG (grAt ps gi) ks).map (·.1)))) := Ext.new hT' nPl
          have no' : NTs [] H' := fun z hz => by cases hz
          obtain ⟨w0, w1, hw0, hw1, _⟩ := L'.ex
          have nP0 : Pl ≠ m0 := fun z => by rw [z, hw0] at nPl; cases nPl
          have nP1 : Pl ≠ m1 := fun z => by rw [z, hw1] at nPl; cases nPl
          refine ⟨Dl, m0, m1, Pl, _, _, pickG (grAt ps gi) ks, rfl, L'.ext e5 hT' no' (by simp) (by simp) (by simp), upd_same, nP0, nP1, rp_all fun q hq => Rp_ext e5 hT' _ (fz_ext nt4 e' hT4 _ (fz_step _) (st4 q (G0_mem mm (pick_mem hq)).1)), fun q hq => hput q (G0_mem mm (pick_mem hq)).1 (G0_mem mm (pick_mem hq)).2, e5.tabs hT', fun H6 e6 L6 => ?_⟩
          refine ⟨_, rfl, q Dl m0 m1 H6 (shrinkE (((e4.of0).trans e').trans (e5.of0.trans e6)) fun z hz => ?_) ?_⟩
          · simp at hz
            rcases hz with rfl | rfl
            · exact .inr f0
            · exact .inr f1
          · unfold cutL
            rw [List.map_append, stepsM_app]
            exact L6

end
end K22

set_option Elab.async false
set_option linter.all false
set_option maxRecDepth 100000
set_option maxHeartbeats 1000000
namespace K22
open PySem PySem.Spec PyProof.Rows L2 HK DT DW
section
variable {P : Program} {w : World} {K : PySem.W.Frag} {mg : Str → Option Value} {base : Heap} {f : Addr} {cd : Value}
/-! ### the law -/
structure Lv (tb : List Addr) (d : Addr) (H : Hp) : Prop where
  t : Tabs tb H
  r : ∃ ds : List Int, Dr ds ∧ H d = some (.lst (ds.map V.int))
theorem Lv.ext0 {tb : List Addr} {d : Addr} {H H' : Hp} (l : Lv tb d H) (e : Ext tb [] H H') : Lv tb d H' := by
  obtain ⟨t, ds, h1, h2⟩ := l
  exact ⟨e.tabs t, ds, h1, e.lst t h2 (by simp)⟩
structure Wc (K : PySem.W.Frag) (C : Addr) (tb : List Addr) (H : Hp) (d x dx c Lo l0 l1 Ls g : Addr) (LS : List Addr) (n : Int) (M : Int → Int → PyData) (ps : List (V × Sp1)) : Prop where
  lv : Lv tb d H
  D : Dk K C H x dx c n M 24
  L : Lc K H Lo l0 l1 (n + 4).toNat M
  ls : H Ls = some (.lst (ps.map (·.1)))
  G : Gs H g ps LS
  st : ∀ q ∈ ps, Rp K H q.1 (stepD q.2)
  nd : d ≠ c ∧ d ≠ Lo ∧ d ≠ l0 ∧ d ≠ l1 ∧ d ≠ Ls ∧ d ≠ g ∧ d ∉ LS
section
variable {C : Addr} {tb : List Addr} {H H' : Hp} {d x dx c Lo l0 l1 Ls g : Addr} {LS : List Addr} {n : Int} {M : Int → Int → PyData} {ps : List (V × Sp1)}
theorem Wc.ext (W : Wc K C tb H d x dx c Lo l0 l1 Ls g LS n M ps) (e : Ext tb [d] H H') (l : Lv tb d H') : Wc K C tb H' d x dx c Lo l0 l1 Ls g LS n M ps := by
  obtain ⟨⟨t, ds, hr, hd⟩, D, L, ls, G, st, nd⟩ := W
  have nt : NTs [d] H := fun z hz => by
    rw [List.mem_singleton.mp hz]
    exact .inl ⟨_, hd⟩
  obtain ⟨n1, n2, n3, n4, n5, n6, n7⟩ := nd
  exact ⟨l, D.ext e t nt (by simp [Ne.symm n1]), L.ext e t nt (by simp [Ne.symm n2]) (by simp [Ne.symm n3]) (by simp [Ne.symm n4]), e.lst t ls (by simp [Ne.symm n5]), G.ext t e (by simp [Ne.symm n6]) (fun z hz w => n7 (by rw [← List.mem_singleton.mp w]; exact hz)), fun q hq => fz_ext nt e t _ (fz_step _) (st q hq), ⟨n1, n2, n3, n4, n5, n6, n7⟩⟩
theorem Wc.ext0 (W : Wc K C tb H d x dx c Lo l0 l1 Ls g LS n M ps) (e : Ext tb [] H H') : Wc K C tb H' d x dx c Lo l0 l1 Ls g LS n M ps := W.ext e.of0 (W.lv.ext0 e)
end
theorem okSt_of {n : Int} {st : Sp1} (h : okS n st) : okSt st := by
  cases st with
  | none => exact True.intro
  | some st =>
    obtain ⟨i, s, ns⟩ := st
    obtain ⟨_, _, _, _, h5⟩ := (show 0 ≤ i ∧ i < 2 ∧ 0 ≤ s ∧ s < n ∧ ns.length ≤ 4 from h)
    show ns.length ≤ 100
    omega
theorem isPut_of {n : Int} {st : Sp1} (h : okS n st) (hl : isLine st = false) : isPut n.toNat st := by
  cases st with
  | none => cases hl
  | some st =>
    obtain ⟨i, s, ns⟩ := st
    obtain ⟨h1, h2, h3, h4, h5⟩ := (show 0 ≤ i ∧ i < 2 ∧ 0 ≤ s ∧ s < n ∧ ns.length ≤ 4 from h)
    exact ⟨h1, h2, h3, by omega, h5⟩
def hdD (ps : List (V × Sp1)) (ks : List Int) : PyData := .list [grD ps, .list (ks.map PyData.int)]
theorem hdD_can (ps : List (V × Sp1)) (ks : List Int) : PyData.canLay0 (hdD ps ks) = true := by
  show (PyData.canLay0 (grD ps) && (PyData.canLayAll0 (ks.map PyData.int) && true)) = true
  rw [grD_can, canAll_ints] <;> rfl
theorem hdD_sh (ps : List (V × Sp1)) (ks : List Int) : SeqAt.shaped (hdD ps ks) = true := by
  have : PyData.depth (hdD ps ks) ≤ 64 := by
    show max (PyData.depth (grD ps)) (max (PyData.depthAll (ks.map PyData.int) + 1) 0) + 1 ≤ 64
    rw [depAll_ints]
    have := grD_dep ps
    omega
  unfold SeqAt.shaped
  rw [hdD_can, decide_eq_true this] <;> rfl
theorem hd_dp {H : Hp} {t p1 p2 : Addr} {ps : List (V × Sp1)} {ks : List Int} (h : H t = some (.lst [.ref p1, .ref p2])) (h1 : H p1 = some (.lst (ps.map (·.1)))) (h2 : H p2 = some (.lst (ks.map V.int))) (st : ∀ q ∈ ps, Rp K H q.1 (stepD q.2)) : Dp K H (.ref t) (hdD ps ks) :=
  .lst (SqL.of h) (.cons (dp_gr h1 st) (.cons (.lst (SqL.of h2) (dp_of (Rp_ints ks))) .nil))
theorem pick_take (gr : List (V × Sp1)) : ∀ n : Nat, pickG gr ((List.range n).map fun i : Nat => (i : Int)) = gr.take n
  | 0 => rfl
  | n + 1 => by
    have ih := pick_take gr n
    unfold pickG at ih ⊢
    rw [List.range_succ, List.map_append, List.filterMap_append, ih, List.take_add_one]
    cases h : gr[n]? <;> simp [h]
theorem cut_all {ps : List (V × Sp1)} {M : Int → Int → PyData} {gi : Nat} (h : gi + 1 = (G0 ps).length) : stepsM M ((cutL ps gi ((List.range (grAt ps gi).length).map fun i : Nat => (i : Int))).map (·.2)) = stepsM M (ps.map (·.2)) := by
  have e := flat_snoc (grAt_some (show gi < (G0 ps).length by omega))
  unfold cutL
  rw [pick_take, List.take_length, List.map_append, ← e, h, List.take_length, G0_flat, stepsM_filter]
structure DiskT (P : Program) (w : World) (K : PySem.W.Frag) (mg : Str → Option Value) (base : Heap) (tb : List Addr) (C fW fC : Addr) (fdW fdC : FuncData) (fT : Addr) (fdT : FuncData) : Prop extends DiskM P w K mg base tb C fW fC fdW fdC where
  m_twin : Meth K C "twin" fT
  ok_twin : FnOk P w K mg base CX0 3 fT fdT ["self"] (spTwin K C tb)
  b_twin : Binds K fdT ["self"] []
theorem DiskT.cl {tb : List Addr} {C fW fC fT : Addr} {fdW fdC fdT : FuncData} (D : DiskT P w K mg base tb C fW fC fdW fdC fT fdT) : Cls K C := D.ce.cl
theorem no_twin (n : Int) (c : Addr) : (pf n c).lookup ("twin" : Str) = none := pf_no n c (by decide +kernel) (by decide +kernel)
def spLaw (K : PySem.W.Frag) (tb : List Addr) : Sp := fun vs H Q _ => ∃ (a : Addr) (ns : List Int), vs = [.ref a] ∧ SqL K H a (ns.map V.int) ∧ ns.length ≤ 63 ∧ Tabs tb H ∧ ∀ H', Q (.bl true) H'
theorem ok_law {tb : List Addr} {C fW fC fT : Addr} {fdW fdC fdT : FuncData} (T : Txt K mg) (D : DiskT P w K mg base tb C fW fC fdW fdC fT fdT) (C_l_draws : CalE P w K mg base CX0 2 "_law_draws" (spDraws K tb)) (C_l_next : CalE P w K mg base CX0 1 "_law_next" (spNext tb)) (C_l_filled : CalE P w K mg base CX0 4 "_law_filled" (spFilled K C tb)) (C_l_steps : CalE P w K mg base CX0 3 "_law_steps" (spSteps K tb)) (C_l_groups : CalE P w K mg base CX0 1 "_law_groups" (spGroups K tb)) (C_l_kept : CalE P w K mg base CX0 2 "_law_kept" (spKept tb)) (C_cut_steps : CalE P w K mg base CX0 5 "cut_steps" (spCut K C tb)) (C_do_steps : CalE P w K mg base CX0 4 "do_steps" (spDo K C tb)) (C_l_cut : CalE P w K mg base CX0 3 "_law_cut" (spLCut K tb)) (C_l_has : CalE P w K mg base CX0 11 "_law_has" (spHas K C tb)) : FnG P w K mg base CX0 12 "law" s_law ["_law_script"] f cd (spLaw K tb) := by
  refine law_of sc_law (fun vs H Q E h => ?_) (fun A outer s H vs Q E hr h => ?_)
  · obtain ⟨a, ns, rfl, _⟩ := h
    rfl
  · obtain ⟨a, ns0, rfl, hS, hl, hT, q⟩ := h
    refine ⟨_, (pss_cons (ps_set (i := 1) sc_law.nd rfl (.inl rfl) (pe_cal C_l_draws (hr.mono (by first | decide | omega)) (by rfl) (pa_cons (pv 0) pa_nil)))
      (pss_cons (ps_set (i := 2) sc_law.nd rfl (.inl rfl) (C8.pe_mk D.new hr (by decide) (by rfl) (pa_cons (pe_op op_add pe_int (pe_op op_mod (pe_cal C_l_next (hr.mono (by first | decide | omega)) (by rfl) (pa_cons (pv 1) pa_nil)) pe_int)) pa_nil)))
      (pss_cons (ps_set (i := 3) sc_law.nd rfl (.inl rfl) (pe_cal C_l_filled (hr.mono (by first | decide | omega)) (by rfl) (pa_cons (pv 2) (pa_cons (pv 1) pa_nil))))
      (pss_cons (ps_set (i := 4) sc_law.nd rfl (.inl rfl) (pe_cal C_l_steps (hr.mono (by first | decide | omega)) (by rfl) (pa_cons (pv 1) (pa_cons (pe_op op_add (pe_fld (pv 2) rfl) pe_int) pa_nil))))
      (pss_cons (ps_set (i := 5) sc_law.nd rfl (.inl rfl) (pe_cal C_l_groups (hr.mono (by first | decide | omega)) (by rfl) (pa_cons (pv 4) pa_nil)))
      (pss_cons (ps_for PassesOwn.never rfl (pi_range1 (by rfl) T.b_range (pa_cons pe_int pa_nil)) (pg_name (i := 6) sc_law.nd rfl (.inl rfl)) (pss_cons (ps_set (i := 7) sc_law.nd rfl (.inl rfl) (pe_op op_mod (pe_cal C_l_next (hr.mono (by first | decide | omega)) (by rfl) (pa_cons (pv 1) pa_nil)) (pe_callB (q_len (K := K) rfl) (by rfl) T.b_len PySem.boot_len (pa_cons (pv 5) pa_nil))))
      (pss_cons (ps_set (i := 8) sc_law.nd rfl (.inl rfl) (pe_cal C_l_kept (hr.mono (by first | decide | omega)) (by rfl) (pa_cons (pv 1) (pa_cons (pe_callB (q_len (K := K) rfl) (by rfl) T.b_len PySem.boot_len (pa_cons (pe_ix (q_ixL (K := K) rfl) (pv 5) (pv 7) (fun _ _ => rfl)) pa_nil)) pa_nil))))
      (pss_cons (ps_set (i := 9) sc_law.nd rfl (.inl rfl) (pe_lst (pa_cons (pe_callTy (q_lst (K := K) rfl) (by rfl) T.b_list (by decide +kernel) (pa_cons (pv 4) pa_nil)) (pa_cons (pe_callTy (q_lst (K := K) rfl) (by rfl) T.b_list (by decide +kernel) (pa_cons (pv 8) pa_nil)) pa_nil))))
      (pss_cons (ps_set (i := 10) sc_law.nd rfl (.inl rfl) (pe_meth0 (pv 2) D.cl D.m_twin D.ok_twin (hr.mono (by first | decide | omega)) D.b_twin .nil pass0))
      (pss_cons (ps_expr (pe_cal C_cut_steps (hr.mono (by first | decide | omega)) (by rfl) (pa_cons (pv 10) (pa_cons (pe_ix (q_ixL (K := K) rfl) (pv 9) pe_int (fun _ _ => rfl)) (pa_cons (pv 7) (pa_cons (pe_ix (q_ixL (K := K) rfl) (pv 9) pe_int (fun _ _ => rfl)) pa_nil))))))
      (pss_one (ps_if (PW.pt (pw_or (pt_cmpR (q_neD (K := K) rfl hr.units) (pv 9) (pe_lst (pa_cons (pv 4) (pa_cons (pv 8) pa_nil))) (nomark _)) (pw_or1 (pt_not (pt_val (pe_cal C_l_has (hr.mono (by first | decide | omega)) (by rfl) (pa_cons (pv 10) (pa_cons (pe_cal C_l_cut (hr.mono (by first | decide | omega)) (by rfl) (pa_cons (pv 3) (pa_cons (pv 5) (pa_cons (pv 7) (pa_cons (pv 8) pa_nil))))) pa_nil)))))))) (pss_one (ps_ret pe_bl)) pss_nil))))))))
      (pss_cons (ps_set (i := 11) sc_law.nd rfl (.inl rfl) (pe_op op_sub (pe_callB (q_len (K := K) rfl) (by rfl) T.b_len PySem.boot_len (pa_cons (pv 5) pa_nil)) pe_int))
      (pss_cons (ps_set (i := 12) sc_law.nd rfl (.inl rfl) (pe_meth0 (pv 2) D.cl D.m_twin D.ok_twin (hr.mono (by first | decide | omega)) D.b_twin .nil pass0))
      (pss_cons (ps_set (i := 13) sc_law.nd rfl (.inl rfl) (pe_meth0 (pv 2) D.cl D.m_twin D.ok_twin (hr.mono (by first | decide | omega)) D.b_twin .nil pass0))
      (pss_cons (ps_expr (pe_cal C_cut_steps (hr.mono (by first | decide | omega)) (by rfl) (pa_cons (pv 12) (pa_cons (pv 4) (pa_cons (pv 11) (pa_cons (pe_listRg (by rfl) (by rfl) T.b_list (prg_1 (by rfl) T.b_range (pe_callB (q_len (K := K) rfl) (by rfl) T.b_len PySem.boot_len (pa_cons (pe_ix (q_ixL (K := K) rfl) (pv 5) (pv 11) (fun _ _ => rfl)) pa_nil)))) pa_nil))))))
      (pss_cons (ps_expr (pe_cal C_do_steps (hr.mono (by first | decide | omega)) (by rfl) (pa_cons (pv 13) (pa_cons (pv 4) pa_nil))))
      (pss_cons (ps_set (i := 14) sc_law.nd rfl (.inl rfl) (pe_cal C_l_cut (hr.mono (by first | decide | omega)) (by rfl) (pa_cons (pv 3) (pa_cons (pv 5) (pa_cons (pv 11) (pa_cons (pe_listRg (by rfl) (by rfl) T.b_list (prg_1 (by rfl) T.b_range (pe_callB (q_len (K := K) rfl) (by rfl) T.b_len PySem.boot_len (pa_cons (pe_ix (q_ixL (K := K) rfl) (pv 5) (pv 11) (fun _ _ => rfl)) pa_nil)))) pa_nil))))))
      (pss_one (ps_ret (pe_and (pe_cal C_l_has (hr.mono (by first | decide | omega)) (by rfl) (pa_cons (pv 12) (pa_cons (pv 14) pa_nil))) (pe_and (pe_cal C_l_has (hr.mono (by first | decide | omega)) (by rfl) (pa_cons (pv 13) (pa_cons (pv 14) pa_nil))) (pe_one (pe_cal C_l_has (hr.mono (by first | decide | omega)) (by rfl) (pa_cons (pv 2) (pa_cons (pv 3) pa_nil)))))))))))))))))))), ?_⟩
    refine ⟨_, rfl, a, ns0, rfl, hS, hl, hT, fun H1 d ds ex1 nd hD hd1 => ?_⟩
    have hT1 := ex1.tabs hT
    refine ⟨_, rfl, d, ds, rfl, hd1, hD, hT1, fun x1 r1 H3 hx1 hD3 ex3 hd3 => ?_⟩
    have hT3 := ex3.tabs hT1
    have b5 := mod_rg x1 5 (by decide)
    refine ⟨_, _, rfl, rfl, (by show (0:Int) < 5; decide), _, _, rfl, rfl, fun x dx nx ndx nxd => ?_⟩
    have e3a : Ext tb [] H3 (upd (upd H3 dx (.own x)) x (.ins C dx [])) := (Ext.new hT3 ndx).trans (Ext.new ((Ext.new (ch := []) hT3 ndx).tabs hT3) (by rw [upd_ne (Ne.symm nxd)]; exact nx))
    refine ⟨x, dx, 8 + x1 % 5, rfl, upd_same, e3a.tabs hT3, fun c H4 nc e4 hx4 hc4 => ⟨rfl, ?_⟩⟩
    have E4 : Ext tb [] H3 H4 := shrinkE ((e3a.of0 : Ext tb [x] _ _).trans e4) fun z hz => by
      rw [List.mem_singleton.mp hz]
      exact .inr nx
    have hT4 := E4.tabs hT3
    have hd4 := E4.lst hT3 hd3 (by simp)
    have hn0 : 8 ≤ 8 + x1 % 5 := by omega
    have hn1 : 8 + x1 % 5 ≤ 12 := by omega
    generalize 8 + x1 % 5 = n at hn0 hn1 hx4 ⊢
    have D4 : Dk K C H4 x dx c n M0 0 := ⟨hx4, ⟨[], hc4, Nat.le_refl _, fun i s => .non⟩, fun _ _ => .inl rfl⟩
    refine ⟨_, rfl, _, rfl, x, dx, c, d, r1, n, rfl, by omega, by omega, D4, hd4, hD3, hT4, fun Lo l0 l1 M es H5 e5 z1 z2 z3 hes hd5 D5 L5 => ?_⟩
    have hT5 := e5.tabs hT4
    have fre : ∀ z, H4 z = none → d ≠ z := fun z h w => by rw [← w, hd4] at h; cases h
    have ndc : d ≠ c := fun z => by rw [z, hc4] at hd4; cases hd4
    refine ⟨_, rfl, _, rfl, x, C, dx, _, _, rfl, D5.ins, D.ce.cl, D.ce.nP, pf_places _ _, _, _, rfl, rfl, d, es, n + 4, rfl, by omega, hd5, hes, hT5, fun Ls ps fs H6 e6 nLs hfs hd6 hLs6 hps6 hl6 hok6 => ?_⟩
    have hT6 := e6.tabs hT5
    have ndLs : d ≠ Ls := fun z => by rw [← z, hd5] at nLs; cases nLs
    refine ⟨_, rfl, Ls, ps, rfl, SqL.of hLs6, hps6, by omega, hT6, fun g H7 G7 => ?_⟩
    obtain ⟨LS, G7s, hfr⟩ := G7.gs
    have nt5 : NTs [d] H5 := fun z hz => by
      rw [List.mem_singleton.mp hz]
      exact .inl ⟨_, hd5⟩
    have D6 := D5.ext e6 hT5 nt5 (by simp [Ne.symm ndc])
    have L6 := L5.ext e6 hT5 nt5 (by simp [Ne.symm (fre _ z1)]) (by simp [Ne.symm (fre _ z2)]) (by simp [Ne.symm (fre _ z3)])
    have no6 : NTs [] H6 := fun z hz => by cases hz
    have W7 : Wc K C tb H7 d x dx c Lo l0 l1 Ls g LS n M ps := by
      refine ⟨⟨G7.e.tabs hT6, fs, hfs, G7.e.lst hT6 hd6 (by simp)⟩, D6.ext G7.e hT6 no6 (by simp), L6.ext G7.e hT6 no6 (by simp) (by simp) (by simp), G7.e.lst hT6 hLs6 (by simp), G7s, fun q hq => Rp_ext G7.e hT6 _ (rp_mem hps6 q hq), ndc, fre _ z1, fre _ z2, fre _ z3, ndLs, fun z => ?_, fun z => ?_⟩
      · have := G7.g0
        rw [← z, hd6] at this
        cases this
      · have := hfr d z
        rw [hd6] at this
        cases this
    clear e6 hT6 D5 L5 hd5 hes z1 z2 z3 e5 hT5 D4 hd4 hT4 E4 hc4 hx4 e4 nc e3a fre no6 L6 D6 nt5 hps6 hLs6 hd6 hfs G7s
    have hG0 := G0_len ps
    have hLSl := W7.G.2.1
    have hput : ∀ q ∈ ps, isLine q.2 = false → isPut (n + 4).toNat q.2 := fun q hq hl => isPut_of (hok6 q hq) hl
    refine ⟨_, rfl, by decide, by decide, for_range (lo := 0) (n := (3 : Int).toNat) (fun i σ H' => ∃ (y6 y7 y8 y9 y10 y11 y12 y13 y14 : Option V), σ = [some (.ref a), some (.ref d), some (.ref x), some (.ref Lo), some (.ref Ls), some (.ref g), y6, y7, y8, y9, y10, y11, y12, y13, y14] ∧ Wc K C tb H' d x dx c Lo l0 l1 Ls g LS n M ps) ⟨_, _, _, _, _, _, _, _, _, rfl, W7⟩ ?_ ?_⟩
    · rintro i σ H' hi ⟨y6, y7, y8, y9, y10, y11, y12, y13, y14, rfl, W⟩
      obtain ⟨r, hr', hd'⟩ := W.lv.r
      refine ⟨_, rfl, d, r, rfl, hd', hr', W.lv.t, fun x2 r2 H8 hx2 hD8 e8 hd8 => ?_⟩
      have W8 := W.ext e8 ⟨e8.tabs W.lv.t, r2, hD8, hd8⟩
      have hpos : (0:Int) < ((LS.map V.ref).length : Nat) := by rw [List.length_map]; omega
      refine ⟨_, rfl, _, _, rfl, .inl ⟨_, SqL.of W8.G.1, rfl⟩, _, _, rfl, rfl, hpos, ?_⟩
      have bg := mod_rg x2 ((LS.map V.ref).length : Nat) hpos
      obtain ⟨gi, hgi⟩ : ∃ gi : Nat, x2 % (((LS.map V.ref).length : Nat) : Int) = (gi : Int) := ⟨(x2 % (((LS.map V.ref).length : Nat) : Int)).toNat, by omega⟩
      dsimp only
      rw [hgi] at bg ⊢
      rw [List.length_map] at bg
      have hgl : gi < (G0 ps).length := by omega
      have hga := grAt_some hgl
      obtain ⟨l, hl'⟩ : ∃ l, LS[gi]? = some l := ⟨_, List.getElem?_eq_getElem (show gi < LS.length by omega)⟩
      have hlg := W8.G.2.2 gi l _ hl' hga
      have glen := G0_gr (List.mem_of_getElem? hga)
      refine ⟨_, rfl, _, rfl, _, rfl, g, _, _, .ref l, rfl, rfl, SqL.of W8.G.1, atI_nat (j := gi) (by rw [List.getElem?_map, hl'] <;> rfl), _, _, rfl, .inl ⟨_, SqL.of hlg, rfl⟩, d, r2, ((grAt ps gi).map (·.1)).length, rfl, by rw [List.length_map]; omega, hd8, hD8, W8.lv.t, fun Kp ks es H9 e9 nKp hes hd9 hKp9 hkl hkr => ?_⟩
      rw [List.length_map] at hkr
      have W9 := W8.ext e9 ⟨e9.tabs W8.lv.t, es, hes, hd9⟩
      refine ⟨_, rfl, Ls, _, rfl, .inl (SqL.of W9.ls), fun p1 n1 => ?_⟩
      have e10 : Ext tb [] H9 (upd H9 p1 (.lst (ps.map (·.1)))) := Ext.new W9.lv.t n1
      have hp10 : (upd H9 p1 (.lst (ps.map (·.1)))) p1 = some (.lst (ps.map (·.1))) := upd_same
      generalize upd H9 p1 (.lst (ps.map (·.1))) = H10 at e10 hp10 ⊢
      have W10 := W9.ext0 e10
      have hKp10 := e10.lst W9.lv.t hKp9 (by simp)
      refine ⟨_, rfl, Kp, _, rfl, .inl (SqL.of hKp10), fun p2 n2 => ?_⟩
      have e11 : Ext tb [] H10 (upd H10 p2 (.lst (ks.map V.int))) := Ext.new W10.lv.t n2
      have hp11 : (upd H10 p2 (.lst (ks.map V.int))) p2 = some (.lst (ks.map V.int)) := upd_same
      generalize upd H10 p2 (.lst (ks.map V.int)) = H11 at e11 hp11 ⊢
      have W11 := W10.ext0 e11
      refine ⟨by show 2 ≤ sizeLine; decide, fun Hd nHd => ?_⟩
      have e12 : Ext tb [] H11 (upd H11 Hd (.lst [.ref p1, .ref p2])) := Ext.new W11.lv.t nHd
      have hHd : (upd H11 Hd (.lst [.ref p1, .ref p2])) Hd = some (.lst [.ref p1, .ref p2]) := upd_same
      have hp1 := e12.lst W11.lv.t (e11.lst W10.lv.t hp10 (by simp)) (by simp)
      have hp2 := e12.lst W11.lv.t hp11 (by simp)
      have hKp12 := e12.lst W11.lv.t (e11.lst W10.lv.t hKp10 (by simp)) (by simp)
      generalize upd H11 Hd (.lst [.ref p1, .ref p2]) = H12 at e12 hHd hp1 hp2 hKp12 ⊢
      have W12 := W11.ext0 e12
      clear hp11 hp10 W10 W11 W9 W8 e10 e11 e12 hKp10 hKp9 hlg
      refine ⟨_, rfl, x, dx, _, rfl, W12.D.ins, no_twin _ _, x, dx, c, n, M, 24, rfl, W12.D, by omega, W12.lv.t, fun x' dx' c' H13 nx' nc' e13 D13 => ?_⟩
      have W13 := W12.ext0 e13
      have hT12 := W12.lv.t
      have hHd13 := e13.lst hT12 hHd (by simp)
      have hp113 := e13.lst hT12 hp1 (by simp)
      have hp213 := e13.lst hT12 hp2 (by simp)
      refine ⟨_, rfl, _, rfl, Hd, _, _, .ref p1, rfl, rfl, SqL.of hHd13, atI_nat (j := 0) rfl, _, rfl, _, rfl, Hd, _, _, .ref p2, rfl, rfl, SqL.of hHd13, atI_nat (j := 1) rfl, x', dx', c', p1, p2, n, M, 24, ps, gi, ks, rfl, D13, by omega, hl6, hkl, hp113, W13.st, fun q hq => okSt_of (hok6 q hq), hp213, hgl, hkr, W13.lv.t, fun H14 e14 D14 => ?_⟩
      have e1214 : Ext tb [] H12 H14 := shrinkE ((e13.of0 : Ext tb [c'] _ _).trans e14) fun z hz => by
        rw [List.mem_singleton.mp hz]
        exact .inr nc'
      have W14 := W12.ext0 e1214
      have hT14 := W14.lv.t
      refine ⟨_, rfl, _, rfl, _, rfl, by show 2 ≤ sizeLine; decide, fun t nt => ?_⟩
      have e15 : Ext tb [] H14 (upd H14 t (.lst [.ref Ls, .ref Kp])) := Ext.new hT14 nt
      have e1215 := e1214.trans e15
      have W15 := W12.ext0 e1215
      have no14 : NTs [] H14 := fun z hz => by cases hz
      have D15 := D14.ext e15 hT14 no14 (by simp)
      have ht15 : (upd H14 t (.lst [.ref Ls, .ref Kp])) t = some (.lst [.ref Ls, .ref Kp]) := upd_same
      generalize upd H14 t (.lst [.ref Ls, .ref Kp]) = H15 at e15 e1215 W15 D15 ht15 ⊢
      have hKp15 := e1215.lst hT12 hKp12 (by simp)
      refine ⟨hdD ps ks, hdD ps ks, hd_dp (e1215.lst hT12 hHd (by simp)) (e1215.lst hT12 hp1 (by simp)) (e1215.lst hT12 hp2 (by simp)) W15.st, hd_dp ht15 W15.ls hKp15 W15.st, hdD_sh ps ks, hdD_sh ps ks, _, rfl, ?_⟩
      rw [SeqAt.eqv_refl _ (hdD_can ps ks)]
      refine iteF ?_
      refine ⟨_, rfl, _, rfl, _, rfl, _, rfl, _, rfl, Lo, l0, l1, g, Kp, _, M, ps, gi, ks, LS, rfl, W15.L, W15.G, hKp15, hkl, hl6, hgl, hkr, W15.st, hput, W15.lv.t, fun Lo' l0' l1' H16 e16 L16 => ?_⟩
      have no15 : NTs [] H15 := fun z hz => by cases hz
      have W16 := W15.ext0 e16
      refine ⟨x', dx', c', Lo', l0', l1', n, _, _, _, rfl, D15.ext e16 W15.lv.t no15 (by simp), L16, by omega, W16.lv.t, fun H17 e17 => ⟨true, rfl, iteF ?_⟩⟩
      exact ⟨_, _, _, _, _, _, _, _, _, rfl, W16.ext0 e17⟩
    · rintro σ H' ⟨y6, y7, y8, y9, y10, y11, y12, y13, y14, rfl, W⟩
      refine ⟨_, rfl, _, _, rfl, .inl ⟨_, SqL.of W.G.1, rfl⟩, _, _, rfl, rfl, ?_⟩
      obtain ⟨gi, hgi⟩ : ∃ gi : Nat, gi + 1 = LS.length := ⟨LS.length - 1, by omega⟩
      have eg : (((LS.map V.ref).length : Nat) : Int) - 1 = (gi : Int) := by rw [List.length_map]; omega
      dsimp only
      rw [eg]
      have hgl : gi < (G0 ps).length := by omega
      have hga := grAt_some hgl
      obtain ⟨l, hl'⟩ : ∃ l, LS[gi]? = some l := ⟨_, List.getElem?_eq_getElem (show gi < LS.length by omega)⟩
      have glen := G0_gr (List.mem_of_getElem? hga)
      have hrr : ∀ k ∈ (List.range (grAt ps gi).length).map (fun i : Nat => (i : Int)), 0 ≤ k ∧ k < (grAt ps gi).length := fun k hk => by
        simp at hk
        obtain ⟨j, hj, rfl⟩ := hk
        omega
      have hrl : ((List.range (grAt ps gi).length).map (fun i : Nat => (i : Int))).length ≤ 24 := by
        simp
        omega
      refine ⟨_, rfl, x, dx, _, rfl, W.D.ins, no_twin _ _, x, dx, c, n, M, 24, rfl, W.D, by omega, W.lv.t, fun xa da ca H8 nxa nca e8 D8 => ?_⟩
      have W8 := W.ext0 e8
      refine ⟨_, rfl, x, dx, _, rfl, W8.D.ins, no_twin _ _, x, dx, c, n, M, 24, rfl, W8.D, by omega, W8.lv.t, fun xb db cb H9 nxb ncb e9 D9 => ?_⟩
      have W9 := W8.ext0 e9
      have no8 : NTs [] H8 := fun z hz => by cases hz
      have Da9 := D8.ext e9 W8.lv.t no8 (by simp)
      have hlg := W9.G.2.2 gi l _ hl' hga
      refine ⟨_, rfl, _, rfl, _, rfl, _, rfl, _, rfl, g, _, _, .ref l, rfl, rfl, SqL.of W9.G.1, atI_nat (j := gi) (by rw [List.getElem?_map, hl'] <;> rfl), _, _, rfl, .inl ⟨_, SqL.of hlg, rfl⟩, _, rfl, RgOk.of_le (by omega) (by rw [List.length_map]; omega) (by omega) (by omega), fun p np => ?_⟩
      rw [rg_map, List.length_map, Int.toNat_natCast]
      have e10 : Ext tb [] H9 (upd H9 p (.lst (((List.range (grAt ps gi).length).map fun i : Nat => (i : Int)).map V.int))) := Ext.new W9.lv.t np
      have hp10 : (upd H9 p (.lst (((List.range (grAt ps gi).length).map fun i : Nat => (i : Int)).map V.int))) p = some (.lst (((List.range (grAt ps gi).length).map fun i : Nat => (i : Int)).map V.int)) := upd_same
      generalize upd H9 p (.lst (((List.range (grAt ps gi).length).map fun i : Nat => (i : Int)).map V.int)) = H10 at e10 hp10 ⊢
      have W10 := W9.ext0 e10
      have no9 : NTs [] H9 := fun z hz => by cases hz
      have Da10 := Da9.ext e10 W9.lv.t no9 (by simp)
      have Db10 := D9.ext e10 W9.lv.t no9 (by simp)
      refine ⟨xa, da, ca, Ls, p, n, M, 24, ps, gi, _, rfl, Da10, by omega, hl6, hrl, W10.ls, W10.st, fun q hq => okSt_of (hok6 q hq), hp10, hgl, hrr, W10.lv.t, fun H11 e11 D11 => ?_⟩
      have hT10 := W10.lv.t
      have ca8 : cb ≠ ca := fun z => by
        obtain ⟨kv, hk, _⟩ := D8.ex
        rw [z, hk] at ncb
        cases ncb
      have nca10 : NTs [ca] H10 := fun z hz => by
        rw [List.mem_singleton.mp hz]
        exact Da10.nt
      have cb0 := e8.free W.lv.t ncb (by simp)
      have e0a : Ext tb [ca, cb] H' H11 := (((e8.trans e9).trans e10).of0 : Ext tb [ca, cb] _ _).trans (Ext.wide e11 (by simp))
      have sh : ∀ z ∈ [ca, cb], z ∈ ([] : List Addr) ∨ H' z = none := fun z hz => by
        simp at hz
        rcases hz with rfl | rfl
        · exact .inr nca
        · exact .inr cb0
      have W11 := W.ext0 (shrinkE e0a sh)
      have hT11 := W11.lv.t
      have Db11 := Db10.ext e11 hT10 nca10 (by simp [ca8])
      refine ⟨_, rfl, _, rfl, xb, db, cb, Ls, n, M, 24, ps, rfl, Db11, by omega, SqL.of W11.ls, rp_all W11.st, fun q hq => okSt_of (hok6 q hq), hT11, fun H12 e12 D12 => ?_⟩
      have ncb11 : NTs [cb] H11 := fun z hz => by
        rw [List.mem_singleton.mp hz]
        exact Db11.nt
      have Da12 := D11.ext e12 hT11 ncb11 (by simp [Ne.symm ca8])
      have W12 := W.ext0 (shrinkE (e0a.trans (Ext.wide e12 (by simp))) sh)
      have hT12 := W12.lv.t
      have hlg12 := W12.G.2.2 gi l _ hl' hga
      refine ⟨_, rfl, _, rfl, _, rfl, _, rfl, _, rfl, g, _, _, .ref l, rfl, rfl, SqL.of W12.G.1, atI_nat (j := gi) (by rw [List.getElem?_map, hl'] <;> rfl), _, _, rfl, .inl ⟨_, SqL.of hlg12, rfl⟩, _, rfl, RgOk.of_le (by omega) (by rw [List.length_map]; omega) (by omega) (by omega), fun p2 np2 => ?_⟩
      rw [rg_map, List.length_map, Int.toNat_natCast]
      have e13 : Ext tb [] H12 (upd H12 p2 (.lst (((List.range (grAt ps gi).length).map fun i : Nat => (i : Int)).map V.int))) := Ext.new hT12 np2
      have hp13 : (upd H12 p2 (.lst (((List.range (grAt ps gi).length).map fun i : Nat => (i : Int)).map V.int))) p2 = some (.lst (((List.range (grAt ps gi).length).map fun i : Nat => (i : Int)).map V.int)) := upd_same
      generalize upd H12 p2 (.lst (((List.range (grAt ps gi).length).map fun i : Nat => (i : Int)).map V.int)) = H13 at e13 hp13 ⊢
      have W13 := W12.ext0 e13
      have no12 : NTs [] H12 := fun z hz => by cases hz
      refine ⟨Lo, l0, l1, g, p2, _, M, ps, gi, _, LS, rfl, W13.L, W13.G, hp13, hrl, hl6, hgl, hrr, W13.st, hput, W13.lv.t, fun Lo' l0' l1' H14 e14 L14 => ?_⟩
      have e24 := e13.trans e14
      have Da14 := Da12.ext e24 hT12 no12 (by simp)
      have Db14 := D12.ext e24 hT12 no12 (by simp)
      have W14 := W12.ext0 e24
      have no14 : NTs [] H14 := fun z hz => by cases hz
      refine ⟨_, rfl, _, rfl, xa, da, ca, Lo', l0', l1', n, _, _, _, rfl, Da14, L14, by omega, W14.lv.t, fun H15 e15 => ⟨true, rfl, iteT ?_⟩⟩
      have L15 := L14.ext e15 W14.lv.t no14 (by simp) (by simp) (by simp)
      rw [cut_all (by omega)] at L15
      have W15 := W14.ext0 e15
      refine ⟨_, rfl, _, rfl, xb, db, cb, Lo', l0', l1', n, _, _, _, rfl, Db14.ext e15 W14.lv.t no14 (by simp), L15, by omega, W15.lv.t, fun H16 e16 => ⟨true, rfl, iteT ?_⟩⟩
      have W16 := W15.ext0 e16
      exact ⟨_, rfl, _, rfl, x, dx, c, Lo, l0, l1, n, _, _, _, rfl, W16.D, W16.L, by omega, W16.lv.t, fun H17 _ => q H17⟩

end
end K22

set_option Elab.async false
set_option linter.all false
set_option maxRecDepth 100000
set_option maxHeartbeats 4000000
namespace K22
open PySem PySem.Spec PyProof.Rows L2 HK DT DW
/-! ### the end -/
theorem all_mk {l : PySem.W.OpenLaw} {w : World} {K : PySem.W.Frag} {h : Heap} {mg : Str → Option Value} {fa : Addr} {q : Program} (X : K.In h) (G : h.Ns mainGlobals mg) (hfa : mg "law" = some (.ref fa)) (tabs : TabAt K mg h q)
    {f_groups_of : Addr} {oc_groups_of : Value} {od_groups_of an_groups_of : Option Addr} {kV_groups_of dc_groups_of pm_groups_of ct_groups_of : Value} {sl_groups_of : Array (Option Value)}
    {cd_groups_of : Value}
    {f_do_steps : Addr} {oc_do_steps : Value} {od_do_steps an_do_steps : Option Addr} {kV_do_steps dc_do_steps pm_do_steps ct_do_steps : Value} {sl_do_steps : Array (Option Value)}
    {cd_do_steps : Value}
    {f_cut_steps : Addr} {oc_cut_steps : Value} {od_cut_steps an_cut_steps : Option Addr} {kV_cut_steps dc_cut_steps pm_cut_steps ct_cut_steps : Value} {sl_cut_steps : Array (Option Value)}
    {cd_cut_steps : Value}
    {f_copied : Addr} {oc_copied : Value} {od_copied an_copied : Option Addr} {kV_copied dc_copied pm_copied ct_copied : Value} {sl_copied : Array (Option Value)}
    {cd_copied : Value}
    {f_sum_of : Addr} {oc_sum_of : Value} {od_sum_of an_sum_of : Option Addr} {kV_sum_of dc_sum_of pm_sum_of ct_sum_of : Value} {sl_sum_of : Array (Option Value)}
    {cd_sum_of : Value}
    {f_cell_of : Addr} {oc_cell_of : Value} {od_cell_of an_cell_of : Option Addr} {kV_cell_of dc_cell_of pm_cell_of ct_cell_of : Value} {sl_cell_of : Array (Option Value)}
    {cd_cell_of : Value}
    {f_l_mixed : Addr} {oc_l_mixed : Value} {od_l_mixed an_l_mixed : Option Addr} {kV_l_mixed dc_l_mixed pm_l_mixed ct_l_mixed : Value} {sl_l_mixed : Array (Option Value)}
    {cd_l_mixed : Value}
    {f_l_draws : Addr} {oc_l_draws : Value} {od_l_draws an_l_draws : Option Addr} {kV_l_draws dc_l_draws pm_l_draws ct_l_draws : Value} {sl_l_draws : Array (Option Value)}
    {cd_l_draws : Value}
    {f_l_next : Addr} {oc_l_next : Value} {od_l_next an_l_next : Option Addr} {kV_l_next dc_l_next pm_l_next ct_l_next : Value} {sl_l_next : Array (Option Value)}
    {cd_l_next : Value}
    {f_l_same : Addr} {oc_l_same : Value} {od_l_same an_l_same : Option Addr} {kV_l_same dc_l_same pm_l_same ct_l_same : Value} {sl_l_same : Array (Option Value)}
    {cd_l_same : Value}
    {f_l_all_same : Addr} {oc_l_all_same : Value} {od_l_all_same an_l_all_same : Option Addr} {kV_l_all_same dc_l_all_same pm_l_all_same ct_l_all_same : Value} {sl_l_all_same : Array (Option Value)}
    {cd_l_all_same : Value}
    {f_l_sum : Addr} {oc_l_sum : Value} {od_l_sum an_l_sum : Option Addr} {kV_l_sum dc_l_sum pm_l_sum ct_l_sum : Value} {sl_l_sum : Array (Option Value)}
    {cd_l_sum : Value}
    {f_l_content : Addr} {oc_l_content : Value} {od_l_content an_l_content : Option Addr} {kV_l_content dc_l_content pm_l_content ct_l_content : Value} {sl_l_content : Array (Option Value)}
    {cd_l_content : Value}
    {f_l_steps : Addr} {oc_l_steps : Value} {od_l_steps an_l_steps : Option Addr} {kV_l_steps dc_l_steps pm_l_steps ct_l_steps : Value} {sl_l_steps : Array (Option Value)}
    {cd_l_steps : Value}
    {f_l_groups : Addr} {oc_l_groups : Value} {od_l_groups an_l_groups : Option Addr} {kV_l_groups dc_l_groups pm_l_groups ct_l_groups : Value} {sl_l_groups : Array (Option Value)}
    {cd_l_groups : Value}
    {f_l_put : Addr} {oc_l_put : Value} {od_l_put an_l_put : Option Addr} {kV_l_put dc_l_put pm_l_put ct_l_put : Value} {sl_l_put : Array (Option Value)}
    {cd_l_put : Value}
    {f_l_has : Addr} {oc_l_has : Value} {od_l_has an_l_has : Option Addr} {kV_l_has dc_l_has pm_l_has ct_l_has : Value} {sl_l_has : Array (Option Value)}
    {cd_l_has : Value}
    {f_l_filled : Addr} {oc_l_filled : Value} {od_l_filled an_l_filled : Option Addr} {kV_l_filled dc_l_filled pm_l_filled ct_l_filled : Value} {sl_l_filled : Array (Option Value)}
    {cd_l_filled : Value}
    {f_l_kept : Addr} {oc_l_kept : Value} {od_l_kept an_l_kept : Option Addr} {kV_l_kept dc_l_kept pm_l_kept ct_l_kept : Value} {sl_l_kept : Array (Option Value)}
    {cd_l_kept : Value}
    {f_l_cut : Addr} {oc_l_cut : Value} {od_l_cut an_l_cut : Option Addr} {kV_l_cut dc_l_cut pm_l_cut ct_l_cut : Value} {sl_l_cut : Array (Option Value)}
    {cd_l_cut : Value}
    {f_law : Addr} {oc_law : Value} {od_law an_law : Option Addr} {kV_law dc_law pm_law ct_law : Value} {sl_law : Array (Option Value)}
    {cd_law : Value}
    {t_MODULUS : Tok}
    (a_groups_of : PySem.W.nsIn K mainGlobals "groups_of" = some (some (.ref f_groups_of))) (l_groups_of : K.lookup f_groups_of = some ⟨oc_groups_of, od_groups_of, .func (PySem.W.fnOf "groups_of" "groups_of" (defArgs s_groups_of) (defBody s_groups_of) (defScope s_groups_of) .none kV_groups_of dc_groups_of pm_groups_of an_groups_of cd_groups_of ct_groups_of), sl_groups_of⟩) (c_groups_of : PySem.W.codeIn K cd_groups_of "groups_of" = true) (k_groups_of : PySem.W.keepIn K (.ref f_groups_of) = true)
    (a_do_steps : PySem.W.nsIn K mainGlobals "do_steps" = some (some (.ref f_do_steps))) (l_do_steps : K.lookup f_do_steps = some ⟨oc_do_steps, od_do_steps, .func (PySem.W.fnOf "do_steps" "do_steps" (defArgs s_do_steps) (defBody s_do_steps) (defScope s_do_steps) .none kV_do_steps dc_do_steps pm_do_steps an_do_steps cd_do_steps ct_do_steps), sl_do_steps⟩) (c_do_steps : PySem.W.codeIn K cd_do_steps "do_steps" = true) (k_do_steps : PySem.W.keepIn K (.ref f_do_steps) = true)
    (a_cut_steps : PySem.W.nsIn K mainGlobals "cut_steps" = some (some (.ref f_cut_steps))) (l_cut_steps : K.lookup f_cut_steps = some ⟨oc_cut_steps, od_cut_steps, .func (PySem.W.fnOf "cut_steps" "cut_steps" (defArgs s_cut_steps) (defBody s_cut_steps) (defScope s_cut_steps) .none kV_cut_steps dc_cut_steps pm_cut_steps an_cut_steps cd_cut_steps ct_cut_steps), sl_cut_steps⟩) (c_cut_steps : PySem.W.codeIn K cd_cut_steps "cut_steps" = true) (k_cut_steps : PySem.W.keepIn K (.ref f_cut_steps) = true)
    (a_copied : PySem.W.nsIn K mainGlobals "copied" = some (some (.ref f_copied))) (l_copied : K.lookup f_copied = some ⟨oc_copied, od_copied, .func (PySem.W.fnOf "copied" "copied" (defArgs s_copied) (defBody s_copied) (defScope s_copied) .none kV_copied dc_copied pm_copied an_copied cd_copied ct_copied), sl_copied⟩) (c_copied : PySem.W.codeIn K cd_copied "copied" = true) (k_copied : PySem.W.keepIn K (.ref f_copied) = true)
    (a_sum_of : PySem.W.nsIn K mainGlobals "sum_of" = some (some (.ref f_sum_of))) (l_sum_of : K.lookup f_sum_of = some ⟨oc_sum_of, od_sum_of, .func (PySem.W.fnOf "sum_of" "sum_of" (defArgs s_sum_of) (defBody s_sum_of) (defScope s_sum_of) .none kV_sum_of dc_sum_of pm_sum_of an_sum_of cd_sum_of ct_sum_of), sl_sum_of⟩) (c_sum_of : PySem.W.codeIn K cd_sum_of "sum_of" = true) (k_sum_of : PySem.W.keepIn K (.ref f_sum_of) = true)
    (a_cell_of : PySem.W.nsIn K mainGlobals "cell_of" = some (some (.ref f_cell_of))) (l_cell_of : K.lookup f_cell_of = some ⟨oc_cell_of, od_cell_of, .func (PySem.W.fnOf "cell_of" "cell_of" (defArgs s_cell_of) (defBody s_cell_of) (defScope s_cell_of) .none kV_cell_of dc_cell_of pm_cell_of an_cell_of cd_cell_of ct_cell_of), sl_cell_of⟩) (c_cell_of : PySem.W.codeIn K cd_cell_of "cell_of" = true) (k_cell_of : PySem.W.keepIn K (.ref f_cell_of) = true)
    (a_l_mixed : PySem.W.nsIn K mainGlobals "_law_mixed" = some (some (.ref f_l_mixed))) (l_l_mixed : K.lookup f_l_mixed = some ⟨oc_l_mixed, od_l_mixed, .func (PySem.W.fnOf "_law_mixed" "_law_mixed" (defArgs s_l_mixed) (defBody s_l_mixed) (defScope s_l_mixed) .none kV_l_mixed dc_l_mixed pm_l_mixed an_l_mixed cd_l_mixed ct_l_mixed), sl_l_mixed⟩) (c_l_mixed : PySem.W.codeIn K cd_l_mixed "_law_mixed" = true) (k_l_mixed : PySem.W.keepIn K (.ref f_l_mixed) = true)
    (a_l_draws : PySem.W.nsIn K mainGlobals "_law_draws" = some (some (.ref f_l_draws))) (l_l_draws : K.lookup f_l_draws = some ⟨oc_l_draws, od_l_draws, .func (PySem.W.fnOf "_law_draws" "_law_draws" (defArgs s_l_draws) (defBody s_l_draws) (defScope s_l_draws) .none kV_l_draws dc_l_draws pm_l_draws an_l_draws cd_l_draws ct_l_draws), sl_l_draws⟩) (c_l_draws : PySem.W.codeIn K cd_l_draws "_law_draws" = true) (k_l_draws : PySem.W.keepIn K (.ref f_l_draws) = true)
    (a_l_next : PySem.W.nsIn K mainGlobals "_law_next" = some (some (.ref f_l_next))) (l_l_next : K.lookup f_l_next = some ⟨oc_l_next, od_l_next, .func (PySem.W.fnOf "_law_next" "_law_next" (defArgs s_l_next) (defBody s_l_next) (defScope s_l_next) .none kV_l_next dc_l_next pm_l_next an_l_next cd_l_next ct_l_next), sl_l_next⟩) (c_l_next : PySem.W.codeIn K cd_l_next "_law_next" = true) (k_l_next : PySem.W.keepIn K (.ref f_l_next) = true)
    (a_l_same : PySem.W.nsIn K mainGlobals "_law_same" = some (some (.ref f_l_same))) (l_l_same : K.lookup f_l_same = some ⟨oc_l_same, od_l_same, .func (PySem.W.fnOf "_law_same" "_law_same" (defArgs s_l_same) (defBody s_l_same) (defScope s_l_same) .none kV_l_same dc_l_same pm_l_same an_l_same cd_l_same ct_l_same), sl_l_same⟩) (c_l_same : PySem.W.codeIn K cd_l_same "_law_same" = true) (k_l_same : PySem.W.keepIn K (.ref f_l_same) = true)
    (a_l_all_same : PySem.W.nsIn K mainGlobals "_law_all_same" = some (some (.ref f_l_all_same))) (l_l_all_same : K.lookup f_l_all_same = some ⟨oc_l_all_same, od_l_all_same, .func (PySem.W.fnOf "_law_all_same" "_law_all_same" (defArgs s_l_all_same) (defBody s_l_all_same) (defScope s_l_all_same) .none kV_l_all_same dc_l_all_same pm_l_all_same an_l_all_same cd_l_all_same ct_l_all_same), sl_l_all_same⟩) (c_l_all_same : PySem.W.codeIn K cd_l_all_same "_law_all_same" = true) (k_l_all_same : PySem.W.keepIn K (.ref f_l_all_same) = true)
    (a_l_sum : PySem.W.nsIn K mainGlobals "_law_sum" = some (some (.ref f_l_sum))) (l_l_sum : K.lookup f_l_sum = some ⟨oc_l_sum, od_l_sum, .func (PySem.W.fnOf "_law_sum" "_law_sum" (defArgs s_l_sum) (defBody s_l_sum) (defScope s_l_sum) .none kV_l_sum dc_l_sum pm_l_sum an_l_sum cd_l_sum ct_l_sum), sl_l_sum⟩) (c_l_sum : PySem.W.codeIn K cd_l_sum "_law_sum" = true) (k_l_sum : PySem.W.keepIn K (.ref f_l_sum) = true)
    (a_l_content : PySem.W.nsIn K mainGlobals "_law_content" = some (some (.ref f_l_content))) (l_l_content : K.lookup f_l_content = some ⟨oc_l_content, od_l_content, .func (PySem.W.fnOf "_law_content" "_law_content" (defArgs s_l_content) (defBody s_l_content) (defScope s_l_content) .none kV_l_content dc_l_content pm_l_content an_l_content cd_l_content ct_l_content), sl_l_content⟩) (c_l_content : PySem.W.codeIn K cd_l_content "_law_content" = true) (k_l_content : PySem.W.keepIn K (.ref f_l_content) = true)
    (a_l_steps : PySem.W.nsIn K mainGlobals "_law_steps" = some (some (.ref f_l_steps))) (l_l_steps : K.lookup f_l_steps = some ⟨oc_l_steps, od_l_steps, .func (PySem.W.fnOf "_law_steps" "_law_steps" (defArgs s_l_steps) (defBody s_l_steps) (defScope s_l_steps) .none kV_l_steps dc_l_steps pm_l_steps an_l_steps cd_l_steps ct_l_steps), sl_l_steps⟩) (c_l_steps : PySem.W.codeIn K cd_l_steps "_law_steps" = true) (k_l_steps : PySem.W.keepIn K (.ref f_l_steps) = true)
    (a_l_groups : PySem.W.nsIn K mainGlobals "_law_groups" = some (some (.ref f_l_groups))) (l_l_groups : K.lookup f_l_groups = some ⟨oc_l_groups, od_l_groups, .func (PySem.W.fnOf "_law_groups" "_law_groups" (defArgs s_l_groups) (defBody s_l_groups) (defScope s_l_groups) .none kV_l_groups dc_l_groups pm_l_groups an_l_groups cd_l_groups ct_l_groups), sl_l_groups⟩) (c_l_groups : PySem.W.codeIn K cd_l_groups "_law_groups" = true) (k_l_groups : PySem.W.keepIn K (.ref f_l_groups) = true)
    (a_l_put : PySem.W.nsIn K mainGlobals "_law_put" = some (some (.ref f_l_put))) (l_l_put : K.lookup f_l_put = some ⟨oc_l_put, od_l_put, .func (PySem.W.fnOf "_law_put" "_law_put" (defArgs s_l_put) (defBody s_l_put) (defScope s_l_put) .none kV_l_put dc_l_put pm_l_put an_l_put cd_l_put ct_l_put), sl_l_put⟩) (c_l_put : PySem.W.codeIn K cd_l_put "_law_put" = true) (k_l_put : PySem.W.keepIn K (.ref f_l_put) = true)
    (a_l_has : PySem.W.nsIn K mainGlobals "_law_has" = some (some (.ref f_l_has))) (l_l_has : K.lookup f_l_has = some ⟨oc_l_has, od_l_has, .func (PySem.W.fnOf "_law_has" "_law_has" (defArgs s_l_has) (defBody s_l_has) (defScope s_l_has) .none kV_l_has dc_l_has pm_l_has an_l_has cd_l_has ct_l_has), sl_l_has⟩) (c_l_has : PySem.W.codeIn K cd_l_has "_law_has" = true) (k_l_has : PySem.W.keepIn K (.ref f_l_has) = true)
    (a_l_filled : PySem.W.nsIn K mainGlobals "_law_filled" = some (some (.ref f_l_filled))) (l_l_filled : K.lookup f_l_filled = some ⟨oc_l_filled, od_l_filled, .func (PySem.W.fnOf "_law_filled" "_law_filled" (defArgs s_l_filled) (defBody s_l_filled) (defScope s_l_filled) .none kV_l_filled dc_l_filled pm_l_filled an_l_filled cd_l_filled ct_l_filled), sl_l_filled⟩) (c_l_filled : PySem.W.codeIn K cd_l_filled "_law_filled" = true) (k_l_filled : PySem.W.keepIn K (.ref f_l_filled) = true)
    (a_l_kept : PySem.W.nsIn K mainGlobals "_law_kept" = some (some (.ref f_l_kept))) (l_l_kept : K.lookup f_l_kept = some ⟨oc_l_kept, od_l_kept, .func (PySem.W.fnOf "_law_kept" "_law_kept" (defArgs s_l_kept) (defBody s_l_kept) (defScope s_l_kept) .none kV_l_kept dc_l_kept pm_l_kept an_l_kept cd_l_kept ct_l_kept), sl_l_kept⟩) (c_l_kept : PySem.W.codeIn K cd_l_kept "_law_kept" = true) (k_l_kept : PySem.W.keepIn K (.ref f_l_kept) = true)
    (a_l_cut : PySem.W.nsIn K mainGlobals "_law_cut" = some (some (.ref f_l_cut))) (l_l_cut : K.lookup f_l_cut = some ⟨oc_l_cut, od_l_cut, .func (PySem.W.fnOf "_law_cut" "_law_cut" (defArgs s_l_cut) (defBody s_l_cut) (defScope s_l_cut) .none kV_l_cut dc_l_cut pm_l_cut an_l_cut cd_l_cut ct_l_cut), sl_l_cut⟩) (c_l_cut : PySem.W.codeIn K cd_l_cut "_law_cut" = true) (k_l_cut : PySem.W.keepIn K (.ref f_l_cut) = true)
    (a_law : PySem.W.nsIn K mainGlobals "law" = some (some (.ref f_law))) (l_law : K.lookup f_law = some ⟨oc_law, od_law, .func (PySem.W.fnOf "law" "law" (defArgs s_law) (defBody s_law) (defScope s_law) .none kV_law dc_law pm_law an_law cd_law ct_law), sl_law⟩) (c_law : PySem.W.codeIn K cd_law "law" = true) (k_law : PySem.W.keepIn K (.ref f_law) = true)
    (z_abs : PySem.W.nsIn K mainGlobals "abs" = some none)
    (z_bool : PySem.W.nsIn K mainGlobals "bool" = some none)
    (z_dict : PySem.W.nsIn K mainGlobals "dict" = some none)
    (z_int : PySem.W.nsIn K mainGlobals "int" = some none)
    (z_isinstance : PySem.W.nsIn K mainGlobals "isinstance" = some none)
    (z_len : PySem.W.nsIn K mainGlobals "len" = some none)
    (z_list : PySem.W.nsIn K mainGlobals "list" = some none)
    (z_min : PySem.W.nsIn K mainGlobals "min" = some none)
    (z_range : PySem.W.nsIn K mainGlobals "range" = some none)
    (z_str : PySem.W.nsIn K mainGlobals "str" = some none)
    (z_tuple : PySem.W.nsIn K mainGlobals "tuple" = some none)
    (z_zip : PySem.W.nsIn K mainGlobals "zip" = some none)
    (z_MODULUS : PySem.W.nsIn K mainGlobals "MODULUS" = some (some (.int 2147483647 t_MODULUS)))
    {C f1 f2 f3 f4 : Addr} {od1 an1 od2 an2 od3 an3 od4 an4 : Option Addr} {sl1 sl2 sl3 sl4 : Array (Option Value)} {oc1 kV1 dc1 pm1 cd1 ct1 oc2 kV2 dc2 pm2 cd2 ct2 oc3 kV3 dc3 pm3 cd3 ct3 oc4 kV4 dc4 pm4 cd4 ct4 : Value}
    (yC : PySem.W.nsIn K mainGlobals "Disk" = some (some (.ref C)))
    (y1 : PySem.W.findIn K (.ref C) "__init__" = some (some (.ref f1))) (yi1 : PySem.W.isFn K (.ref f1) = true) (yl1 : K.lookup f1 = some ⟨oc1, od1, .func (PySem.W.fnOf "__init__" "Disk.__init__" (defArgs s_Disk_init) (defBody s_Disk_init) (defScope s_Disk_init) .none kV1 dc1 pm1 an1 cd1 ct1), sl1⟩) (yc1 : PySem.W.codeIn K cd1 "Disk.__init__" = true) (yk1 : PySem.W.keepIn K (.ref f1) = true)
    (y2 : PySem.W.findIn K (.ref C) "write" = some (some (.ref f2))) (yi2 : PySem.W.isFn K (.ref f2) = true) (yl2 : K.lookup f2 = some ⟨oc2, od2, .func (PySem.W.fnOf "write" "Disk.write" (defArgs s_Disk_write) (defBody s_Disk_write) (defScope s_Disk_write) .none kV2 dc2 pm2 an2 cd2 ct2), sl2⟩) (yc2 : PySem.W.codeIn K cd2 "Disk.write" = true) (yk2 : PySem.W.keepIn K (.ref f2) = true)
    (y3 : PySem.W.findIn K (.ref C) "cell" = some (some (.ref f3))) (yi3 : PySem.W.isFn K (.ref f3) = true) (yl3 : K.lookup f3 = some ⟨oc3, od3, .func (PySem.W.fnOf "cell" "Disk.cell" (defArgs s_Disk_cell) (defBody s_Disk_cell) (defScope s_Disk_cell) .none kV3 dc3 pm3 an3 cd3 ct3), sl3⟩) (yc3 : PySem.W.codeIn K cd3 "Disk.cell" = true) (yk3 : PySem.W.keepIn K (.ref f3) = true)
    (y4 : PySem.W.findIn K (.ref C) "twin" = some (some (.ref f4))) (yi4 : PySem.W.isFn K (.ref f4) = true) (yl4 : K.lookup f4 = some ⟨oc4, od4, .func (PySem.W.fnOf "twin" "Disk.twin" (defArgs s_Disk_twin) (defBody s_Disk_twin) (defScope s_Disk_twin) .none kV4 dc4 pm4 an4 cd4 ct4), sl4⟩) (yc4 : PySem.W.codeIn K cd4 "Disk.twin" = true) (yk4 : PySem.W.keepIn K (.ref f4) = true)
    (ypg : PySem.W.plainGet K C Str.empty = true) (yhd : PySem.W.hasDictIn K C = true) (ypo : PySem.W.plainOver K C = true) (ysa : PySem.W.findIn K (.ref C) "__setattr__" = some (some (.builtin "object.__setattr__"))) (ymk : PySem.W.makesIn K C = true) (ykc : PySem.W.keepIn K (.ref C) = true)
    (ynP : PySem.W.findIn K (.ref C) "places" = some none) (ynC : PySem.W.findIn K (.ref C) "cells" = some none) :
    LamX.LawAtS l w K CX0 12 63 "_law_script" mg fa h := by
  have F_groups_of := fnAt_mk (st := s_groups_of) (ps := ["steps"]) (PySem.W.mg_of X G a_groups_of) l_groups_of c_groups_of k_groups_of (fun us hl => match us, hl with | [_], _ => rfl)
  have F_do_steps := fnAt_mk (st := s_do_steps) (ps := ["disk", "steps"]) (PySem.W.mg_of X G a_do_steps) l_do_steps c_do_steps k_do_steps (fun us hl => match us, hl with | [_, _], _ => rfl)
  have F_cut_steps := fnAt_mk (st := s_cut_steps) (ps := ["disk", "steps", "group", "kept"]) (PySem.W.mg_of X G a_cut_steps) l_cut_steps c_cut_steps k_cut_steps (fun us hl => match us, hl with | [_, _, _, _], _ => rfl)
  have F_copied := fnAt_mk (st := s_copied) (ps := ["one"]) (PySem.W.mg_of X G a_copied) l_copied c_copied k_copied (fun us hl => match us, hl with | [_], _ => rfl)
  have F_sum_of := fnAt_mk (st := s_sum_of) (ps := ["spot", "content"]) (PySem.W.mg_of X G a_sum_of) l_sum_of c_sum_of k_sum_of (fun us hl => match us, hl with | [_, _], _ => rfl)
  have F_cell_of := fnAt_mk (st := s_cell_of) (ps := ["spot", "content"]) (PySem.W.mg_of X G a_cell_of) l_cell_of c_cell_of k_cell_of (fun us hl => match us, hl with | [_, _], _ => rfl)
  have F_l_mixed := fnAt_mk (st := s_l_mixed) (ps := ["_law_cell", "_law_k"]) (PySem.W.mg_of X G a_l_mixed) l_l_mixed c_l_mixed k_l_mixed (fun us hl => match us, hl with | [_, _], _ => rfl)
  have F_l_draws := fnAt_mk (st := s_l_draws) (ps := ["_law_script"]) (PySem.W.mg_of X G a_l_draws) l_l_draws c_l_draws k_l_draws (fun us hl => match us, hl with | [_], _ => rfl)
  have F_l_next := fnAt_mk (st := s_l_next) (ps := ["_law_drawn"]) (PySem.W.mg_of X G a_l_next) l_l_next c_l_next k_l_next (fun us hl => match us, hl with | [_], _ => rfl)
  have F_l_same := fnAt_mk (st := s_l_same) (ps := ["_law_found", "_law_due"]) (PySem.W.mg_of X G a_l_same) l_l_same c_l_same k_l_same (fun us hl => match us, hl with | [_, _], _ => rfl)
  have F_l_all_same := fnAt_mk (st := s_l_all_same) (ps := ["_law_found", "_law_due"]) (PySem.W.mg_of X G a_l_all_same) l_l_all_same c_l_all_same k_l_all_same (fun us hl => match us, hl with | [_, _], _ => rfl)
  have F_l_sum := fnAt_mk (st := s_l_sum) (ps := ["_law_spot", "_law_content_here"]) (PySem.W.mg_of X G a_l_sum) l_l_sum c_l_sum k_l_sum (fun us hl => match us, hl with | [_, _], _ => rfl)
  have F_l_content := fnAt_mk (st := s_l_content) (ps := ["_law_drawn"]) (PySem.W.mg_of X G a_l_content) l_l_content c_l_content k_l_content (fun us hl => match us, hl with | [_], _ => rfl)
  have F_l_steps := fnAt_mk (st := s_l_steps) (ps := ["_law_drawn", "_law_spots"]) (PySem.W.mg_of X G a_l_steps) l_l_steps c_l_steps k_l_steps (fun us hl => match us, hl with | [_, _], _ => rfl)
  have F_l_groups := fnAt_mk (st := s_l_groups) (ps := ["_law_steps_here"]) (PySem.W.mg_of X G a_l_groups) l_l_groups c_l_groups k_l_groups (fun us hl => match us, hl with | [_], _ => rfl)
  have F_l_put := fnAt_mk (st := s_l_put) (ps := ["_law_cells", "_law_puts"]) (PySem.W.mg_of X G a_l_put) l_l_put c_l_put k_l_put (fun us hl => match us, hl with | [_, _], _ => rfl)
  have F_l_has := fnAt_mk (st := s_l_has) (ps := ["_law_disk", "_law_cells"]) (PySem.W.mg_of X G a_l_has) l_l_has c_l_has k_l_has (fun us hl => match us, hl with | [_, _], _ => rfl)
  have F_l_filled := fnAt_mk (st := s_l_filled) (ps := ["_law_disk", "_law_drawn"]) (PySem.W.mg_of X G a_l_filled) l_l_filled c_l_filled k_l_filled (fun us hl => match us, hl with | [_, _], _ => rfl)
  have F_l_kept := fnAt_mk (st := s_l_kept) (ps := ["_law_drawn", "_law_many"]) (PySem.W.mg_of X G a_l_kept) l_l_kept c_l_kept k_l_kept (fun us hl => match us, hl with | [_, _], _ => rfl)
  have F_l_cut := fnAt_mk (st := s_l_cut) (ps := ["_law_cells", "_law_groups_here", "_law_group", "_law_kept_here"]) (PySem.W.mg_of X G a_l_cut) l_l_cut c_l_cut k_l_cut (fun us hl => match us, hl with | [_, _, _, _], _ => rfl)
  have F_law := fnAt_mk (st := s_law) (ps := ["_law_script"]) (PySem.W.mg_of X G a_law) l_law c_law k_law (fun us hl => match us, hl with | [_], _ => rfl)
  have T : Txt K mg := ⟨PySem.W.mg_none_of X G z_abs, PySem.W.mg_none_of X G z_bool, PySem.W.mg_none_of X G z_dict, PySem.W.mg_none_of X G z_int, PySem.W.mg_none_of X G z_isinstance, PySem.W.mg_none_of X G z_len, PySem.W.mg_none_of X G z_list, PySem.W.mg_none_of X G z_min, PySem.W.mg_none_of X G z_range, PySem.W.mg_none_of X G z_str, PySem.W.mg_none_of X G z_tuple, PySem.W.mg_none_of X G z_zip, ⟨_, PySem.W.mg_of X G z_MODULUS, ⟨_, rfl⟩⟩⟩
  have ce : ClsE K C := ⟨⟨ypg, yhd, ypo, ysa⟩, ynP, ynC⟩
  have F1 := fun_mk (st := s_Disk_init) yl1 yc1 yk1
  have F2 := fun_mk (st := s_Disk_write) yl2 yc2 yk2
  have F3 := fun_mk (st := s_Disk_cell) yl3 yc3 yk3
  have F4 := fun_mk (st := s_Disk_twin) yl4 yc4 yk4
  have b4 := F4.binds (ps := ["self"]) fun _ _ _ _ _ _ us hl => match us, hl with | [_], _ => rfl
  have b1 := F1.binds (ps := ["self", "places"]) fun _ _ _ _ _ _ us hl => match us, hl with | [_, _], _ => rfl
  have b2 := F2.binds (ps := ["self", "copy", "spot", "content"]) fun _ _ _ _ _ _ us hl => match us, hl with | [_, _, _, _], _ => rfl
  have b3 := F3.binds (ps := ["self", "copy", "spot"]) fun _ _ _ _ _ _ us hl => match us, hl with | [_, _, _], _ => rfl
  have mC := PySem.W.mg_of X G yC
  refine law_at (cs := []) (sp := spLaw K []) (q := q) hfa F_law ?_ (fun kV doc pm an ct s u => .of_eq rfl) (fun H a ns h1 _ h3 h4 => ⟨a, ns, rfl, h4, h1, h3, fun _ => rfl⟩) (fun base _ _ TB => ?_)
  · intro p hp
    cases hp
  · generalize ([] : List Addr) = tb
    have c1 := ok_sum_of (P := l.prog) (w := w) (base := base) T F_sum_of
    have c2 := ok_cell_of (tb := tb) F_cell_of c1
    have c3 := ok_copieds (P := l.prog) (w := w) (base := base) (tb := tb) T F_copied 2
    have D : DiskM l.prog w K mg base tb C f2 f3 _ _ := ⟨ce, ⟨y2, yi2, yk2⟩, ok_write ce F2 c2, b2, ⟨y3, yi3, yk3⟩, ok_cell ce F3 c3, b3, ⟨⟨f1, _, _, _, ⟨ymk, y1, yi1, ykc⟩, ok_init ce F1, mC, b1, .nil⟩⟩⟩
    have DT : DiskT l.prog w K mg base tb C f2 f3 _ _ f4 _ := ⟨D, ⟨y4, yi4, yk4⟩, ok_twin D F4, b4⟩
    have c4 := ok_groups_of (P := l.prog) (w := w) (base := base) (tb := tb) T F_groups_of
    have c5 := ok_do_steps D F_do_steps
    have c6 := ok_cut_steps D F_cut_steps c4 c5
    have d1 := ok_l_mixed (P := l.prog) (w := w) (base := base) F_l_mixed
    have d2 := ok_l_draws (tb := tb) T F_l_draws d1
    have d3 := ok_l_next (P := l.prog) (w := w) (base := base) (tb := tb) F_l_next
    have d4 := ok_sames (P := l.prog) (w := w) (base := base) (tb := tb) T F_l_same F_l_all_same 4
    have d5 := ok_l_sum (P := l.prog) (w := w) (base := base) F_l_sum
    have d6 := ok_l_content T F_l_content d3
    have d7 := ok_l_steps T F_l_steps d3 d6
    have d8 := ok_l_groups (P := l.prog) (w := w) (base := base) (tb := tb) T F_l_groups
    have d9 := ok_l_put (tb := tb) F_l_put d5
    have d10 := ok_l_has T D F_l_has d4
    have d11 := ok_l_filled T D F_l_filled d7 d9
    have d12 := ok_l_kept T F_l_kept d3
    have d13 := ok_l_cut T F_l_cut d9
    exact ok_law T DT d2 d3 d11 d7 d8 d12 c6 c5 d13 d10
end K22
open PySem PySem.W PyProof.Rows
set_option maxRecDepth 100000 in
set_option maxHeartbeats 0 in
theorem PySem.Challenge.cw_snapshelf_k22_steps_cut_holds : PySem.Challenge.rw_snapshelf_k22_steps_cut.Holds := by
  w_on; o_law; k_head; (case hw => w_witness2)
  k_fill
  refine HK.walk_tabs (l := PySem.Challenge.rw_snapshelf_k22_steps_cut) (n := 63) (k := 12) (x := "_law_script") (CX := fun _ => L2.CX0) rfl (by decide) rfl ⟨rfl, by decide, by decide⟩ (fun w h Y => PySem.W.kIn_of Y) ?F (fun _ _ _ _ _ h => h)
  case F =>
    intro w mg fa h Y KX G hmg tabs
    refine' K22.all_mk KX G hmg tabs ?a_groups_of ?l_groups_of ?c_groups_of ?k_groups_of ?a_do_steps ?l_do_steps ?c_do_steps ?k_do_steps ?a_cut_steps ?l_cut_steps ?c_cut_steps ?k_cut_steps ?a_copied ?l_copied ?c_copied ?k_copied ?a_sum_of ?l_sum_of ?c_sum_of ?k_sum_of ?a_cell_of ?l_cell_of ?c_cell_of ?k_cell_of ?a_l_mixed ?l_l_mixed ?c_l_mixed ?k_l_mixed ?a_l_draws ?l_l_draws ?c_l_draws ?k_l_draws ?a_l_next ?l_l_next ?c_l_next ?k_l_next ?a_l_same ?l_l_same ?c_l_same ?k_l_same ?a_l_all_same ?l_l_all_same ?c_l_all_same ?k_l_all_same ?a_l_sum ?l_l_sum ?c_l_sum ?k_l_sum ?a_l_content ?l_l_content ?c_l_content ?k_l_content ?a_l_steps ?l_l_steps ?c_l_steps ?k_l_steps ?a_l_groups ?l_l_groups ?c_l_groups ?k_l_groups ?a_l_put ?l_l_put ?c_l_put ?k_l_put ?a_l_has ?l_l_has ?c_l_has ?k_l_has ?a_l_filled ?l_l_filled ?c_l_filled ?k_l_filled ?a_l_kept ?l_l_kept ?c_l_kept ?k_l_kept ?a_l_cut ?l_l_cut ?c_l_cut ?k_l_cut ?a_law ?l_law ?c_law ?k_law ?z_abs ?z_bool ?z_dict ?z_int ?z_isinstance ?z_len ?z_list ?z_min ?z_range ?z_str ?z_tuple ?z_zip ?z_MODULUS ?yC ?y1 ?yi1 ?yl1 ?yc1 ?yk1 ?y2 ?yi2 ?yl2 ?yc2 ?yk2 ?y3 ?yi3 ?yl3 ?yc3 ?yk3 ?y4 ?yi4 ?yl4 ?yc4 ?yk4 ?ypg ?yhd ?ypo ?ysa ?ymk ?ykc ?ynP ?ynC
    (case a_groups_of => k_is)
    (case l_groups_of => k_is)
    (case c_groups_of => k_is)
    (case k_groups_of => k_is)
    (case a_do_steps => k_is)
    (case l_do_steps => k_is)
    (case c_do_steps => k_is)
    (case k_do_steps => k_is)
    (case a_cut_steps => k_is)
    (case l_cut_steps => k_is)
    (case c_cut_steps => k_is)
    (case k_cut_steps => k_is)
    (case a_copied => k_is)
    (case l_copied => k_is)
    (case c_copied => k_is)
    (case k_copied => k_is)
    (case a_sum_of => k_is)
    (case l_sum_of => k_is)
    (case c_sum_of => k_is)
    (case k_sum_of => k_is)
    (case a_cell_of => k_is)
    (case l_cell_of => k_is)
    (case c_cell_of => k_is)
    (case k_cell_of => k_is)
    (case a_l_mixed => k_is)
    (case l_l_mixed => k_is)
    (case c_l_mixed => k_is)
    (case k_l_mixed => k_is)
    (case a_l_draws => k_is)
    (case l_l_draws => k_is)
    (case c_l_draws => k_is)
    (case k_l_draws => k_is)
    (case a_l_next => k_is)
    (case l_l_next => k_is)
    (case c_l_next => k_is)
    (case k_l_next => k_is)
    (case a_l_same => k_is)
    (case l_l_same => k_is)
    (case c_l_same => k_is)
    (case k_l_same => k_is)
    (case a_l_all_same => k_is)
    (case l_l_all_same => k_is)
    (case c_l_all_same => k_is)
    (case k_l_all_same => k_is)
    (case a_l_sum => k_is)
    (case l_l_sum => k_is)
    (case c_l_sum => k_is)
    (case k_l_sum => k_is)
    (case a_l_content => k_is)
    (case l_l_content => k_is)
    (case c_l_content => k_is)
    (case k_l_content => k_is)
    (case a_l_steps => k_is)
    (case l_l_steps => k_is)
    (case c_l_steps => k_is)
    (case k_l_steps => k_is)
    (case a_l_groups => k_is)
    (case l_l_groups => k_is)
    (case c_l_groups => k_is)
    (case k_l_groups => k_is)
    (case a_l_put => k_is)
    (case l_l_put => k_is)
    (case c_l_put => k_is)
    (case k_l_put => k_is)
    (case a_l_has => k_is)
    (case l_l_has => k_is)
    (case c_l_has => k_is)
    (case k_l_has => k_is)
    (case a_l_filled => k_is)
    (case l_l_filled => k_is)
    (case c_l_filled => k_is)
    (case k_l_filled => k_is)
    (case a_l_kept => k_is)
    (case l_l_kept => k_is)
    (case c_l_kept => k_is)
    (case k_l_kept => k_is)
    (case a_l_cut => k_is)
    (case l_l_cut => k_is)
    (case c_l_cut => k_is)
    (case k_l_cut => k_is)
    (case a_law => k_is)
    (case l_law => k_is)
    (case c_law => k_is)
    (case k_law => k_is)
    (case z_abs => k_is)
    (case z_bool => k_is)
    (case z_dict => k_is)
    (case z_int => k_is)
    (case z_isinstance => k_is)
    (case z_len => k_is)
    (case z_list => k_is)
    (case z_min => k_is)
    (case z_range => k_is)
    (case z_str => k_is)
    (case z_tuple => k_is)
    (case z_zip => k_is)
    (case z_MODULUS => k_is)
    (case yC => k_is)
    (case y1 => k_is)
    (case yi1 => k_is)
    (case yl1 => k_is)
    (case yc1 => k_is)
    (case yk1 => k_is)
    (case y2 => k_is)
    (case yi2 => k_is)
    (case yl2 => k_is)
    (case yc2 => k_is)
    (case yk2 => k_is)
    (case y3 => k_is)
    (case yi3 => k_is)
    (case yl3 => k_is)
    (case yc3 => k_is)
    (case yk3 => k_is)
    (case y4 => k_is)
    (case yi4 => k_is)
    (case yl4 => k_is)
    (case yc4 => k_is)
    (case yk4 => k_is)
    (case ypg => k_is)
    (case yhd => k_is)
    (case ypo => k_is)
    (case ysa => k_is)
    (case ymk => k_is)
    (case ykc => k_is)
    (case ynP => k_is)
    (case ynC => k_is)

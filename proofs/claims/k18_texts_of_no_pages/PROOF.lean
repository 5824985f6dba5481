import PyProof.Rows.All
import Wide.All
import OpenK.AllK
import Wide.FinOn
import KE.KStateDown
import KE.KSuper
import HandS.ForExc
import HandS.ExcIs
import HandS.ExcInit
import HandS.ExcField
import HandS.Defaults
import HandS.Head0
import HandS.Head1
import HandS.Head2
import HandS.HeadHook1
import HandS.HeadHook2
import HandS.HeadHook3
import HandS.HeadHook4
import HandS.ForMost
import HandS.GenList
import HandS.AnyAll
import HandS.Lambda
import KE.KDflt
import HandS.IsInst
import HandS.TupMul
import HandS.Comp
import HandS.Wide
import HandS.Exc
import HandS.ExcOwn
import HandS.WordsExc
import HandS.List
import HandS.Deep
import HandS.Text
import HandS.StrMore
import HandS.Codes
import KE.KUnpackStar
import HandS.Star
import HandS.FStr
import KE.KExcSuper
import HandS.Walk
import HandS.Small
import HandS.EndTab
import HandS.HeadWalk
import PySem.Challenge.RW_slotpages_k18_texts_of_no_pages
set_option Elab.async false
set_option linter.all false
set_option maxRecDepth 100000
set_option maxHeartbeats 2000000
namespace GX
open PySem PySem.Spec PyProof.Rows L2 GenW
/-- the code of a generator expression's loop has the frame of its names over what runs -/
theorem over_comp {A : Around} {elt : Expr} {gs : List Comprehension} {sc : Scope} {p : Pos} {it acc : Value} {env : Env} : A.over (.compLoop (.GeneratorExp elt gs sc p) 0 it acc env) [] = A.deeper env := by rfl
theorem over_compS {A : Around} {elt : Expr} {gs : List Comprehension} {sc : Scope} {p : Pos} {it acc : Value} {env : Env} : A.over (.compStart (.GeneratorExp elt gs sc p) 0 it acc env) [] = A.deeper env := by rfl
/-- the names of a generator expression: x its own, then captured ones, whose places in the maker's names are at cap -/
structure GS (N Ng : List Str) (sc scope : Scope) (x : Str) (cap : List Nat) : Prop where
  kind : scope.kind = .function
  co : scope.isCoroutine = false
  cell : ∀ y ∈ scope.names, y.2 ≠ .cell
  dot : scope.names.lookup (".0" : Str) = some NameKind.local
  loc : scope.names.lookup x = some .local
  free : ∀ y ∈ scope.names, y.2 = .free → sc.names.lookup y.1 = some .cell ∨ sc.names.lookup y.1 = some .free
  nd : Ng.Nodup
  hd : Ng[0]? = some x
  tl : ∀ (j : Nat) (y : Str), Ng[j + 1]? = some y → scope.names.lookup y = some .free ∧ ∃ i, cap[j]? = some i ∧ N[i]? = some y
  len : Ng.length = cap.length + 1
/-- the generator's slots at the start -/
def gSt (σ : L2.St) (cap : List Nat) : L2.St := none :: cap.map fun i => (σ[i]?).join
abbrev gEnv (X : Cx) (scope : Scope) (C : Addr) (code : Value) : Env := genEnv scope (cloFrom X.env.cells scope.names []) C code builtinsNs X.env
/-- the context in which the generator's element is reckoned: s, H when its frame is made -/
def gCx (X : Cx) (Ng : List Str) (scope : Scope) (code : Value) (s : Shared) (H : Hp) (fp : List Addr) (pn : List (Addr × Obj)) : Cx where
  prog := X.prog
  w := X.w
  K := X.K
  mg := X.mg
  base := X.base
  A := X.A.in1.in1.deeper (gEnv X scope s.heap.objs.size code)
  N := Ng
  s_0 := s
  H_0 := H
  env := gEnv X scope s.heap.objs.size code
  outer := X.stack
  stack := gEnv X scope s.heap.objs.size code :: X.stack
  ex := fp
  fn := fun _ => false
  calm := true
  pn := pn
  xe := fun _ _ => False
section
variable {X : Cx} {pins : List (Addr × Obj)} {σ : L2.St} {H : Hp} {s : Shared} {N Ng : List Str} {scope : Scope} {x : Str} {cap : List Nat}
theorem GS.has (S : GS X.N Ng X.env.scope scope x cap) (ok : X.Ok) : ∀ y ∈ scope.names, y.2 = .free → ∃ c, X.env.cells.lookup y.1 = some c := fun y hy e => by
  rcases S.free y hy e with k | k
  · exact ok.has _ (.inl k)
  · exact ok.has _ (.inr k)
theorem gStart {fp : List Addr} {code : Value} {it : Value} {a : Addr} {go : Obj} {h1 : Heap} {g' : Array GenState} {tk : Nat} (I : Inv X pins σ H s) (hd : X.A.handled = none) (S : GS X.N Ng X.env.scope scope x cap)
    (hfp : ∀ b ∈ fp, FpOk X pins H b ∧ b < s.heap.objs.size) (hns : h1.Ns s.heap.objs.size (fun y => if y = ".0" then some it else none)) (hk : ∀ b o, s.heap.get? b = some o → h1.get? b = some o)
    (ha : h1.get? a = some go) (ha2 : s.heap.objs.size < a) (hgo : ∀ v, go.data ≠ .cell v) (hg : AllBare g') :
    Inv (gCx X Ng scope code s H fp [(a, go)]) [] (gSt σ cap) H { s with heap := h1, gens := g', toks := tk } := by
  have hfree := S.has I.ok
  have cm : ∀ {y c}, (cloFrom X.env.cells scope.names []).lookup y = some c → X.env.cells.lookup y = some c := fun {y c} e => by
    rcases cloFrom_mem (PySem.mem_of_lookup e) with hm | ⟨q1, q2⟩
    · cases hm
    · obtain ⟨c1, hc⟩ := hfree _ q1 rfl
      have hc : X.env.cells.lookup y = some c1 := hc
      rw [hc] at q2
      have e2 : c = c1 := q2
      rw [e2]; exact hc
  have look : ∀ {y}, scope.names.lookup y = some .free → ∃ c, (cloFrom X.env.cells scope.names []).lookup y = some c := fun {y} hl =>
    mem_lookup (cloFrom_has (cells := X.env.cells) (acc := []) (PySem.mem_of_lookup hl))
  have neC : ∀ b o, s.heap.get? b = some o → b ≠ s.heap.objs.size := fun b o e => Nat.ne_of_lt (Heap.lt_size e)
  have ltc : ∀ {y c}, X.env.cells.lookup y = some c → c < s.heap.objs.size := fun {y c} e => by
    obtain ⟨v, z⟩ := I.cell y c e
    exact z.lt
  have stkLt : ∀ b ∈ frs X.stack, b < s.heap.objs.size := fun b hb => by
    obtain ⟨_, o, ho, _⟩ := I.stack.mem hb
    exact Heap.lt_size ho
  have cellK : ∀ {c : Addr} {v : Option Value}, s.heap.IsCell c v → h1.IsCell c v := fun {c v} ⟨o, ho, hd⟩ => ⟨o, hk _ _ ho, hd⟩
  refine ⟨⟨I.ok.mod, S.kind, I.ok.glob, rfl, Nat.le_refl _, fun y z c e1 e2 => I.ok.inj y z c (cm e1) (cm e2), fun y hy => ?_, fun y c z _ => absurd (show false = true from z) Bool.false_ne_true, fun _ => hd, Around.frames_deeper (A := X.A.in1.in1) I.ok.frames, .inr ⟨rfl, rfl⟩,
      fun b hb => ⟨Nat.ne_of_lt (hfp b hb).2, fun y c e => (hfp b hb).1.2.2.2.2.1 y c (cm e)⟩, I.bs, Nat.le_trans I.ok.bsz I.sz, fun b o e hb => ?_, fun b hb hm => ?_, I.stack, I.stkFree⟩,
    rfl, hg, Un.kept hk, ⟨_, hns, fun i y v e1 e2 e3 => ?_⟩, fun y c e => ?_, I.hok.fresh (Nat.le_refl _), fun y c e => I.freeC y c (cm e), fun p hp => ?_, I.hok.kept hk, ?_⟩
  · have hy : scope.names.lookup y = some .cell ∨ scope.names.lookup y = some .free := hy
    rcases hy with hy | hy
    · exact absurd rfl (S.cell _ (PySem.mem_of_lookup hy))
    · exact look hy
  · rcases (hfp b hb).1.2.2.2.1 with z | z
    · exact I.ok.noex b o e z
    · exact absurd (Nat.lt_of_lt_of_le (Heap.lt_size (I.ok.bs b o e).1) z) (Nat.lt_irrefl _)
  · rcases List.mem_cons.mp (I.stkSub b hm) with z | z
    · exact (hfp b hb).1.2.1 z
    · exact (hfp b hb).1.2.2.1 z
  · have e1 : Ng[i]? = some y := e1
    have e2 : (gSt σ cap)[i]? = some (some v) := e2
    cases i with
    | zero => exact absurd e2 (by simp [gSt])
    | succ j =>
      obtain ⟨hf, i', hc, hn⟩ := S.tl j y e1
      have e2' : (cap.map fun i => (σ[i]?).join)[j]? = some (some v) := by simpa [gSt] using e2
      rw [List.getElem?_map, hc] at e2'
      have e2'' : (σ[i']?).join = some v := by simpa using e2'
      have e4 : σ[i']? = some (some v) := by
        cases q : σ[i']? with
        | none => rw [q] at e2''; cases e2''
        | some w => rw [q] at e2''; rw [← e2'']; rfl
      have hv : X.env.kindOf y = some .cell ∨ X.env.kindOf y = some .free := S.free (y, .free) (PySem.mem_of_lookup hf) rfl
      obtain ⟨m, hn', hl⟩ := I.loc
      obtain ⟨u, r, q⟩ := hl i' y v hn e4 (.inr hv)
      refine ⟨u, r, .inr ⟨.inr hf, ?_⟩⟩
      rcases q with ⟨k, _⟩ | ⟨_, c, ec, z⟩
      · rcases hv with w | w <;> (rw [k] at w; cases w)
      · obtain ⟨c', ec'⟩ := look hf
        have q := cm ec'
        rw [ec] at q
        cases q
        exact ⟨c, ec', cellK z⟩
  · obtain ⟨v, z⟩ := I.cell y c (cm e)
    exact ⟨v, cellK z⟩
  · have hp' : p ∈ [(a, go)] := by simpa [gCx] using hp
    rw [List.mem_singleton.mp hp']
    exact ⟨ha, I.hok.fresh (Nat.le_of_lt ha2), Nat.ne_of_gt ha2, fun hm => absurd (Nat.lt_trans ha2 (stkLt a hm)) (Nat.lt_irrefl _), hgo⟩
  · show (gSt σ cap).length = Ng.length
    rw [S.len]; simp [gSt]
end
end GX
namespace GX
open PySem PySem.Spec PyProof.Rows L2 GenW
/-- a value is handed out: Y tells what is wanted of it; the run goes on where Pv holds -/
def GY (Z : Cx) (τ : L2.St) (fp : List Addr) (tn : Nat → Heap → Prop) (N : Nat) (PG : Nat → List (Addr × Obj) → Prop) (Pv : Nat → Hp → Prop) (Y : Nat → V → Hp → Prop) : Protocol := fun n _ v s kap =>
  ∃ (i : Nat) (y : V) (H : Hp) (pg : List (Addr × Obj)), i + 1 + n = N ∧ RelV y v ∧ PG i pg ∧ Inv Z pg τ H s ∧ tn (i + 1) s.heap ∧ (∀ b ∈ fp, FpOk Z pg H b) ∧ Y i y H ∧
    ∀ (s' : Shared) (pg' : List (Addr × Obj)), PG (i + 1) pg' → Inv Z pg' τ H s' → tn (i + 1) s'.heap → (∀ b ∈ fp, FpOk Z pg' H b) → Pv (i + 1) H → kap (.send .none) s'
/-- the run's end -/
def GF (Z : Cx) (τ : L2.St) (PG : Nat → List (Addr × Obj) → Prop) (Qe : Nat → Hp → Prop) (i : Nat) (s : Shared) : Prop := ∃ (H : Hp) (pg : List (Addr × Obj)), PG i pg ∧ Inv Z pg τ H s ∧ Qe i H
def GR (Z : Cx) (τ : L2.St) (N : Nat) (PG : Nat → List (Addr × Obj) → Prop) (Qe : Nat → Hp → Prop) : GenEnd := fun n _ r s => ((r = .ok (.ret .none) ∨ r = .ok .next) ∧ ∃ i, i + n = N ∧ GF Z τ PG Qe i s) ∨ ∃ e, r = .error e ∧ False
/-- what a turn asks -/
def Turns (J : It) (N : Nat) (τ : L2.St) (te : TE) (Pv : Nat → Hp → Prop) (Y : Nat → V → Hp → Prop) (Qe : Nat → Hp → Prop) : Prop :=
  ∀ i H, Pv i H → (J.stop i H ∧ Qe i H) ∨ (J.go i H ∧ i < N ∧ ∀ v H', J.yld i H v H' → te (τ.set 0 (some v)) H' fun y H2 => Y i y H2)
theorem gLoop {Z : Cx} {B : Around} {it : Addr} {fp : List Addr} {tn : Nat → Heap → Prop} {J : It} {elt iter : Expr} {x : Str} {px gpos : Pos} {scope : Scope} {τ : L2.St} {te : TE} {N : Nat} {Pv : Nat → Hp → Prop} {Y : Nat → V → Hp → Prop} {Qe : Nat → Hp → Prop} {PG : Nat → List (Addr × Obj) → Prop}
    (hA : B.deeper Z.env = Z.A) (hcalm : Z.calm = true) (T : Turn Z.prog Z.w Z.K (.Name x px) J fp it tn) (hel : PE Z elt te) (hxe : ∀ e s, ¬ Z.xe e s)
    (hnd : Z.N.Nodup) (h0 : Z.N[0]? = some x) (hl : Z.env.scope.names.lookup x = some .local) (hco : Z.env.scope.isCoroutine = false) (hτ : τ[0]? = some none) (turn : Turns J N τ te Pv Y Qe) :
    ∀ (n i : Nat) (s₀ s : Shared) (H : Hp) (pg : List (Addr × Obj)), i + n = N → PG i pg → Inv Z pg τ H s → tn i s.heap → (∀ b ∈ fp, FpOk Z pg H b) → Pv i H →
      Seg (model Z.prog Z.w) B (GR Z τ N PG Qe) (GY Z τ fp tn N PG Pv Y) n s₀ (.compLoop (.GeneratorExp elt [⟨.Name x px, iter, [], 0⟩] scope gpos) 0 (.ref it) .none Z.env)
        ((model Z.prog Z.w).den (.compLoop (.GeneratorExp elt [⟨.Name x px, iter, [], 0⟩] scope gpos) 0 (.ref it) .none Z.env)) [] s := by
  intro n
  induction n with
  | zero =>
    intro i s₀ s H pg hin hpg I ht hf hp
    show Seg _ B _ _ _ s₀ _ ((compTurn (.GeneratorExp elt [⟨.Name x px, iter, [], 0⟩] scope gpos) 0 (.ref it) .none Z.env).onRaise (leaving Z.env)) [] s
    rw [compTurn_gen, Sem.onRaise_eq_wrap]
    refine seg_bind_wrap (wpAny_standAt ?_)
    rcases turn i H hp with ⟨stop, qe⟩ | ⟨_, hi, _⟩
    · refine seg_bind_wrap ?_
      rw [over_comp, hA]
      refine thn (T.done Z rfl rfl rfl hcalm i pg s τ H _ I hf ht stop) fun r s4 hr => ?_
      obtain ⟨er, I4⟩ := hr
      subst er
      exact seg_end (.ok .next) (.inl ⟨.inr rfl, i, hin, H, pg, hpg, I4, qe⟩)
    · omega
  | succ n ih =>
    intro i s₀ s H pg hin hpg I ht hf hp
    show Seg _ B _ _ _ s₀ _ ((compTurn (.GeneratorExp elt [⟨.Name x px, iter, [], 0⟩] scope gpos) 0 (.ref it) .none Z.env).onRaise (leaving Z.env)) [] s
    rw [compTurn_gen, Sem.onRaise_eq_wrap]
    refine seg_bind_wrap (wpAny_standAt ?_)
    rcases turn i H hp with ⟨stop, qe⟩ | ⟨go, hi, step⟩
    · refine seg_bind_wrap ?_
      rw [over_comp, hA]
      refine thn (T.done Z rfl rfl rfl hcalm i pg s τ H _ I hf ht stop) fun r s4 hr => ?_
      obtain ⟨er, I4⟩ := hr
      subst er
      exact seg_end (.ok .next) (.inl ⟨.inr rfl, i, hin, H, pg, hpg, I4, qe⟩)
    · refine seg_bind_wrap ?_
      rw [over_comp, hA]
      refine thn (T.item Z rfl rfl rfl hcalm i pg s τ H _ I hf ht go) fun r s4 hr => ?_
      obtain ⟨u, er, h4⟩ := hr
      subst er
      refine seg_bind_wrap ?_
      rw [over_comp, hA]
      refine thn h4 fun _ s5 h5 => ?_
      obtain ⟨y, H5, I5, r5, y5, st5, fr5⟩ := h5
      have stat : ∀ b ∈ fp, FpOk Z pg H5 b := fun b hb => ⟨fr5 b hb, (hf b hb).2⟩
      have I5' := I5.pinned stat (T.obj _ _ st5)
      refine seg_bind_wrap ?_
      rw [over_comp, hA]
      refine wpAny_assign_Name (store_ok I5' hnd h0 (.inl hl) r5 (fun s6 I6 => ?_) (.inr hl))
      refine seg_bind_wrap ?_
      rw [List.forIn_nil]
      refine wpAny_pure ?_
      simp only [if_true]
      have hy : ∀ v, yieldOut Z.env v = yieldValue v := fun v => by simp only [yieldOut, hco, Bool.false_eq_true, if_false]
      simp only [hy]
      rw [Sem.bind_eq_wrap', Sem.bind_eq_wrap', Sem.wrap_wrap, Sem.wrap_wrap]
      refine seg_wrap ?_
      rw [over_comp, hA]
      refine wpAny_mono (hel.run _ s6 _ H5 _ I6 (step y H5 y5)) (fun z s7 h7 => ?_) fun e s7 z => absurd z (hxe e s7)
      obtain ⟨v7, H7, I7, r7, q7⟩ := h7
      have pin7 : ∀ b ∈ fp, ∀ o, s5.heap.get? b = some o → s7.heap.get? b = some o ∧ H7 b = none := fun b hb o e => by
        have q := I7.pin (b, o) (List.mem_append_right _ (List.mem_append_right _ (mem_pinsAt hb e)))
        exact ⟨q.1, q.2.1⟩
      have t7 : tn (i + 1) s7.heap := T.keep _ _ _ st5 fun b hb o e => (pin7 b hb o e).1
      have f7 : ∀ b ∈ fp, FpOk Z pg H7 b := fun b hb => by
        obtain ⟨o, e, _⟩ := T.obj _ _ st5 b hb
        exact ⟨(pin7 b hb o e).2, (hf b hb).2⟩
      have J7 : Inv Z pg τ H7 s7 := (I7.unpinned).weak (by rw [List.length_set]) fun j v e => by
        by_cases hj : j = 0
        · subst hj
          rw [hτ] at e
          cases e
        · rw [List.getElem?_set_ne (Ne.symm hj)]
          exact e
      refine seg_at (seg_yield rfl rfl rfl ?_)
      refine ⟨i, v7, H7, pg, by omega, r7, hpg, J7, t7, f7, q7, fun s8 pg8 g8 I8 t8 f8 p8 => ?_⟩
      exact seg_again rfl (ih (i + 1) s8 s8 H7 pg8 (by omega) g8 I8 t8 f8 p8)
/-- .. from the start -/
theorem gBegin {Z : Cx} {B : Around} {it : Addr} {fp : List Addr} {tn : Nat → Heap → Prop} {J : It} {elt iter : Expr} {x : Str} {px gpos : Pos} {scope : Scope} {τ : L2.St} {te : TE} {N : Nat} {Pv : Nat → Hp → Prop} {Y : Nat → V → Hp → Prop} {Qe : Nat → Hp → Prop} {PG : Nat → List (Addr × Obj) → Prop}
    (hA : B.deeper Z.env = Z.A) (hcalm : Z.calm = true) (T : Turn Z.prog Z.w Z.K (.Name x px) J fp it tn) (hel : PE Z elt te) (hxe : ∀ e s, ¬ Z.xe e s)
    (hnd : Z.N.Nodup) (h0 : Z.N[0]? = some x) (hl : Z.env.scope.names.lookup x = some .local) (hco : Z.env.scope.isCoroutine = false) (hτ : τ[0]? = some none) (turn : Turns J N τ te Pv Y Qe)
    (s₀ s : Shared) (H : Hp) (pg : List (Addr × Obj)) (hpg : PG 0 pg) (I : Inv Z pg τ H s) (ht : tn 0 s.heap) (hf : ∀ b ∈ fp, FpOk Z pg H b) (hp : Pv 0 H) :
    Seg (model Z.prog Z.w) B (GR Z τ N PG Qe) (GY Z τ fp tn N PG Pv Y) N s₀ (.compStart (.GeneratorExp elt [⟨.Name x px, iter, [], 0⟩] scope gpos) 0 (.ref it) .none Z.env)
        ((model Z.prog Z.w).den (.compStart (.GeneratorExp elt [⟨.Name x px, iter, [], 0⟩] scope gpos) 0 (.ref it) .none Z.env)) [] s := by
  have loop := gLoop (iter := iter) (scope := scope) (gpos := gpos) hA hcalm T hel hxe hnd h0 hl hco hτ turn N 0 s₀ s H pg (Nat.zero_add _) hpg I ht hf hp
  show Seg _ B _ _ _ s₀ _ ((compStart (.GeneratorExp elt [⟨.Name x px, iter, [], 0⟩] scope gpos) 0 (.ref it) .none Z.env).onRaise (leaving Z.env)) [] s
  unfold compStart
  rw [Sem.onRaise_eq_wrap]
  show Seg _ B _ _ _ s₀ _ ((ask >>= _).wrap _ _ _ _) [] s
  refine seg_bind_wrap (wpAny_askSetting ?_)
  split
  · exact seg_again rfl loop
  · first
      | exact seg_bind_wrap (wpAny_rule (seg_bind_wrap (wpAny_standAt (seg_bind_wrap (T.self _ 0 s _ _ ht (seg_again rfl loop))))))
      | (refine seg_bind_wrap (wpAny_rule ?_); show Seg _ B _ _ _ s₀ _ ((standAt iter.pos >>= _).wrap _ _ _ _) [] s; exact seg_bind_wrap (wpAny_standAt (seg_bind_wrap (T.self _ 0 s _ _ ht (seg_again rfl loop)))))
end GX
namespace GX
open PySem PySem.Spec PyProof.Rows L2 GenW
theorem inv_gens {X : Cx} {pins : List (Addr × Obj)} {σ : L2.St} {H : Hp} {s : Shared} {g' : Array GenState} (I : Inv X pins σ H s) (hg : AllBare g') : Inv X pins σ H { s with gens := g' } :=
  ⟨I.ok, I.os, hg, I.base, I.loc, I.cell, I.free, I.freeC, I.pin, I.hok, I.len⟩
theorem inv_set {X : Cx} {pins : List (Addr × Obj)} {σ : L2.St} {H : Hp} {s : Shared} {g : Nat} {y : GenState} (I : Inv X pins σ H s) (hy : y.bare = true) : Inv X pins σ H (s.setGen g y) :=
  inv_gens I (allBare_setGen I.bare hy)
section
variable {Z : Cx} {A : Around} {a : Addr} {g : Nat} {τ : L2.St} {fp : List Addr} {tn : Nat → Heap → Prop} {N : Nat} {PG : Nat → List (Addr × Obj) → Prop} {Pv : Nat → Hp → Prop} {Y : Nat → V → Hp → Prop} {Qe : Nat → Hp → Prop} {Qf : Hp → Prop} {R : Result → Shared → Prop}
/-- the generator sleeps, n values at most are to come -/
def Sleeps (Z : Cx) (A : Around) (g : Nat) (τ : L2.St) (fp : List Addr) (tn : Nat → Heap → Prop) (N : Nat) (PG : Nat → List (Addr × Obj) → Prop) (Pv : Nat → Hp → Prop) (Y : Nat → V → Hp → Prop) (Qe : Nat → Hp → Prop) (n : Nat) (s : Shared) : Prop :=
  ∃ gs, s.gens[g]? = some gs ∧ gs.Goes (model Z.prog Z.w) A.in1.in1 (GR Z τ N PG Qe) (GY Z τ fp tn N PG Pv Y) n (.send .none) (s.setGen g .running)
/-- one step of whoever draws -/
theorem gNext {n : Nat} {s : Shared} {E : Value → Shared → Prop} {Q : Option Value → Shared → Prop} (hh : A.handled = none) (hd : A.depth < recursionLimit) (hgen : ∀ (s : Shared) H pg, Inv Z pg τ H s → s.heap.IsGen a g)
    (hT : ∀ i h h', tn i h → (∀ b ∈ fp, ∀ o, h.get? b = some o → h'.get? b = some o) → tn i h')
    (I : ∃ H pg, Inv Z pg τ H s) (hs : Sleeps Z A g τ fp tn N PG Pv Y Qe n s)
    (hY : ∀ (i : Nat) (y : V) (v : Value) (H : Hp) (pg : List (Addr × Obj)) (s1 : Shared), i + 1 + (n - 1) = N → RelV y v → PG i pg → Inv Z pg τ H s1 → Y i y H → (∀ b ∈ fp, FpOk Z pg H b) →
      (∀ s2 pg2, s2.gens = s1.gens → PG (i + 1) pg2 → Inv Z pg2 τ H s2 → (∀ b ∈ fp, ∀ o, s1.heap.get? b = some o → s2.heap.get? b = some o) → (∀ b ∈ fp, FpOk Z pg2 H b) → Pv (i + 1) H → ∃ m, m + 1 = n ∧ Sleeps Z A g τ fp tn N PG Pv Y Qe m s2) → Q (some v) s1)
    (hE : ∀ i s1, i + n = N → GF Z τ PG Qe i s1 → Q none s1) :
    wpAny (model Z.prog Z.w) A.in1 (pyNext (.ref a)) Q E s := by
  obtain ⟨H, pg, I⟩ := I
  obtain ⟨gs, hgs, hgo⟩ := hs
  have hgl : g < s.gens.size := (Array.getElem?_eq_some_iff.mp hgs).1
  refine wpAny_gsz (n := g + 1) hgl ?_
  refine next_genG (F := fun n _ s1 => ∃ i, i + n = N ∧ GF Z τ PG Qe i s1) (Er := fun _ _ => False) hh I.nolimit hd (hgen _ _ _ I) hgs hgo (fun v s1 gs' hb hv hsz => ?_) (fun s1 hp h' hk hsz => ?_) fun e s1 he => he.elim
  · obtain ⟨i, y, H1, pg1, hn, r, g1, I1, t1, f1, q1, wake⟩ := hv
    have hsz1 : g < s1.gens.size := by
      have q : (s1.setGen g gs').gens.size = s1.gens.size := setGen_size _ _ _
      have hz : g + 1 ≤ (s1.setGen g gs').gens.size := hsz
      omega
    refine hY i y v H1 pg1 _ hn r g1 (inv_set I1 hb) q1 f1 (fun s2 pg2 eg g2 I2 hk2 f2 p2 => ?_)
    cases n with
    | zero => exact (wake s2 pg2 g2 I2 (hT _ _ _ t1 hk2) f2 p2).elim
    | succ m =>
      refine ⟨m, rfl, gs', ?_, ?_⟩
      · rw [eg]
        exact setGen_at hsz1
      · exact wake (s2.setGen g .running) pg2 g2 (inv_set I2 rfl) (hT _ _ _ t1 hk2) f2 p2
  · obtain ⟨i, hi, H1, pg1, g1, I1, q1⟩ := hp
    refine hE i _ hi ⟨H1, pg1, g1, ?_, q1⟩
    exact (inv_set I1 rfl).kept (t' := (s1.setGen g .finished).toks) hk
theorem allLoop (hh : A.handled = none) (hd : A.depth < recursionLimit) (hgen : ∀ (s : Shared) H pg, Inv Z pg τ H s → s.heap.IsGen a g)
    (hT : ∀ i h h', tn i h → (∀ b ∈ fp, ∀ o, h.get? b = some o → h'.get? b = some o) → tn i h')
    (hY : ∀ i y H, Y i y H → ∃ b, y = .bl b ∧ (b = true → Pv (i + 1) H) ∧ (b = false → Qf H))
    (hend : ∀ i s' H pg, Inv Z pg τ H s' → Qe i H → R (.ok (.ret (.bool true))) s') (hbrk : ∀ s' H pg, Inv Z pg τ H s' → Qf H → R (.ok (.ret (.bool false))) s') :
    ∀ (n : Nat) (s : Shared), (∃ H pg, Inv Z pg τ H s) → Sleeps Z A g τ fp tn N (fun _ pg => pg = []) Pv Y Qe n s → codeAny (model Z.prog Z.w) A (.builtin "all.loop" ⟨[.ref a], []⟩) R s := by
  intro n
  induction n using Nat.strongRecOn with
  | ind n ih =>
    intro s I hs
    refine codeAny_builtin F.entry_all_loop ?_
    rw [Around.under_plainId F.plain_all_loop _]
    show wpAny _ A.in1 (pyNext (.ref a) >>= _) _ _ s
    refine wpAny_bind (gNext hh hd hgen hT I hs (fun i y v H pg s1 _ r g1 I1 q1 f1 wake => ?_) fun i s1 _ h1 => ?_)
    · obtain ⟨b, ey, h1, h2⟩ := hY i y H q1
      subst ey
      obtain rfl : v = Value.bool b := r
      refine wpAny_bind (wpAny_holding (wpAny_truthy_bool ?_))
      refine wpAny_bind (wpAny_letGo ?_)
      cases b with
      | true =>
        simp only [if_true]
        obtain ⟨m, hm, sl⟩ := wake s1 pg rfl g1 I1 (fun _ _ _ e => e) f1 (h1 rfl)
        exact wpAny_pure ⟨plainId_quiet F.plain_all_loop _, ih m (by omega) s1 ⟨H, pg, I1⟩ sl⟩
      | false =>
        simp only [Bool.false_eq_true, if_false]
        exact wpAny_bind (wpAny_rule (wpAny_pure (hbrk _ H pg I1 (h2 rfl))))
    · obtain ⟨H1, pg1, _, I1, q1⟩ := h1
      exact wpAny_bind (wpAny_rule (wpAny_pure (hend i _ H1 pg1 I1 q1)))
theorem anyLoop (hh : A.handled = none) (hd : A.depth < recursionLimit) (hgen : ∀ (s : Shared) H pg, Inv Z pg τ H s → s.heap.IsGen a g)
    (hT : ∀ i h h', tn i h → (∀ b ∈ fp, ∀ o, h.get? b = some o → h'.get? b = some o) → tn i h')
    (hY : ∀ i y H, Y i y H → ∃ b, y = .bl b ∧ (b = false → Pv (i + 1) H) ∧ (b = true → Qf H))
    (hend : ∀ i s' H pg, Inv Z pg τ H s' → Qe i H → R (.ok (.ret (.bool false))) s') (hbrk : ∀ s' H pg, Inv Z pg τ H s' → Qf H → R (.ok (.ret (.bool true))) s') :
    ∀ (n : Nat) (s : Shared), (∃ H pg, Inv Z pg τ H s) → Sleeps Z A g τ fp tn N (fun _ pg => pg = []) Pv Y Qe n s → codeAny (model Z.prog Z.w) A (.builtin "any.loop" ⟨[.ref a], []⟩) R s := by
  intro n
  induction n using Nat.strongRecOn with
  | ind n ih =>
    intro s I hs
    refine codeAny_builtin F.entry_any_loop ?_
    rw [Around.under_plainId F.plain_any_loop _]
    show wpAny _ A.in1 (pyNext (.ref a) >>= _) _ _ s
    refine wpAny_bind (gNext hh hd hgen hT I hs (fun i y v H pg s1 _ r g1 I1 q1 f1 wake => ?_) fun i s1 _ h1 => ?_)
    · obtain ⟨b, ey, h1, h2⟩ := hY i y H q1
      subst ey
      obtain rfl : v = Value.bool b := r
      refine wpAny_bind (wpAny_holding (wpAny_truthy_bool ?_))
      refine wpAny_bind (wpAny_letGo ?_)
      cases b with
      | true =>
        simp only [if_true]
        exact wpAny_bind (wpAny_rule (wpAny_pure (hbrk _ H pg I1 (h2 rfl))))
      | false =>
        simp only [Bool.false_eq_true, if_false]
        obtain ⟨m, hm, sl⟩ := wake s1 pg rfl g1 I1 (fun _ _ _ e => e) f1 (h1 rfl)
        exact wpAny_pure ⟨plainId_quiet F.plain_any_loop _, ih m (by omega) s1 ⟨H, pg, I1⟩ sl⟩
    · obtain ⟨H1, pg1, _, I1, q1⟩ := h1
      exact wpAny_bind (wpAny_rule (wpAny_pure (hend i _ H1 pg1 I1 q1)))
/-- an untracked thing of the consumer's turns -/
theorem pinTurn {S : Addr} {o o' : Obj} {H : Hp} {s : Shared} {h' : Heap} {t' : Nat} (I : Inv Z [(S, o)] τ H s) (hS : Z.s_0.heap.objs.size ≤ S) (hc : ∀ y c, Z.env.cells.lookup y = some c → c ≠ S) (hp : ∀ p ∈ Z.pn, p.1 ≠ S)
    (k : ∀ b u, b ≠ S → s.heap.get? b = some u → h'.get? b = some u) (e : h'.get? S = some o') (ho : ∀ v, o'.data ≠ .cell v) : Inv Z [(S, o')] τ H { s with heap := h', toks := t' } := by
  obtain ⟨_, n0, nL, nF, _⟩ := I.pin (S, o) (List.mem_append_right _ List.mem_cons_self)
  have n0 : H S = none := n0
  have I0 : Inv Z [] τ H s := I.pins_of fun p hp => absurd hp (by simp)
  have nc : ∀ b, b ∉ [S] → b ≠ S := fun b hb z => hb (by rw [z]; exact List.mem_singleton.mpr rfl)
  have nt : ∀ b u, H b = some u → b ≠ S := fun b u q hb => by rw [hb, n0] at q; cases q
  have J : Inv Z [] τ H { s with heap := h', gens := s.gens, drawn := s.drawn, toks := t' } := by
    refine I0.step (g' := s.gens) (d' := s.drawn) (t' := t') (ch := [S]) (fun b hb => ?_) (fun b ob _ _ hc q _ => k b ob (nc b hc) q) (fun b ob _ _ hc q _ => ⟨ob.slots, k b ob (nc b hc) q⟩) (fun _ _ _ _ n => n) (fun b ob hc q => ⟨ob, k b ob (nc b hc) q⟩)
      (fun _ _ q => q) (fun _ _ _ q => q) (fun b ps q => ⟨#[], by rw [q]; simp⟩) (fun m hm => ?_) (fun b u q => ?_) I.bare
    · rw [List.mem_singleton.mp hb]
      exact ⟨.inr hS, nL, hc, fun p hq => hp p (by simpa using hq)⟩
    · obtain ⟨ob, es, ep, ho, r⟩ := hm
      exact ⟨ob, es, ep, k _ ob (Ne.symm nL) ho, r⟩
    · refine (I0.hok b u q).stay (fun c v hc y => k c v ?_ y) (fun _ y => y) fun _ _ y => y
      rcases hc with y | y
      · rw [y]; exact nt b u q
      · exact nt c _ y
  refine J.pins_of fun p hq => ?_
  rw [List.mem_singleton.mp hq]
  exact ⟨e, n0, nL, nF, ho⟩
abbrev accObj (c : Int) (t : Tok) (n : Nat) : Obj := { cls := .type "list", dict := none, data := .seq #[.int c t] n, slots := #[] }
theorem sumLoop {S : Addr} {val : Nat → Int} (hh : A.handled = none) (hd : A.depth < recursionLimit) (hgen : ∀ (s : Shared) H pg, Inv Z pg τ H s → s.heap.IsGen a g)
    (hT : ∀ i h h', tn i h → (∀ b ∈ fp, ∀ o, h.get? b = some o → h'.get? b = some o) → tn i h')
    (hS : Z.s_0.heap.objs.size ≤ S) (hc : ∀ y c, Z.env.cells.lookup y = some c → c ≠ S) (hp : ∀ p ∈ Z.pn, p.1 ≠ S)
    (hfit : ∀ j, j < N → InLong (val j) ∧ InLong (preSum val (j + 1))) (hY : ∀ i y H, Y i y H → y = .int (val i) ∧ Pv (i + 1) H)
    (hend : ∀ i s' H pg t', Inv Z pg τ H s' → Qe i H → R (.ok (.ret (.int (preSum val i) t'))) s') :
    ∀ (n : Nat) (s : Shared) (i : Nat) (t : Tok) (c : Nat), i + n = N → (∃ H, Inv Z [(S, accObj (preSum val i) t c)] τ H s) →
      Sleeps Z A g τ fp tn N (fun i pg => ∃ t c, pg = [(S, accObj (preSum val i) t c)]) Pv Y Qe n s → codeAny (model Z.prog Z.w) A (.builtin "sum.loop" ⟨[.ref a, .ref S, rawInt 0, rawInt 0], []⟩) R s := by
  intro n
  induction n with
  | zero =>
    intro s i t c hin I hs
    obtain ⟨H, I⟩ := I
    have eS : s.heap.get? S = some (accObj (preSum val i) t c) := (I.pin (S, _) (List.mem_append_right _ List.mem_cons_self)).1
    refine codeAny_builtin F.entry_sum_loop ?_
    rw [Around.under_plainId F.plain_sum_loop _]
    show wpAny _ A.in1 (seqItems? (.ref S) >>= _) _ _ s
    refine wpAny_bind (wpAny_seqItems eS rfl ?_)
    show wpAny _ A.in1 (tryCatch (pyNext (.ref a)) _ >>= _) _ _ s
    refine wpAny_bind (wpAny_tryCatch (gNext hh hd hgen hT ⟨H, _, I⟩ hs (fun j y v H1 pg s1 hn r g1 I1 q1 f1 wake => ?_) fun j s1 hj h1 => ?_))
    · obtain ⟨ey, p1⟩ := hY j y H1 q1
      obtain ⟨t1, c1, e1⟩ := g1
      subst e1
      -- nothing may come any more
      have e2 : s1.heap.get? S = some (accObj (preSum val j) t1 c1) := (I1.pin (S, _) (List.mem_append_right _ List.mem_cons_self)).1
      have nS : ∀ b ∈ fp, b ≠ S := fun b hb z => (f1 b hb).2.2.2.2.2 (S, _) (List.mem_append_right _ List.mem_cons_self) z.symm
      have J := pinTurn (o' := accObj (preSum val (j + 1)) t1 c1) (h' := s1.heap.update S (fun _ => accObj (preSum val (j + 1)) t1 c1)) (t' := s1.toks) I1 hS hc hp (fun b u hb q => (Heap.get?_update_other _ _ (Ne.symm hb)).trans q)
        (Heap.get?_update_self _ e2 rfl) (fun v z => by cases z)
      obtain ⟨m, hm, _⟩ := wake { s1 with heap := s1.heap.update S (fun _ => accObj (preSum val (j + 1)) t1 c1) } [(S, accObj (preSum val (j + 1)) t1 c1)] rfl ⟨t1, c1, rfl⟩ J
        (fun b hb o q => (Heap.get?_update_other _ _ (Ne.symm (nS b hb))).trans q) (fun b hb => ⟨(f1 b hb).1, (f1 b hb).2.1, (f1 b hb).2.2.1, (f1 b hb).2.2.2.1, (f1 b hb).2.2.2.2.1, fun p hq => by
          rcases List.mem_append.mp hq with z | z
          · exact (f1 b hb).2.2.2.2.2 p (List.mem_append_left _ z)
          · rw [List.mem_singleton.mp z]; exact Ne.symm (nS b hb)⟩) p1
      exact absurd hm (Nat.succ_ne_zero m)
    · obtain ⟨H1, pg1, _, I1, q1⟩ := h1
      have ej : j = i := by omega
      subst ej
      exact wpAny_pure (hend j s1 H1 pg1 t I1 q1)
  | succ n ih =>
    intro s i t c hin I hs
    obtain ⟨H, I⟩ := I
    have eS : s.heap.get? S = some (accObj (preSum val i) t c) := (I.pin (S, _) (List.mem_append_right _ List.mem_cons_self)).1
    refine codeAny_builtin F.entry_sum_loop ?_
    rw [Around.under_plainId F.plain_sum_loop _]
    show wpAny _ A.in1 (seqItems? (.ref S) >>= _) _ _ s
    refine wpAny_bind (wpAny_seqItems eS rfl ?_)
    show wpAny _ A.in1 (tryCatch (pyNext (.ref a)) _ >>= _) _ _ s
    refine wpAny_bind (wpAny_tryCatch (gNext hh hd hgen hT ⟨H, _, I⟩ hs (fun j y v H1 pg s1 hn r g1 I1 q1 f1 wake => ?_) fun j s1 hj h1 => ?_))
    · obtain ⟨ey, p1⟩ := hY j y H1 q1
      subst ey
      obtain ⟨tv, ev⟩ := r
      subst ev
      obtain ⟨t1, c1, e1⟩ := g1
      subst e1
      have ej : j = i := by omega
      subst ej
      have e2 : s1.heap.get? S = some (accObj (preSum val j) t1 c1) := (I1.pin (S, _) (List.mem_append_right _ List.mem_cons_self)).1
      have nS : ∀ b ∈ fp, b ≠ S := fun b hb z => (f1 b hb).2.2.2.2.2 (S, _) (List.mem_append_right _ List.mem_cons_self) z.symm
      obtain ⟨⟨b1, b2⟩, b3, b4⟩ := hfit j (by omega)
      have hok : ((decide (-(2 ^ 63) ≤ val j) && decide (val j < 2 ^ 63)) && (decide (-(2 ^ 63) ≤ preSum val j + val j) && decide (preSum val j + val j < 2 ^ 63))) = true := by
        simp only [preSum] at b3 b4
        simp only [Bool.and_eq_true, decide_eq_true_eq]
        exact ⟨⟨b1, b2⟩, b3, b4⟩
      show wpAny _ A.in1 (if (_ : Bool) = true then (mkInt (preSum val j + val j) >>= _) else _) _ _ _
      split
      · refine wpAny_bind (wpAny_mkInt ?_)
        show wpAny _ A.in1 (updateSeq S (fun _ => #[.int (preSum val j + val j) s1.toks]) >>= _) _ _ _
        refine wpAny_bind (wpAny_updateSeq e2 rfl ?_)
        have e3 := Heap.get?_update_self (Obj.mapSeq (fun _ => #[Value.int (preSum val j + val j) s1.toks])) e2 rfl
        obtain ⟨c2, e4⟩ : ∃ c2, Obj.mapSeq (fun _ => #[Value.int (preSum val j + val j) s1.toks]) (accObj (preSum val j) t1 c1) = accObj (preSum val (j + 1)) s1.toks c2 := ⟨_, rfl⟩
        rw [e4] at e3
        have J := pinTurn (o' := accObj (preSum val (j + 1)) s1.toks c2) (t' := s1.toks + 1) I1 hS hc hp (fun b u hb q => (Heap.get?_update_other _ _ (Ne.symm hb)).trans q) e3 (fun v z => by cases z)
        obtain ⟨m, hm, sl⟩ := wake { s1 with heap := s1.heap.update S (Obj.mapSeq (fun _ => #[Value.int (preSum val j + val j) s1.toks])), toks := s1.toks + 1 } [(S, accObj (preSum val (j + 1)) s1.toks c2)] rfl ⟨_, _, rfl⟩ J
          (fun b hb o q => (Heap.get?_update_other _ _ (Ne.symm (nS b hb))).trans q) (fun b hb => ⟨(f1 b hb).1, (f1 b hb).2.1, (f1 b hb).2.2.1, (f1 b hb).2.2.2.1, (f1 b hb).2.2.2.2.1, fun p hq => by
            rcases List.mem_append.mp hq with z | z
            · exact (f1 b hb).2.2.2.2.2 p (List.mem_append_left _ z)
            · rw [List.mem_singleton.mp z]; exact Ne.symm (nS b hb)⟩) p1
        have em : m = n := by omega
        subst em
        exact wpAny_pure ⟨plainId_quiet F.plain_sum_loop _, ih _ (j + 1) s1.toks c2 (by omega) ⟨H1, J⟩ sl⟩
      · rename_i hneg
        exact absurd hok hneg
    · obtain ⟨H1, pg1, hpg, I1, q1⟩ := h1
      obtain ⟨t1, c1, e1⟩ := hpg
      have ej : j = i := by omega
      subst ej
      exact wpAny_pure (hend j s1 H1 pg1 t I1 q1)
end
end GX
namespace GX
open PySem PySem.Spec PyProof.Rows L2 GenW
theorem room_gen {k : Nat} {X : Cx} {Ng : List Str} {scope : Scope} {code : Value} {s : Shared} {H : Hp} {fp : List Addr} {pn : List (Addr × Obj)} (r : Room (k + 1) X.A) : Room k (gCx X Ng scope code s H fp pn).A :=
  ⟨r.hd, by have := r.dp; show X.A.depth + 1 + 3 * k + 5 < _; omega, by have := r.un; show X.A.units + 1 + 1 + 3 + 16 * k + 200 < _; omega⟩
section
variable {X : Cx} {pins : List (Addr × Obj)} {σ : L2.St} {H : Hp} {s : Shared} {Ng : List Str} {scope : Scope} {x : Str} {cap : List Nat}
theorem gFp {fp : List Addr} {code : Value} {a : Addr} {go : Obj} (S : GS X.N Ng X.env.scope scope x cap) (ok : X.Ok) (I : Inv X pins σ H s) (hfp : ∀ b ∈ fp, FpOk X pins H b ∧ b < s.heap.objs.size) (ha : s.heap.objs.size < a) :
    ∀ b ∈ fp, FpOk (gCx X Ng scope code s H fp [(a, go)]) [] H b := fun b hb => by
  obtain ⟨⟨f1, f2, f3, f4, f5, f6⟩, lt⟩ := hfp b hb
  refine ⟨f1, Nat.ne_of_lt lt, fun hm => ?_, .inl hb, fun y c e => ?_, fun p hp => ?_⟩
  · rcases List.mem_cons.mp (I.stkSub b hm) with z | z
    · exact f2 z
    · exact f3 z
  · have e : (cloFrom X.env.cells scope.names []).lookup y = some c := e
    rcases cloFrom_mem (PySem.mem_of_lookup e) with hm | ⟨q1, q2⟩
    · cases hm
    · obtain ⟨c1, hc⟩ := S.has ok _ q1 rfl
      have hc : X.env.cells.lookup y = some c1 := hc
      rw [hc] at q2
      have e2 : c = c1 := q2
      rw [e2]
      exact f5 y c1 hc
  · have hp' : p ∈ [(a, go)] := by simpa [gCx] using hp
    rw [List.mem_singleton.mp hp']
    exact Nat.ne_of_gt (Nat.lt_trans lt ha)
/-- the run is over: the maker goes on -/
theorem gDone {fp : List Addr} {code : Value} {pn pg : List (Addr × Obj)} {τ : L2.St} {H' : Hp} {s' : Shared} (I : Inv X pins σ H s) (hfp : ∀ b ∈ fp, FpOk X pins H b ∧ b < s.heap.objs.size)
    (J : Inv (gCx X Ng scope code s H fp pn) pg τ H' s') : Inv X pins σ H' s' :=
  I.call' (ch := fp) J.os J.base J.hok J.bare fun b hb => ⟨(hfp b hb).1.2.2.2.1, (hfp b hb).1.2.1, (hfp b hb).1.2.2.2.2.1, (hfp b hb).1.2.2.2.2.2⟩
abbrev genObj (g : Nat) (t1 t2 : Tok) (q : Str) : Obj := { cls := .type "generator", data := .fields #[.int g 0, .str "<genexpr>" t1, .str q t2] }
/-- a generator has been made at a, that has not begun -/
structure Made (X : Cx) (pins : List (Addr × Obj)) (σ : L2.St) (Ng : List Str) (scope : Scope) (cap : List Nat) (elt iter : Expr) (x : Str) (px gpos : Pos) (P : Addr) (J : It) (H1 : Hp) (a : Addr) (s5 : Shared) : Prop where
  ex : ∃ (s3 : Shared) (H3 : Hp) (code : Value) (it : Addr) (fp : List Addr) (tn : Nat → Heap → Prop) (go : Obj) (g : Nat), GxR.Tabbed P H1 H3 ∧ Inv X pins σ H3 s3 ∧ (∀ b ∈ fp, FpOk X pins H3 b ∧ b < s3.heap.objs.size) ∧
    Turn X.prog X.w X.K (.Name x px) J fp it tn ∧ tn 0 s5.heap ∧ s3.heap.objs.size < a ∧ a < s5.heap.objs.size ∧ (∀ h : Heap, h.get? a = some go → h.IsGen a g) ∧
    Inv (gCx X Ng scope code s3 H3 fp [(a, go)]) [] (gSt σ cap) H3 s5 ∧ (∀ b ∈ fp, FpOk (gCx X Ng scope code s3 H3 fp [(a, go)]) [] H3 b) ∧
    s5.gens[g]? = some (.fresh (.compStart (.GeneratorExp elt [⟨.Name x px, iter, [], 0⟩] scope gpos) 0 (.ref it) .none (gEnv X scope s3.heap.objs.size code)))
theorem gMake {c P : Addr} {elt iter : Expr} {px gpos : Pos} {wi : TI} {Q' : Value → Shared → Prop} (hroom : X.A.depth < recursionLimit) (hd : X.A.handled = none) (TB : LamX.TabB X.base X.mg c P) (hcode : X.env.code = .ref c) (S : GS X.N Ng X.env.scope scope x cap)
    (hi : PI X (.Name x px) iter wi) (hs : ∀ v, genFold iter X.env v = pure v) {R : It → Hp → Prop} (I : Inv X pins σ H s) (h : wi σ H fun J H1 => GxR.TabG H1 P ∧ R J H1)
    (hQ : ∀ J H1 a s5, R J H1 → Made X pins σ Ng scope cap elt iter x px gpos P J H1 a s5 → Q' (.ref a) s5) :
    wpAny (model X.prog X.w) X.A (eval (.GeneratorExp elt [⟨.Name x px, iter, [], 0⟩] scope gpos) X.env) Q' X.xe s := by
  refine wpAny_GeneratorExp_make S.co (closure_ok (S.has I.ok)) S.cell S.dot S.kind hroom ?_ hs
  refine thn (hi.run pins s σ H _ I h) fun v s1 h1 => thn h1 fun itv s2 h2 => ?_
  obtain ⟨it, fp, tn, J, H2, e, I2, T, st2, f2, ⟨ps, hP, ht⟩, q2⟩ := h2
  subst e
  refine ⟨I2.nolimit, ?_⟩
  have hPs : s2.heap.get? P = some { cls := .none, data := .fields ps } := I2.hok P _ hP
  have fpLt : ∀ b ∈ fp, b < s2.heap.objs.size := fun b hb => by
    obtain ⟨o, e, _⟩ := T.obj _ _ st2 b hb
    exact Heap.lt_size e
  have fpP : ∀ b ∈ fp, b ≠ P := fun b hb z => by
    have q := (f2 b hb).1
    rw [z, hP] at q
    cases q
  have cd : PySem.W.CodeHd s2.heap c P := TB.code.keeps I2.bk
  have cont : ∀ (code : Value) (h3 : Heap) (tk : Nat) (more : Array Value), Heap.ExtBut P s2.heap h3 → s2.heap.objs.size ≤ h3.objs.size → h3.get? P = some { cls := .none, data := .fields (ps ++ more) } → TriplesOk (ps ++ more).toList →
      wpAny (model X.prog X.w) X.A (builtinsFor X.env.globals X.env.builtins) (fun bi s₄ => ∀ h', h'.Ns s₄.heap.objs.size (fun y => if y = ".0" then some (.ref it) else none) → Heap.SameBut s₄.heap.objs.size (s₄.heap.push { cls := .type "frame", data := .dict #[] }) h' →
        Q' (.ref h'.objs.size) { s₄ with
            gens := s₄.gens.push (.fresh (.compStart (.GeneratorExp elt [⟨.Name x px, iter, [], 0⟩] scope gpos) 0 (.ref it) .none (genEnv scope (cloFrom X.env.cells scope.names []) s₄.heap.objs.size code bi X.env))),
            toks := s₄.toks + 1 + 1 + 1,
            heap := h'.push { cls := .type "generator", data := .fields #[.int s₄.gens.size 0, .str "<genexpr>" (s₄.toks + 1), .str (X.env.qual ++ "<genexpr>") (s₄.toks + 1 + 1)] } }) X.xe { s2 with heap := h3, toks := tk } := by
    intro code h3 tk more hx hsz hP3 ht3
    obtain ⟨bm, ob, e1, e2, e3, e4, e5, e6, e7, e8⟩ := TB.bm
    have keep3 : ∀ b u, b ≠ P → s2.heap.get? b = some u → h3.get? b = some u := fun b u hb e => hx b u hb e
    refine wpAny_builtinsFor (m := X.mg) (by rw [I2.ok.glob]; exact (I2.mod.glob.keeps I2.bk).extBut hx TB.gP) e1 e2 (keep3 _ _ e4 (I2.bk _ _ e5)) e6 e7 e8 ?_
    intro h' hn' hs'
    have I3 : Inv X pins σ (upd H2 P (.tbl (ps ++ more))) { s2 with heap := h3, toks := tk } :=
      GxR.inv_tab (g' := s2.gens) (d' := s2.drawn) I2 hP (fun b u hb e => keep3 b u hb e) hP3 I2.bare
    have tab : GxR.Tabbed P H2 (upd H2 P (.tbl (ps ++ more))) := ⟨⟨ps ++ more, upd_same, ht3⟩, fun b hb => upd_ne hb⟩
    have f3 : ∀ b ∈ fp, FpOk X pins (upd H2 P (.tbl (ps ++ more))) b ∧ b < h3.objs.size := fun b hb => ⟨⟨by rw [upd_ne (fpP b hb)]; exact (f2 b hb).1, (f2 b hb).2⟩, Nat.lt_of_lt_of_le (fpLt b hb) hsz⟩
    have hsz' : h'.objs.size = h3.objs.size + 1 := by
      have q := hs'.1
      rw [q, Heap.size_push]
    have keep' : ∀ b o, h3.get? b = some o → h'.get? b = some o := fun b o e => hs'.extBut b o (Nat.ne_of_lt (Heap.lt_size e)) (Heap.get?_push_of_some _ e)
    have keep5 : ∀ b o, h3.get? b = some o → (h'.push (genObj s2.gens.size (tk + 1) (tk + 1 + 1) (X.env.qual ++ "<genexpr>"))).get? b = some o := fun b o e => Heap.get?_push_of_some _ (keep' b o e)
    have lt : h3.objs.size < h'.objs.size := by omega
    refine hQ J H2 h'.objs.size _ q2 ⟨{ s2 with heap := h3, toks := tk }, upd H2 P (.tbl (ps ++ more)), code, it, fp, tn, genObj s2.gens.size (tk + 1) (tk + 1 + 1) (X.env.qual ++ "<genexpr>"), s2.gens.size, tab, I3, f3, T, ?_, lt, ?_, ?_, ?_, ?_, ?_⟩
    · exact T.keep _ _ _ st2 fun b hb o e => keep5 b o (keep3 b o (fpP b hb) e)
    · show h'.objs.size < (h'.push _).objs.size
      rw [Heap.size_push]
      exact Nat.lt_succ_self _
    · intro h e
      exact ⟨_, _, _, e, rfl, rfl, rfl⟩
    · exact gStart (it := .ref it) I3 hd S f3 (hn'.push _) keep5 (Heap.get?_push_size _ rfl) lt (fun v z => by cases z) (I2.bare.push rfl)
    · exact gFp S I2.ok I3 f3 lt
    · exact Array.getElem?_push_size ..
  cases hf : codeAmong gpos ps.toList with
  | none =>
    refine wpAny_genexprCodeX hcode (cd.code hPs ht) (cd.tab hPs) hf fun c' h' tk hx hge hlt hco' _ htab' _ => ?_
    obtain ⟨o1, vs, f1, tf, fl, tg, inF, tx, tt, op, _, _, _, _, _, _, _, _, _, htr, _⟩ := hco'
    exact cont _ h' tk _ hx (Nat.le_trans hge (Nat.le_of_lt hlt)) htab'.2 htr
  | some cv =>
    refine wpAny_genexprCode_hit hcode (cd.code hPs ht) hf ?_
    exact cont cv s2.heap s2.toks #[] (Heap.ExtBut.refl _ _) (Nat.le_refl _) (by simpa using hPs) (by simpa using ht)
end
/-! ### the rules -/
/-- all(e for x in ..), any(..), sum(..): J the walk, N a bound of the turns -/
def tAllG (P : Addr) (cap : List Nat) (wi : TI) (te : TE) : TE := fun σ H Q => wi σ H fun J H1 => GxR.TabG H1 P ∧ ∀ H2, GxR.Tabbed P H1 H2 → ∃ (N : Nat) (Pv : Nat → Hp → Prop), Pv 0 H2 ∧
  Turns J N (gSt σ cap) te Pv (fun i y H => ∃ b, y = .bl b ∧ (b = true → Pv (i + 1) H) ∧ (b = false → Q (.bl false) H)) (fun _ H => Q (.bl true) H)
def tAnyG (P : Addr) (cap : List Nat) (wi : TI) (te : TE) : TE := fun σ H Q => wi σ H fun J H1 => GxR.TabG H1 P ∧ ∀ H2, GxR.Tabbed P H1 H2 → ∃ (N : Nat) (Pv : Nat → Hp → Prop), Pv 0 H2 ∧
  Turns J N (gSt σ cap) te Pv (fun i y H => ∃ b, y = .bl b ∧ (b = false → Pv (i + 1) H) ∧ (b = true → Q (.bl true) H)) (fun _ H => Q (.bl false) H)
def tSumG (P : Addr) (cap : List Nat) (wi : TI) (te : TE) : TE := fun σ H Q => wi σ H fun J H1 => GxR.TabG H1 P ∧ ∀ H2, GxR.Tabbed P H1 H2 → ∃ (N : Nat) (val : Nat → Int) (Pv : Nat → Hp → Prop), Pv 0 H2 ∧
  (∀ j, j < N → InLong (val j) ∧ InLong (preSum val (j + 1))) ∧ Turns J N (gSt σ cap) te Pv (fun i y H => y = .int (val i) ∧ Pv (i + 1) H) (fun i H => Q (.int (preSum val i)) H)
section
variable {X : Cx} {c P : Addr} {elt iter : Expr} {x : Str} {px p pos gpos : Pos} {scope : Scope} {Ng : List Str} {cap : List Nat} {wi : TI} {te : TE} {k : Nat}
theorem pe_allG (hr : Room k X.A) (hg : Gl X "all") (hm : X.mg "all" = none) (TB : LamX.TabB X.base X.mg c P) (hcode : X.env.code = .ref c) (S : GS X.N Ng X.env.scope scope x cap) (hi : PI X (.Name x px) iter wi)
    (hel : ∀ (code : Value) (s : Shared) (H : Hp) (fp : List Addr) (pn : List (Addr × Obj)), PE (gCx X Ng scope code s H fp pn) elt te) (hs : ∀ v, genFold iter X.env v = pure v := by intro _; rfl) (hb : bootBuiltins "all" = some (.builtin "all") := by decide +kernel)
    (he : starEach [.GeneratorExp elt [⟨.Name x px, iter, [], 0⟩] scope gpos] X.env = (false, eval (.GeneratorExp elt [⟨.Name x px, iter, [], 0⟩] scope gpos) X.env) :: starEach [] X.env := by rfl) :
    PE X (.Call (.Name "all" p) [.GeneratorExp elt [⟨.Name x px, iter, [], 0⟩] scope gpos] [] pos) (tAllG P cap wi te) := by
  refine ⟨fun pins s σ H Q I h => ?_⟩
  refine wpAny_Call_Name_kw (ld_blt I hg hm hb ?_)
  refine PyProof.Rows.callWith_builtin1 ?_ he (by rfl)
  rw [he]
  show wpAny _ _ (spliced ((false, eval (.GeneratorExp elt [⟨.Name x px, iter, [], 0⟩] scope gpos) X.env) :: backTo pos (starEach [] X.env))) _ _ s
  refine Calls.spliced_cons (gMake hr.depth hr.hd TB hcode S hi hs I h fun J H1 a s5 hR hM => ?_)
  refine Calls.spliced_nil ?_
  obtain ⟨s3, H3, code, it, fp, tn, go, g, tab, I3, f3, T, t5, la, la2, hgen, I5, f5, hg5⟩ := hM.ex
  obtain ⟨N, Pv, p0, turn⟩ := hR H3 tab
  have gen : ∀ (s : Shared) (H : Hp) (pg : List (Addr × Obj)), Inv (gCx X Ng scope code s3 H3 fp [(a, go)]) pg (gSt σ cap) H s → s.heap.IsGen a g := fun s H pg J => hgen _ (J.pin (a, go) (List.mem_append_left _ List.mem_cons_self)).1
  refine call_function_tree F.kind_all F.plain_all F.entry_all (F.args_all1 _) ?_
  unfold Builtin.«all»
  refine wpAny_bind (m := oneArg "all" _) (wpAny_pure ?_)
  refine wpAny_bind (wpAny_pyIter_gen (gen _ _ _ I5) ?_)
  refine wpAny_pure ⟨plainId_quiet F.plain_all_loop _, ?_⟩
  refine allLoop (Z := gCx X Ng scope code s3 H3 fp [(a, go)]) (Qf := fun H => Q (.bl false) H) (Qe := fun _ H => Q (.bl true) H) (Pv := Pv) (N := N) (tn := tn) (fp := fp) (τ := gSt σ cap) hr.hd hr.depth gen T.keep (fun i y H q => q)
    (fun i s' H pg J q => ⟨.bl true, H, gDone I3 f3 J, rfl, q⟩) (fun s' H pg J q => ⟨.bl false, H, gDone I3 f3 J, rfl, q⟩) N s5 ⟨H3, [], I5⟩ ⟨_, hg5, rfl, ?_⟩
  exact gBegin (Z := gCx X Ng scope code s3 H3 fp [(a, go)]) rfl rfl T (hel _ _ _ _ _) (fun _ _ z => z) S.nd S.hd S.loc S.co rfl turn _ _ H3 [] rfl (inv_set I5 rfl) t5 f5 p0
theorem pe_anyG (hr : Room k X.A) (hg : Gl X "any") (hm : X.mg "any" = none) (TB : LamX.TabB X.base X.mg c P) (hcode : X.env.code = .ref c) (S : GS X.N Ng X.env.scope scope x cap) (hi : PI X (.Name x px) iter wi)
    (hel : ∀ (code : Value) (s : Shared) (H : Hp) (fp : List Addr) (pn : List (Addr × Obj)), PE (gCx X Ng scope code s H fp pn) elt te) (hs : ∀ v, genFold iter X.env v = pure v := by intro _; rfl) (hb : bootBuiltins "any" = some (.builtin "any") := by decide +kernel)
    (he : starEach [.GeneratorExp elt [⟨.Name x px, iter, [], 0⟩] scope gpos] X.env = (false, eval (.GeneratorExp elt [⟨.Name x px, iter, [], 0⟩] scope gpos) X.env) :: starEach [] X.env := by rfl) :
    PE X (.Call (.Name "any" p) [.GeneratorExp elt [⟨.Name x px, iter, [], 0⟩] scope gpos] [] pos) (tAnyG P cap wi te) := by
  refine ⟨fun pins s σ H Q I h => ?_⟩
  refine wpAny_Call_Name_kw (ld_blt I hg hm hb ?_)
  refine PyProof.Rows.callWith_builtin1 ?_ he (by rfl)
  rw [he]
  show wpAny _ _ (spliced ((false, eval (.GeneratorExp elt [⟨.Name x px, iter, [], 0⟩] scope gpos) X.env) :: backTo pos (starEach [] X.env))) _ _ s
  refine Calls.spliced_cons (gMake hr.depth hr.hd TB hcode S hi hs I h fun J H1 a s5 hR hM => ?_)
  refine Calls.spliced_nil ?_
  obtain ⟨s3, H3, code, it, fp, tn, go, g, tab, I3, f3, T, t5, la, la2, hgen, I5, f5, hg5⟩ := hM.ex
  obtain ⟨N, Pv, p0, turn⟩ := hR H3 tab
  have gen : ∀ (s : Shared) (H : Hp) (pg : List (Addr × Obj)), Inv (gCx X Ng scope code s3 H3 fp [(a, go)]) pg (gSt σ cap) H s → s.heap.IsGen a g := fun s H pg J => hgen _ (J.pin (a, go) (List.mem_append_left _ List.mem_cons_self)).1
  refine call_function_tree F.kind_any F.plain_any F.entry_any (F.args_any1 _) ?_
  unfold Builtin.«any»
  refine wpAny_bind (m := oneArg "any" _) (wpAny_pure ?_)
  refine wpAny_bind (wpAny_pyIter_gen (gen _ _ _ I5) ?_)
  refine wpAny_pure ⟨plainId_quiet F.plain_any_loop _, ?_⟩
  refine anyLoop (Z := gCx X Ng scope code s3 H3 fp [(a, go)]) (Qf := fun H => Q (.bl true) H) (Qe := fun _ H => Q (.bl false) H) (Pv := Pv) (N := N) (tn := tn) (fp := fp) (τ := gSt σ cap) hr.hd hr.depth gen T.keep (fun i y H q => q)
    (fun i s' H pg J q => ⟨.bl false, H, gDone I3 f3 J, rfl, q⟩) (fun s' H pg J q => ⟨.bl true, H, gDone I3 f3 J, rfl, q⟩) N s5 ⟨H3, [], I5⟩ ⟨_, hg5, rfl, ?_⟩
  exact gBegin (Z := gCx X Ng scope code s3 H3 fp [(a, go)]) rfl rfl T (hel _ _ _ _ _) (fun _ _ z => z) S.nd S.hd S.loc S.co rfl turn _ _ H3 [] rfl (inv_set I5 rfl) t5 f5 p0
theorem pe_sumG (hr : Room k X.A) (hg : Gl X "sum") (hm : X.mg "sum" = none) (TB : LamX.TabB X.base X.mg c P) (hcode : X.env.code = .ref c) (S : GS X.N Ng X.env.scope scope x cap) (hi : PI X (.Name x px) iter wi)
    (hel : ∀ (code : Value) (s : Shared) (H : Hp) (fp : List Addr) (pn : List (Addr × Obj)), PE (gCx X Ng scope code s H fp pn) elt te) (hs : ∀ v, genFold iter X.env v = pure v := by intro _; rfl) (hb : bootBuiltins "sum" = some (.builtin "sum") := by decide +kernel)
    (he : starEach [.GeneratorExp elt [⟨.Name x px, iter, [], 0⟩] scope gpos] X.env = (false, eval (.GeneratorExp elt [⟨.Name x px, iter, [], 0⟩] scope gpos) X.env) :: starEach [] X.env := by rfl) :
    PE X (.Call (.Name "sum" p) [.GeneratorExp elt [⟨.Name x px, iter, [], 0⟩] scope gpos] [] pos) (tSumG P cap wi te) := by
  refine ⟨fun pins s σ H Q I h => ?_⟩
  refine wpAny_Call_Name_kw (ld_blt I hg hm hb ?_)
  refine PyProof.Rows.callWith_builtin1 ?_ he (by rfl)
  rw [he]
  show wpAny _ _ (spliced ((false, eval (.GeneratorExp elt [⟨.Name x px, iter, [], 0⟩] scope gpos) X.env) :: backTo pos (starEach [] X.env))) _ _ s
  refine Calls.spliced_cons (gMake hr.depth hr.hd TB hcode S hi hs I h fun J H1 a s5 hR hM => ?_)
  refine Calls.spliced_nil ?_
  obtain ⟨s3, H3, code, it, fp, tn, go, g, tab, I3, f3, T, t5, la, la2, hgen, I5, f5, hg5⟩ := hM.ex
  obtain ⟨N, val, Pv, p0, fit, turn⟩ := hR H3 tab
  have gen : ∀ (s : Shared) (H : Hp) (pg : List (Addr × Obj)), Inv (gCx X Ng scope code s3 H3 fp [(a, go)]) pg (gSt σ cap) H s → s.heap.IsGen a g := fun s H pg J => hgen _ (J.pin (a, go) (List.mem_append_left _ List.mem_cons_self)).1
  refine call_function_tree F.kind_sum F.plain_sum F.entry_sum (F.args_sum1 _) ?_
  unfold Builtin.«sum»
  simp only [List.length_cons, List.length_nil]
  rw [if_neg (by decide)]
  refine wpAny_bind (wpAny_of_eq (show Builtin.Builtins.bindParams "sum" ["start"] 0 { } = pure [none] from rfl) ?_)
  refine wpAny_bind (wpAny_pyIter_gen (gen _ _ _ I5) ?_)
  refine wpAny_bind (wpAny_mkInt ?_)
  refine wpAny_bind (wpAny_pure ?_)
  simp only [List.forIn_cons, List.forIn_nil]
  refine wpAny_bind (wpAny_bind (wpAny_bind (wpAny_isInstance (T := "int") (b := false) (typeIs_int _ _ _) PySem.sub_int_str ?_)))
  simp only [Bool.false_eq_true, if_false]
  refine wpAny_pure (wpAny_bind (wpAny_bind (wpAny_isInstance (T := "int") (b := false) (typeIs_int _ _ _) PySem.sub_int_bytes ?_)))
  simp only [Bool.false_eq_true, if_false]
  refine wpAny_pure (wpAny_bind (wpAny_bind (wpAny_isInstance (T := "int") (b := false) (typeIs_int _ _ _) PySem.sub_int_bytearray ?_)))
  simp only [Bool.false_eq_true, if_false]
  refine wpAny_pure (wpAny_pure ?_)
  refine wpAny_bind (wpAny_newObj_type ?_)
  -- the consumer's own list
  have I6 : Inv (gCx X Ng scope code s3 H3 fp [(a, go)]) [] (gSt σ cap) H3 { s5 with toks := s5.toks + 1, heap := s5.heap.push (accObj 0 s5.toks 0) } := (I5.tok _).kept fun b u e => Heap.get?_push_of_some _ e
  have lt0 : s3.heap.objs.size ≤ s5.heap.objs.size := Nat.le_of_lt (Nat.lt_trans la la2)
  have clt : ∀ y c, (gCx X Ng scope code s3 H3 fp [(a, go)]).env.cells.lookup y = some c → c ≠ s5.heap.objs.size := fun y c e z => by
    obtain ⟨v, q⟩ := I5.cell y c e
    have q1 := q.lt
    rw [z] at q1
    exact Nat.lt_irrefl _ q1
  have I7 : Inv (gCx X Ng scope code s3 H3 fp [(a, go)]) [(s5.heap.objs.size, accObj 0 s5.toks 0)] (gSt σ cap) H3 { s5 with toks := s5.toks + 1, heap := s5.heap.push (accObj 0 s5.toks 0) } := I6.pins_of fun q hq => by
    rw [List.mem_singleton.mp hq]
    exact ⟨Heap.get?_push_size _ rfl, I5.hok.fresh (Nat.le_refl _), Nat.ne_of_gt I5.lt, I5.nofs (Nat.le_refl _), fun v z => by cases z⟩
  have pnS : ∀ q ∈ (gCx X Ng scope code s3 H3 fp [(a, go)]).pn, q.1 ≠ s5.heap.objs.size := fun q hq => by
    have hq' : q ∈ [(a, go)] := hq
    rw [List.mem_singleton.mp hq']
    exact Nat.ne_of_lt la2
  refine wpAny_pure ⟨plainId_quiet F.plain_sum_loop _, ?_⟩
  refine sumLoop (Z := gCx X Ng scope code s3 H3 fp [(a, go)]) (Qe := fun i H => Q (.int (preSum val i)) H) (Pv := Pv) (N := N) (tn := tn) (fp := fp) (τ := gSt σ cap) (S := s5.heap.objs.size) (val := val) hr.hd hr.depth gen T.keep lt0 clt pnS fit (fun i y H q => q)
    (fun i s' H pg t' J q => ⟨.int (preSum val i), H, gDone I3 f3 J, ⟨t', rfl⟩, q⟩) N _ 0 s5.toks 0 (Nat.zero_add _) ⟨H3, I7⟩ ⟨_, hg5, rfl, ?_⟩
  have f6 : ∀ b ∈ fp, FpOk (gCx X Ng scope code s3 H3 fp [(a, go)]) [(s5.heap.objs.size, accObj 0 s5.toks 0)] H3 b := fun b hb => ⟨(f5 b hb).1, (f5 b hb).2.1, (f5 b hb).2.2.1, (f5 b hb).2.2.2.1, (f5 b hb).2.2.2.2.1, fun q hq => by
    rcases List.mem_append.mp hq with z | z
    · exact (f5 b hb).2.2.2.2.2 q (List.mem_append_left _ z)
    · rw [List.mem_singleton.mp z]
      obtain ⟨o, e, _⟩ := T.obj _ _ t5 b hb
      exact Nat.ne_of_gt (Heap.lt_size e)⟩
  exact gBegin (Z := gCx X Ng scope code s3 H3 fp [(a, go)]) (PG := fun i pg => ∃ t c, pg = [(s5.heap.objs.size, accObj (preSum val i) t c)]) rfl rfl T (hel _ _ _ _ _) (fun _ _ z => z) S.nd S.hd S.loc S.co rfl turn _ _ H3 _ ⟨s5.toks, 0, rfl⟩ (inv_set I7 rfl) (T.keep _ _ _ t5 fun b hb o e => Heap.get?_push_of_some _ e) f6 p0
end
end GX
namespace GX
open PySem PySem.Spec PyProof.Rows L2 LamX
/-- a thing that is known as it is -/
abbrev frzO (o : Obj) : HO := .frz o (.ext fun _ => True)
theorem frz_ok {P : Program} {w : World} {H : Hp} {h : Heap} {a : Addr} {o : Obj} (e : h.get? a = some o) : ObjOk P w H h a (frzO o) := ⟨e, True.intro, ⟨o, e⟩, fun _ _ _ _ => True.intro⟩
section
variable {X : Cx} {pins : List (Addr × Obj)} {σ : L2.St} {H : Hp} {s : Shared}
/-- an object that is there, and not tracked, is tracked from now on -/
theorem track {f : Addr} {u : HO} (I : Inv X pins σ H s) (hf : H f = none) (h0 : X.s_0.heap.objs.size ≤ f) (hL : f ≠ X.env.locals) (hc : ∀ y c, X.env.cells.lookup y = some c → c ≠ f) (hp : ∀ p ∈ X.pn ++ pins, p.1 ≠ f) (ok : ObjOk X.prog X.w (upd H f u) s.heap f u) :
    Inv X pins σ (upd H f u) s := by
  refine ⟨I.ok, I.os, I.bare, ⟨fun b ob e n hb hx => I.base.keep b ob e n hb hx, fun b ob e n hb hx => I.base.slot b ob e n hb hx, fun b ob e n hx => ?_, fun b ob e hx => I.base.there b ob e hx, fun b xs e => ?_, fun b ob xs e => ?_, fun b ps e => ?_⟩, I.loc, I.cell, ?_, fun y c e => ?_, fun p hq => ?_, fun b ob e => ?_, I.len⟩
  · rw [upd_ne (Nat.ne_of_lt (Nat.lt_of_lt_of_le (Heap.lt_size e) h0))]
    exact I.base.free b ob e n hx
  · have q := I.base.tups b xs e
    rw [upd_ne (ne_of_none q hf)]; exact q
  · have q := I.base.frzs b ob xs e
    rw [upd_ne (ne_of_none q hf)]; exact q
  · obtain ⟨more, q⟩ := I.base.tbls b ps e
    exact ⟨more, by rw [upd_ne (ne_of_none q hf)]; exact q⟩
  · rw [upd_ne (Ne.symm hL)]; exact I.free
  · rw [upd_ne (hc y c e)]; exact I.freeC y c e
  · obtain ⟨a1, a2, a3⟩ := I.pin p hq
    exact ⟨a1, by rw [upd_ne (hp p hq)]; exact a2, a3⟩
  · by_cases hb : b = f
    · subst hb
      rw [upd_same] at e
      cases e
      exact ok
    · rw [upd_ne hb] at e
      exact (I.hok b ob e).stay (fun _ _ _ q => q) (fun c q => by rw [upd_ne (ne_of_none q hf)]; exact q) fun c xs q => by rw [upd_ne (ne_of_none q hf)]; exact q
theorem fresh_facts (I : Inv X pins σ H s) {f : Addr} (hf : s.heap.objs.size ≤ f) : H f = none ∧ X.s_0.heap.objs.size ≤ f ∧ f ≠ X.env.locals ∧ (∀ y c, X.env.cells.lookup y = some c → c ≠ f) ∧ ∀ p ∈ X.pn ++ pins, p.1 ≠ f := by
  refine ⟨I.hok.fresh hf, Nat.le_trans I.sz hf, Nat.ne_of_gt (Nat.lt_of_lt_of_le I.lt hf), fun y c e z => ?_, fun p hp z => ?_⟩
  · obtain ⟨v, q⟩ := I.cell y c e
    exact absurd (Nat.lt_of_lt_of_le q.lt (by rw [z]; exact hf)) (Nat.lt_irrefl _)
  · exact absurd (Nat.lt_of_lt_of_le (Heap.lt_size (I.pin p hp).1) (by rw [z]; exact hf)) (Nat.lt_irrefl _)
abbrev lamObj (q : Str) (params : Arguments) (body : Expr) (scope : Scope) (clos : List (Str × Addr)) (dV doc pm : Value) (c' : Addr) (ctv : Value) : Obj := PySem.W.kdv_obj "<lambda>" q params (.expr body) scope clos dV doc pm c' ctv
/-- tables stay tables -/
def TabK (H H1 : Hp) : Prop := (∀ b ps, H b = some (.tbl ps) → ∃ ps', H1 b = some (.tbl ps')) ∧ ∀ p, GxR.TabG H p → GxR.TabG H1 p
theorem TabK.refl (H : Hp) : TabK H H := ⟨fun _ ps h => ⟨ps, h⟩, fun _ h => h⟩
theorem TabK.ext {H H1 H2 : Hp} (e : ∀ b o, H b = some o → H1 b = some o) (a : TabK H1 H2) : TabK H H2 := ⟨fun b ps h => a.1 b ps (e _ _ h), fun p h => by
  obtain ⟨ps, h1, h2⟩ := h
  exact a.2 p ⟨ps, e _ _ h1, h2⟩⟩
theorem TabK.one {H : Hp} {P c : Addr} {ps ps' : Array Value} {o : HO} (hP : H P = some (.tbl ps)) (t : TriplesOk ps'.toList) (nC : H c = none) : TabK H (upd (upd H P (.tbl ps')) c o) := by
  refine ⟨fun b qs h => ?_, fun p h => ?_⟩
  · by_cases hb : b = P
    · exact ⟨ps', by rw [hb, upd_ne (ne_of_none hP nC), upd_same]⟩
    · exact ⟨qs, by rw [upd_ne (ne_of_none h nC), upd_ne hb]; exact h⟩
  · obtain ⟨qs, h1, h2⟩ := h
    by_cases hb : p = P
    · exact ⟨ps', by rw [hb, upd_ne (ne_of_none hP nC), upd_same], t⟩
    · exact ⟨qs, by rw [upd_ne (ne_of_none h1 nC), upd_ne hb]; exact h1, h2⟩
/-- the making of a lambda, its defaults' tuple made -/
theorem lam_tail {T : List (Addr × Str)} {c P : Addr} {params : Arguments} {body : Expr} {scope : Scope} {pos : Pos} {line : Nat} {dV : Value} {E : Value → Shared → Prop} {Q : Value → Shared → Prop} (I : Inv X pins σ H s) (TB : LamX.TabB X.base X.mg c P) (hcode : X.env.code = .ref c)
    (hm : (P, X.env.qual ++ "<lambda>") ∈ T) (hu : ∀ p ∈ T, p.1 = P → p.2 = X.env.qual ++ "<lambda>") (hT : Tabs T H) (hfree : ∀ y ∈ scope.names, y.2 = .free → ∃ c, X.env.cells.lookup y.1 = some c)
    (h : ∀ (f c' : Addr) (doc pm ctv : Value) (H1 : Hp) (s' : Shared), ExtN H H1 → TabK H H1 → Tabs T H1 → H1 f = none → H1 c' = some (CodeO c' (X.env.qual ++ "<lambda>")) →
      Inv X pins σ (upd H1 f (frzO (lamObj (X.env.qual ++ "<lambda>") params body scope (cloFrom X.env.cells scope.names []) dV doc pm c' ctv))) s' → Q (.ref f) s') :
    wpAny (model X.prog X.w) X.A (makeTail "<lambda>" (X.env.qual ++ "<lambda>") params (.expr body) scope X.env dV .none none pos line) Q E s := by
  obtain ⟨ps, hP, ht, ha⟩ := hT _ hm
  have bP : s.heap.BuiltinsAt X.mg P := TB.bm.keeps I.bk
  have hP' : s.heap.get? P = some { cls := .none, data := .fields ps } := I.hok P _ hP
  cases hc : codeAmong pos ps.toList with
  | none =>
    refine PySem.W.kdv_makeTail (mg := X.mg) (c := c) (P := P) (ps := ps) (closure_ok hfree) I.ok.glob (I.mod.glob.keeps I.bk) hcode (TB.code.keeps I.bk) hP' ht hc TB.gP bP fun c' ctv doc h' tk hx hge hlt hrec htb => ?_
    obtain ⟨c2, oc, vs, t, e2, hoc, hd, hv⟩ := hrec
    cases e2
    have hsz : s.heap.objs.size ≤ h'.objs.size := Nat.le_trans hge (Nat.le_of_lt hlt)
    have nC : H c' = none := I.hok.fresh hge
    have I1 := inv_table (t' := tk) (more := #[rawInt pos.line, rawInt pos.col, .ref c']) (h' := h') I hP hx htb hge ⟨oc, vs, t, hoc, hd, hv⟩
    have hE : ExtN H (upd (upd H P (.tbl (ps ++ #[rawInt pos.line, rawInt pos.col, .ref c']))) c' (CodeO c' (X.env.qual ++ "<lambda>"))) := fun b o e n => by
      rw [upd_ne (ne_of_none e nC), upd_ne (fun z => n ps (Option.some.inj (e.symm.trans (by rw [z]; exact hP))))]
      exact e
    have eL : (ps ++ #[rawInt pos.line, rawInt pos.col, .ref c']).toList = ps.toList ++ [rawInt pos.line, rawInt pos.col, .ref c'] := by simp
    obtain ⟨q1, q2, q3, q4, q5⟩ := fresh_facts I1 (f := h'.objs.size) (Nat.le_refl _)
    have I2 := I1.kept (t' := tk) (h' := h'.push (lamObj (X.env.qual ++ "<lambda>") params body scope (cloFrom X.env.cells scope.names []) dV doc ((X.mg "__name__").getD .none) c' ctv)) fun b o e => Heap.get?_push_of_some _ e
    refine h h'.objs.size c' doc ((X.mg "__name__").getD .none) ctv _ _ hE (TabK.one hP (by rw [eL]; exact PySem.TriplesOk_snoc _ _ _ _ ht) nC) (fun p hp => ?_) q1 upd_same (track I2 q1 q2 q3 q4 q5 (frz_ok (Heap.get?_push_size _ rfl)))
    by_cases hb : p.1 = P
    · rw [hu p hp hb, hb]
      refine ⟨_, by rw [upd_ne (ne_of_none hP nC), upd_same], by rw [eL]; exact PySem.TriplesOk_snoc _ _ _ _ ht, fun p' cv hcv => ?_⟩
      rw [eL] at hcv
      rcases among_app _ ht hcv with z | z
      · obtain ⟨c0, e1, e2⟩ := ha p' cv z
        exact ⟨c0, e1, hE _ _ e2 codeO_ne⟩
      · exact ⟨c', z, upd_same⟩
    · obtain ⟨ps', a1, a2, a3⟩ := hT p hp
      refine ⟨ps', by rw [upd_ne (ne_of_none a1 nC), upd_ne hb]; exact a1, a2, fun p' cv hcv => ?_⟩
      obtain ⟨c0, e1, e2⟩ := a3 p' cv hcv
      exact ⟨c0, e1, hE _ _ e2 codeO_ne⟩
  | some cv =>
    obtain ⟨c', e, hco⟩ := ha pos cv hc
    subst e
    refine PySem.W.kdv_makeTailHit (mg := X.mg) (c := c) (P := P) (ps := ps) (closure_ok hfree) I.ok.glob (I.mod.glob.keeps I.bk) hcode (TB.code.keeps I.bk) hP' ht hc bP fun ctv doc h' tk hx hsz => ?_
    have I1 := I.kept (t' := tk) (h' := h') hx
    obtain ⟨q1, q2, q3, q4, q5⟩ := fresh_facts I1 (f := h'.objs.size) (Nat.le_refl _)
    have I2 := I1.kept (t' := tk) (h' := h'.push (lamObj (X.env.qual ++ "<lambda>") params body scope (cloFrom X.env.cells scope.names []) dV doc ((X.mg "__name__").getD .none) c' ctv)) fun b o e => Heap.get?_push_of_some _ e
    exact h h'.objs.size c' doc ((X.mg "__name__").getD .none) ctv H _ (ExtN.refl H) (TabK.refl H) hT q1 hco (track I2 q1 q2 q3 q4 q5 (frz_ok (Heap.get?_push_size _ rfl)))
/-- unlike names have unlike cells -/
def InjC (clos : List (Str × Addr)) : Prop := ∀ x y c, clos.lookup x = some c → clos.lookup y = some c → x = y
theorem clo_cm {X : Cx} {scope : Scope} (hf : ∀ y ∈ scope.names, y.2 = .free → ∃ c, X.env.cells.lookup y.1 = some c) {y : Str} {c : Addr} (e : (cloFrom X.env.cells scope.names []).lookup y = some c) : X.env.cells.lookup y = some c := by
  rcases cloFrom_mem (PySem.mem_of_lookup e) with hm | ⟨q1, q2⟩
  · cases hm
  · obtain ⟨c1, hc⟩ := hf _ q1 rfl
    have hc : X.env.cells.lookup y = some c1 := hc
    rw [hc] at q2
    have e2 : c = c1 := q2
    rw [e2]
    exact hc
theorem clo_inj {X : Cx} {scope : Scope} (ok : X.Ok) (hf : ∀ y ∈ scope.names, y.2 = .free → ∃ c, X.env.cells.lookup y.1 = some c) : InjC (cloFrom X.env.cells scope.names []) := fun x y c e1 e2 => ok.inj x y c (clo_cm hf e1) (clo_cm hf e2)
/-- lambda: body; its object is known as it is -/
def tLamV (T : List (Addr × Str)) (q : Str) (params : Arguments) (body : Expr) (scope : Scope) (clos : List (Str × Addr)) (D : Value → Hp → Prop) : TE := fun σ H Q => Tabs T H ∧
  ∀ (H1 : Hp) (f c' : Addr) (dV doc pm ctv : Value), InjC clos → ExtN H H1 → TabK H H1 → Tabs T H1 → D dV H1 → H1 f = none → H1 c' = some (CodeO c' q) → Q (.ref f) (upd H1 f (frzO (lamObj q params body scope clos dV doc pm c' ctv)))
theorem pe_lam0 {T : List (Addr × Str)} {c P : Addr} {params : Arguments} {body : Expr} {scope : Scope} {pos : Pos} (TB : LamX.TabB X.base X.mg c P) (hcode : X.env.code = .ref c)
    (hm : (P, X.env.qual ++ "<lambda>") ∈ T) (hu : ∀ p ∈ T, p.1 = P → p.2 = X.env.qual ++ "<lambda>") (L : LamS X.env.scope scope) (hdef : defaultsOf params X.env = ([], []) := by rfl) :
    PE X (.Lambda params body scope pos) (tLamV T (X.env.qual ++ "<lambda>") params body scope (cloFrom X.env.cells scope.names []) (fun dV _ => dV = .none)) := by
  refine ⟨fun pins s σ H Q I h => ?_⟩
  obtain ⟨hT, h⟩ := h
  refine PySem.W.kla_eval hdef ?_
  rw [makeFunction_eq]
  simp only [List.zip_nil_right, List.filterMap_nil, List.isEmpty_nil, if_true, pure_bind]
  exact lam_tail I TB hcode hm hu hT (L.has I.ok) fun f c' doc pm ctv H1 s' e1 tk t1 n1 k1 I1 => ⟨.ref f, _, I1, rfl, h H1 f c' .none doc pm ctv (clo_inj I.ok (L.has I.ok)) e1 tk t1 rfl n1 k1⟩
/-- a tuple of one default that is known as it is -/
def Dflt1 (i : Int) (dV : Value) (H : Hp) : Prop := ∃ (t : Addr) (u : Tok), dV = .ref t ∧ H t = some (frzO (PySem.W.kdv_tup [.int i u]))
/-- lambda a=i: body -/
theorem pe_lam1 {T : List (Addr × Str)} {c P : Addr} {params : Arguments} {body : Expr} {scope : Scope} {pos dp : Pos} {i : Int} {j : Nat} (TB : LamX.TabB X.base X.mg c P) (hcode : X.env.code = .ref c)
    (hm : (P, X.env.qual ++ "<lambda>") ∈ T) (hu : ∀ p ∈ T, p.1 = P → p.2 = X.env.qual ++ "<lambda>") (hfree : ∀ (ok : X.Ok), ∀ y ∈ scope.names, y.2 = .free → ∃ c, X.env.cells.lookup y.1 = some c) (hd : params.defaults = [.Constant (.int i) j dp] := by rfl) (hk : params.kw_defaults = [] := by rfl) :
    PE X (.Lambda params body scope pos) (tLamV T (X.env.qual ++ "<lambda>") params body scope (cloFrom X.env.cells scope.names []) (Dflt1 i)) := by
  refine ⟨fun pins s σ H Q I h => ?_⟩
  obtain ⟨hT, h⟩ := h
  refine PySem.W.kdv_lam (by rw [hd]; rfl) hk ?_
  rw [hd]
  refine PySem.W.kdv_all1 (thn ((pe_int (X := X) (i := i) (j := j) (pos := dp)).run pins s σ H (fun v H' => v = .int i ∧ H' = H) I ⟨rfl, rfl⟩) fun u s1 hh => PySem.W.kdv_all0 ?_)
  obtain ⟨v, H', I1, r, ev, eH⟩ := hh
  subst ev
  subst eH
  obtain ⟨tk, eu⟩ := r
  subst eu
  rw [makeFunction_eq]
  simp only [List.zip_nil_right, List.filterMap_nil, List.isEmpty_nil, List.isEmpty_cons, Bool.false_eq_true, if_false, if_true, pure_bind]
  refine wpAny_bind (wpAny_newTextTuple ?_)
  obtain ⟨q1, q2, q3, q4, q5⟩ := fresh_facts I1 (f := s1.heap.objs.size) (Nat.le_refl _)
  have I2 := I1.kept (t' := s1.toks) (h' := s1.heap.push (PySem.W.kdv_tup [.int i tk])) fun b o e => Heap.get?_push_of_some _ e
  have I3 := track I2 q1 q2 q3 q4 q5 (frz_ok (Heap.get?_push_size _ rfl))
  have eH : ∀ b o, H' b = some o → upd H' s1.heap.objs.size (frzO (PySem.W.kdv_tup [.int i tk])) b = some o := fun b o e => by
    rw [upd_ne (ne_of_none e q1)]
    exact e
  refine lam_tail I3 TB hcode hm hu (hT.ext eH) (hfree I3.ok) fun f c' doc pm ctv H1 s' e1 tkb t1 n1 k1 I4 => ⟨.ref f, _, I4, rfl, h H1 f c' _ doc pm ctv (clo_inj I.ok (hfree I.ok)) (fun b o e n => e1 b o (eH b o e) n) (tkb.ext eH) t1 ⟨_, tk, rfl, e1 _ _ upd_same fun ps z => by cases z⟩ n1 k1⟩
end
end GX
namespace GX
open PySem PySem.Spec PyProof.Rows L2 LamX
/-- what stands at f may be called without arguments: where ph holds of the heap it keeps the promise sp -/
def CallOk (P : Program) (w : World) (K : PySem.W.Frag) (mg : Str → Option Value) (base : Heap) (k : Nat) (f : Addr) (ph : Hp → Prop) (sp : Hp → VK → XK → Prop) : Prop :=
  ∀ (A : Around) (outer : List Env) (s : Shared) (H : Hp) (Q : VK) (E : XK), Room k A → Env0 P w K mg base A outer s H → ph H → sp H Q E →
    codeAny (model P w) A (.call (.ref f) ⟨[], []⟩) (CR (L2.CX P w) outer P w H s Q E) s
theorem CallOk.mono {P : Program} {w : World} {K : PySem.W.Frag} {mg : Str → Option Value} {base : Heap} {j k : Nat} {f : Addr} {ph : Hp → Prop} {sp : Hp → VK → XK → Prop} (c : CallOk P w K mg base j f ph sp) (h : j ≤ k) : CallOk P w K mg base k f ph sp :=
  fun A outer s H Q E hr => c A outer s H Q E (hr.mono h)
/-- a function object that is known as it is -/
def FnObj (H : Hp) (f : Addr) : Prop := ∃ (o : Obj) (fd : FuncData) (u : HO), H f = some (.frz o u) ∧ o.data = .func fd
theorem FnObj.at {X : Cx} {pins : List (Addr × Obj)} {σ : L2.St} {H : Hp} {s : Shared} {f : Addr} (h : FnObj H f) (I : Inv X pins σ H s) : PySem.W.FnAt f s.heap := by
  obtain ⟨o, fd, u, e, d⟩ := h
  obtain ⟨q, _⟩ := I.hok f _ e
  obtain ⟨oc, od, dt, sl⟩ := o
  cases d
  exact ⟨oc, od, fd, sl, q⟩
def tAct (P : Program) (w : World) (K : PySem.W.Frag) (mg : Str → Option Value) (base : Heap) (k i : Nat) (E : XK) : TE := fun σ H Q =>
  ∃ (f : Addr) (ph : Hp → Prop) (sp : Hp → VK → XK → Prop), σ[i]? = some (some (.ref f)) ∧ FnObj H f ∧ CallOk P w K mg base k f ph sp ∧ ph H ∧ sp H Q E
section
variable {X : Cx}
/-- a(), a the def's own name that holds such a thing -/
theorem pe_act0 {k i : Nat} {a : Str} {E : XK} {p1 p2 : Pos} (hr : Room k X.A) (hx : Passes (L2.CX X.prog X.w) X E) (hN : X.N[i]? = some a) (hv : Vis X.env.scope a) (hd : (a == ("__debug__" : Str)) = false := by decide) (hcd : (a == ("__classdict__" : Str)) = false := by decide) :
    PE X (.Call (.Name a p1) [] [] p2) (tAct X.prog X.w X.K X.mg X.base k i E) := by
  refine ⟨fun pins s σ H Q I h => ?_⟩
  obtain ⟨f, ph, sp, hs, ho, hc, hp, ht⟩ := h
  refine wpAny_Call_Name_kw (thn ((pe_var (pos := p1) (i := i) hN hv hd hcd).run pins s σ H (fun v H1 => v = .ref f ∧ H1 = H) I ⟨.ref f, hs, rfl, rfl⟩) fun u s1 hh => ?_)
  obtain ⟨v, H1, I1, r1, ev, eH⟩ := hh
  subst ev
  subst eH
  obtain rfl : u = Value.ref f := r1
  refine PySem.W.callWith_F0 (ho.at I1) ?_
  refine wpAny_call (codeAny_mono (hc X.A X.stack s1 H1 Q E hr I1.env0 hp ht) fun r s' hq => ?_)
  cases r with
  | error e => exact hx pins σ H1 s1 e s' I1 hq
  | ok fl =>
    cases fl with
    | ret u => exact I1.after hq
    | next => exact False.elim hq
    | brk => exact False.elim hq
    | cont => exact False.elim hq
end
/-! ### the maker's cells, known as they are while a def of it is called -/
def CellOf (X : Cx) (c : Addr) : Prop := ∃ y, X.env.cells.lookup y = some c
open Classical in
noncomputable def unf (S : Addr → Prop) (H : Hp) : Hp := fun b => if S b then none else H b
open Classical in
noncomputable def ref2 (S : Addr → Prop) (H H' : Hp) : Hp := fun b => if S b then H b else H' b
theorem unf_in {S : Addr → Prop} {H : Hp} {b : Addr} (h : S b) : unf S H b = none := by unfold unf; rw [if_pos h]
theorem unf_out {S : Addr → Prop} {H : Hp} {b : Addr} (h : ¬ S b) : unf S H b = H b := by unfold unf; rw [if_neg h]
theorem ref2_in {S : Addr → Prop} {H H' : Hp} {b : Addr} (h : S b) : ref2 S H H' b = H b := by unfold ref2; rw [if_pos h]
theorem ref2_out {S : Addr → Prop} {H H' : Hp} {b : Addr} (h : ¬ S b) : ref2 S H H' b = H' b := by unfold ref2; rw [if_neg h]
/-- H2 is H, the cells of X beside, as they stand -/
structure Frozen (X : Cx) (σ : L2.St) (H H2 : Hp) : Prop where
  out : ∀ b, ¬ CellOf X b → H2 b = H b
  free : ∀ b, CellOf X b → H b = none
  any : ∀ b, CellOf X b → ∃ o v, H2 b = some (frzO o) ∧ o.data = .cell v
  cell : ∀ (y : Str) (c : Addr) (i : Nat) (v : V), X.env.cells.lookup y = some c → X.N[i]? = some y → Vis X.env.scope y → X.env.scope.names.lookup y ≠ some .local → σ[i]? = some (some v) → ∃ o u, H2 c = some (frzO o) ∧ o.data = .cell (some u) ∧ RelV v u
section
variable {X : Cx} {pins : List (Addr × Obj)} {σ : L2.St} {H H2 H' : Hp} {s s' : Shared}
theorem Frozen.ext (z : Frozen X σ H H2) {b : Addr} {o : HO} (e : H b = some o) : H2 b = some o := by
  by_cases hb : CellOf X b
  · rw [z.free b hb] at e; cases e
  · rw [z.out b hb]; exact e
theorem freeze (I : Inv X pins σ H s) (hfn : ∀ y, X.fn y = true) : ∃ H2, Frozen X σ H H2 ∧ Env0 X.prog X.w X.K X.mg X.base X.A X.stack s H2 ∧ ∀ b, CellOf X b → ∃ o, s.heap.get? b = some o ∧ H2 b = some (frzO o) := by
  classical
  let H2 : Hp := fun b => if CellOf X b then (s.heap.get? b).map frzO else H b
  have hin : ∀ {b}, CellOf X b → H2 b = (s.heap.get? b).map frzO := fun {b} h => if_pos h
  have hout : ∀ {b}, ¬ CellOf X b → H2 b = H b := fun {b} h => if_neg h
  have free : ∀ b, CellOf X b → H b = none := fun b h => by obtain ⟨y, e⟩ := h; exact I.freeC y b e
  have young : ∀ b, CellOf X b → X.s_0.heap.objs.size ≤ b := fun b h => by obtain ⟨y, e⟩ := h; exact I.ok.cab y b (hfn y) e
  have obj : ∀ b, CellOf X b → ∃ o v, s.heap.get? b = some o ∧ o.data = .cell v := fun b h => by
    obtain ⟨y, e⟩ := h
    obtain ⟨v, o, ho, hd⟩ := I.cell y b e
    exact ⟨o, v, ho, hd⟩
  have at_ : ∀ b o, H b = some o → H2 b = some o := fun b o e => by
    by_cases hb : CellOf X b
    · rw [free b hb] at e; cases e
    · rw [hout hb]; exact e
  refine ⟨H2, ⟨fun b h => hout h, free, fun b h => ?_, fun y c i v e1 e2 e3 e4 e5 => ?_⟩, ⟨I.ok.frames, I.ok.mod, fun b o e => ⟨I.bk b o e, ?_⟩, Nat.le_trans I.ok.bsz I.sz, I.stack, fun b hb => ?_, fun b u e => ?_, I.bare⟩, fun b h => ?_⟩
  · obtain ⟨o, v, ho, hd⟩ := obj b h
    exact ⟨o, v, by rw [hin h, ho]; rfl, hd⟩
  · obtain ⟨m, hn, hl⟩ := I.loc
    obtain ⟨u, r, q⟩ := hl i y v e2 e5 e3
    rcases q with ⟨k, _⟩ | ⟨_, c2, ec, o, ho, hd⟩
    · exact absurd k e4
    · rw [e1] at ec
      cases ec
      exact ⟨o, u, by rw [hin ⟨y, e1⟩, ho]; rfl, hd, r⟩
  · have hb : ¬ CellOf X b := fun h => by
      have h1 := young b h
      have h2 := Heap.lt_size (I.ok.bs b o e).1
      exact absurd (Nat.lt_of_lt_of_le h2 h1) (Nat.lt_irrefl _)
    rw [hout hb]
    exact (I.bs b o e).2
  · have nb : ¬ CellOf X b := fun h => by
      rcases List.mem_cons.mp (I.stkSub b hb) with z | z
      · obtain ⟨y, e⟩ := h
        exact I.cne y b e z
      · obtain ⟨_, o, ho, _⟩ := I.ok.funs.mem z
        exact absurd (Nat.lt_of_lt_of_le (Heap.lt_size ho) (young b h)) (Nat.lt_irrefl _)
    rw [hout nb]
    exact I.stkFree b hb
  · by_cases hb : CellOf X b
    · obtain ⟨o, v, ho, hd⟩ := obj b hb
      rw [hin hb, ho] at e
      cases e
      exact frz_ok ho
    · rw [hout hb] at e
      exact (I.hok b u e).stay (fun _ _ _ q => q) (fun c q => at_ c _ q) fun c xs q => at_ c _ q
  · obtain ⟨o, v, ho, hd⟩ := obj b h
    exact ⟨o, ho, by rw [hin h, ho]; rfl⟩
theorem unfreeze (I : Inv X pins σ H s) (z : Frozen X σ H H2) (hz : ∀ b, CellOf X b → ∃ o, s.heap.get? b = some o ∧ H2 b = some (frzO o)) (os : s'.os = s.os) (ag : AllBare s'.gens) (un : Un (frs X.stack) [] H2 H' s.heap s'.heap) (hok : HOk X.prog X.w H' s'.heap) :
    Inv X pins σ (unf (CellOf X) H') s' := by
  have cellH : ∀ b, CellOf X b → ∃ o, s.heap.get? b = some o ∧ s'.heap.get? b = some o ∧ H' b = some (frzO o) := fun b h => by
    obtain ⟨o, ho, e⟩ := hz b h
    have e2 := un.frzs b o _ e
    exact ⟨o, ho, (hok b _ e2).1, e2⟩
  have out : ∀ {b o}, H b = some o → ¬ CellOf X b := fun {b o} e h => by rw [z.free b h] at e; cases e
  have nf : ∀ {b u}, H' b = some u → (∀ o, u ≠ frzO o) → ¬ CellOf X b := fun {b u} e n h => by
    obtain ⟨o, _, _, q⟩ := cellH b h
    rw [e] at q
    exact n o (Option.some.inj q)
  refine I.call' (ch := []) os ⟨fun b o e n hb hx => ?_, fun b o e n hb hx => ?_, fun b o e n hx => ?_, fun b o e hx => un.there b o e hx, fun b xs e => ?_, fun b o xs e => ?_, fun b ps e => ?_⟩ (fun b u e => ?_) ag fun b hb => absurd hb (by simp)
  · by_cases hc : CellOf X b
    · obtain ⟨o', h1, h2, _⟩ := cellH b hc
      rw [e] at h1
      cases h1
      exact h2
    · exact un.keep b o e (by rw [z.out b hc]; exact n) hb hx
  · by_cases hc : CellOf X b
    · obtain ⟨o', h1, h2, _⟩ := cellH b hc
      rw [e] at h1
      cases h1
      exact ⟨o.slots, h2⟩
    · exact un.slot b o e (by rw [z.out b hc]; exact n) hb hx
  · by_cases hc : CellOf X b
    · exact unf_in hc
    · rw [unf_out hc]
      exact un.free b o e (by rw [z.out b hc]; exact n) hx
  · rw [unf_out (out e)]
    exact un.tups b xs (z.ext e)
  · rw [unf_out (out e)]
    exact un.frzs b o xs (z.ext e)
  · obtain ⟨more, q⟩ := un.tbls b ps (z.ext e)
    exact ⟨more, by rw [unf_out (out e)]; exact q⟩
  · by_cases hc : CellOf X b
    · rw [unf_in hc] at e; cases e
    · rw [unf_out hc] at e
      exact (hok b u e).stay (fun _ _ _ q => q) (fun c q => by rw [unf_out (nf q fun o z => by cases z)]; exact q) fun c xs q => by rw [unf_out (nf q fun o z => by cases z)]; exact q
/-- f(e, ..): the callee may know the caller's cells -/
def tCallF (X : Cx) (sp : Sp) (t : TA) : TE := fun σ H Q => t σ H fun vs H1 => ∀ H2, Frozen X σ H1 H2 → sp vs H2 (fun v H' => Q v (unf (CellOf X) H')) fun _ _ _ => False
theorem pe_callF {k : Nat} {f : Addr} {fd : FuncData} {ps : List Str} {sp : Sp} {x : Str} {p pos : Pos} {e : Expr} {es : List Expr} {t : TA} (F : FnOk X.prog X.w X.K X.mg X.base CX0 k f fd ps sp) (hr : Room k X.A) (hfn : ∀ y, X.fn y = true) (hg : Gl X x) (hm : X.mg x = some (.ref f)) (hk : PySem.W.keepIn X.K (.ref f) = true) (hb : Binds X.K fd ps [])
    (ha : PA X (e :: es) t) (hdb : (x == ("__debug__" : Str)) = false := by decide) (he : starEach (e :: es) X.env = (false, eval e X.env) :: starEach es X.env := by rfl) (hpl : (backTo pos (starEach es X.env)).any (·.1) = false := by rfl) :
    PE X (.Call (.Name x p) (e :: es) [] pos) (tCallF X sp t) := by
  refine ⟨fun pins s σ H Q I h => ?_⟩
  refine wpAny_Call_Name_kw (ld_glob I hg hm ?_ hdb)
  refine PySem.W.callWith_K (h₀ := X.base) I.ok.mod.kin hk (thn (ha.run pos pins s σ H _ I h) fun us s1 hh => ?_) he hpl
  obtain ⟨vs, H1, I1, r, q⟩ := hh
  refine ⟨I1.kIn, ?_⟩
  obtain ⟨H2, z, e0, hz⟩ := freeze I1 hfn
  have sp2 := q H2 z
  have hl : us.length = ps.length := by rw [← r.length]; exact F.len _ _ _ _ sp2
  have hb2 := hb s1 us I1.kIn (by rw [List.append_nil]; exact hl)
  rw [List.append_nil] at hb2
  refine wpAny_call (codeAny_mono (F.run X.A X.stack s1 H2 ⟨us, []⟩ us vs _ _ hr e0 hb2 r sp2) fun r s' hq => ?_)
  cases r with
  | error e => exact (show False from hq).elim
  | ok fl =>
    cases fl with
    | ret u =>
      obtain ⟨v, H', os, bare, un, hok, rv, qv⟩ := hq
      exact ⟨v, unf (CellOf X) H', unfreeze I1 z hz os bare un hok, rv, qv⟩
    | next => exact False.elim hq
    | brk => exact False.elim hq
    | cont => exact False.elim hq
end
end GX
namespace GX
open PySem PySem.Spec PyProof.Rows L2 LamX
def CS (clos : List (Str × Addr)) (c : Addr) : Prop := ∃ y, clos.lookup y = some c
/-- the context of a lambda's body -/
def lCx (P : Program) (w : World) (K : PySem.W.Frag) (mg : Str → Option Value) (base : Heap) (Nl : List Str) (q : Str) (scope : Scope) (f c' : Addr) (clos : List (Str × Addr)) (A : Around) (outer : List Env) (s : Shared) (H : Hp) (E : XK) : Cx where
  prog := P
  w := w
  K := K
  mg := mg
  base := base
  A := A.deeper (PySem.W.envX q scope s.heap.objs.size f (.ref c') clos)
  N := Nl
  s_0 := s
  H_0 := H
  env := PySem.W.envX q scope s.heap.objs.size f (.ref c') clos
  outer := outer
  stack := PySem.W.envX q scope s.heap.objs.size f (.ref c') clos :: outer
  ex := []
  fn := fun _ => false
  calm := true
  pn := []
  xe := fun e s' => wpAny (model P w) (A.deeper (PySem.W.envX q scope s.heap.objs.size f (.ref c') clos)) (leaving (PySem.W.envX q scope s.heap.objs.size f (.ref c') clos) e)
    (fun _ s'' => L2.CX P w outer H s E e s'') (fun e' s'' => L2.CX P w outer H s E e' s'') s'
theorem passes_l {P : Program} {w : World} {K : PySem.W.Frag} {mg : Str → Option Value} {base : Heap} {Nl : List Str} {q : Str} {scope : Scope} {f c' : Addr} {clos : List (Str × Addr)} {A : Around} {outer : List Env} {s : Shared} {H : Hp} {E : XK} :
    Passes (L2.CX P w) (lCx P w K mg base Nl q scope f c' clos A outer s H E) E :=
  passes_call (X := lCx P w K mg base Nl q scope f c' clos A outer s H E) (W := fun cls d _ H => E cls d H) (takes_of rfl rfl rfl rfl) fun _ _ _ _ h => h
/-- what is known of the heap where the lambda is called -/
def LamAt (q : Str) (params : Arguments) (body : Expr) (scope : Scope) (clos : List (Str × Addr)) (dV doc pm : Value) (c' : Addr) (ctv : Value) (D : Value → Hp → Prop) (Nl : List Str) (τ : L2.St) (f : Addr) (H : Hp) : Prop :=
  H f = some (frzO (lamObj q params body scope clos dV doc pm c' ctv)) ∧ H c' = some (CodeO c' q) ∧ D dV H ∧
    ∀ y c, clos.lookup y = some c → ∃ o u, H c = some (frzO o) ∧ o.data = .cell u ∧ ∀ (i : Nat) (v : V), Nl[i]? = some y → τ[i]? = some (some v) → ∃ u', u = some u' ∧ RelV v u'
/-- a lambda's names -/
structure LScope (Nl : List Str) (sc : Scope) : Prop where
  kind : sc.kind = .function
  co : sc.isCoroutine = false
  gen : sc.isGenerator = false
  cell : ∀ y ∈ sc.names, y.2 ≠ .cell
section
variable {P : Program} {w : World} {K : PySem.W.Frag} {mg : Str → Option Value} {base : Heap} {Nl : List Str} {q : Str} {scope : Scope} {f c' : Addr} {clos : List (Str × Addr)} {params : Arguments} {body : Expr} {dV doc pm ctv : Value} {k : Nat} {D : Value → Hp → Prop} {τ : L2.St} {tb : XK → TE}
theorem callOk_core {ar : Args} {binds : List (Str × Value)} (S : LScope Nl scope) (hinj : InjC clos) (hclos : ∀ y, (scope.names.lookup y = some .cell ∨ scope.names.lookup y = some .free) → ∃ c, clos.lookup y = some c) (hlen : τ.length = Nl.length)
    {A : Around} {outer : List Env} {s : Shared} {H : Hp} {Q : VK} {E : XK} (hr : Room (k + 1) A) (e0 : Env0 P w K mg base A outer s H) (hp : LamAt q params body scope clos dV doc pm c' ctv D Nl τ f H)
    (hb : BindsTo s (PySem.W.kdv_fn "<lambda>" q params (.expr body) scope clos dV doc pm (.ref c') ctv) ar binds) (hl : ∀ y ∈ binds, scope.names.lookup y.1 = some .local)
    (hloc : ∀ (i : Nat) (y : Str) (v : V), Nl[i]? = some y → τ[i]? = some (some v) → scope.names.lookup y = some .local → ∃ u, RelV v u ∧ binds.reverse.lookup y = some u)
    (hbody : ∀ (A : Around) (outer : List Env) (s : Shared) (H : Hp) (E : XK), Room k (A.deeper (PySem.W.envX q scope s.heap.objs.size f (.ref c') clos)) → PE (lCx P w K mg base Nl q scope f c' clos A outer s H E) body (tb E))
    (h : tb (fun cls d H' => (∀ b, CS clos b → H' b = none) → E cls d (ref2 (CS clos) H H')) τ (unf (CS clos) H) (fun v H' => (∀ b, CS clos b → H' b = none) → Q v (ref2 (CS clos) H H'))) : codeAny (model P w) A (.call (.ref f) ar) (CR (L2.CX P w) outer P w H s Q E) s := by
  obtain ⟨hf, hc, hD, hcell⟩ := hp
  have cellH : ∀ b, CS clos b → ∃ o u, s.heap.get? b = some o ∧ H b = some (frzO o) ∧ o.data = .cell u := fun b hb => by
    obtain ⟨y, e⟩ := hb
    obtain ⟨o, u, e1, e2, _⟩ := hcell y b e
    exact ⟨o, u, (e0.hok b _ e1).1, e1, e2⟩
  have nf : ∀ {b u}, H b = some u → (∀ o, u ≠ frzO o) → ¬ CS clos b := fun {b u} e n hb => by
    obtain ⟨o, _, _, q, _⟩ := cellH b hb
    rw [e] at q
    exact n o (Option.some.inj q)
  have nn : ∀ {b}, H b = none → ¬ CS clos b := fun {b} e hb => by
    obtain ⟨o, _, _, q, _⟩ := cellH b hb
    rw [e] at q
    cases q
  have hidN : ∀ {b : Addr} {H' : Hp}, CS clos b → (∀ {u}, H' b = some u → ¬ CS clos b) → H' b = none := fun {b H'} hb n => by
    cases q : H' b with
    | none => rfl
    | some u => exact absurd hb (n q)
  have un0 : ∀ {b}, H b = none → unf (CS clos) H b = none := fun {b} e => by rw [unf_out (nn e)]; exact e
  have hok1 : HOk P w (unf (CS clos) H) s.heap := fun b u e => by
    by_cases hb : CS clos b
    · rw [unf_in hb] at e; cases e
    · rw [unf_out hb] at e
      exact (e0.hok b u e).stay (fun _ _ _ q => q) (fun c q => by rw [unf_out (nf q fun o z => by cases z)]; exact q) fun c xs q => by rw [unf_out (nf q fun o z => by cases z)]; exact q
  have e1 : Env0 P w K mg base A outer s (unf (CS clos) H) := ⟨e0.frames, e0.mod, fun b o e => ⟨(e0.bs b o e).1, un0 (e0.bs b o e).2⟩, e0.bsz, e0.funs, fun b hb => un0 (e0.frf b hb), hok1, e0.bare⟩
  obtain ⟨⟨oc, vs, t, hoc, hdc, hvc⟩, _, _⟩ := e0.hok c' _ hc
  have lim : s.heap.NoLimit := e0.mod.nolimit.keeps fun b o e => (e0.bs b o e).1
  refine PySem.W.kla_callFunE hr.depth (e0.hok f _ hf).1 rfl S.co S.gen rfl ⟨c', oc, vs, t, rfl, hoc, hdc, hvc⟩ ?_
  refine hb _ _ _ _ ?_
  refine wpAny_newFunctionEnv S.cell hl (fun h₁ hns hsb => ⟨lim.fresh _ hsb, ?_⟩) S.kind
  show codeAny _ _ (.expr body (PySem.W.envX q scope s.heap.objs.size f (.ref c') clos)) _ _
  have kp : ∀ b o, s.heap.get? b = some o → h₁.get? b = some o := fun b o e => hsb.extBut b o (Nat.ne_of_lt (Heap.lt_size e)) (Heap.get?_push_of_some _ e)
  have cellK : ∀ {y c}, clos.lookup y = some c → ∃ o u, h₁.get? c = some o ∧ o.data = .cell u ∧ ∀ (i : Nat) (v : V), Nl[i]? = some y → τ[i]? = some (some v) → ∃ u', u = some u' ∧ RelV v u' := fun {y c} e => by
    obtain ⟨o, u, q1, q2, q3⟩ := hcell y c e
    exact ⟨o, u, kp _ _ (e0.hok c _ q1).1, q2, q3⟩
  have J : Inv (lCx P w K mg base Nl q scope f c' clos A outer s (unf (CS clos) H) fun cls d H' => (∀ b, CS clos b → H' b = none) → E cls d (ref2 (CS clos) H H')) [] τ (unf (CS clos) H) { s with heap := h₁, toks := s.toks + binds.length } := by
    have noA : ∀ b : Addr, b ∉ (lCx P w K mg base Nl q scope f c' clos A outer s (unf (CS clos) H) fun cls d H' => (∀ b, CS clos b → H' b = none) → E cls d (ref2 (CS clos) H H')).ex := fun b z => absurd (show b ∈ ([] : List Addr) from z) (by simp)
    refine ⟨⟨e1.mod, S.kind, rfl, rfl, Nat.le_refl _, fun y z c q1 q2 => hinj y z c q1 q2, fun y hy => hclos y hy, fun y c z _ => absurd (show false = true from z) Bool.false_ne_true, fun _ => hr.hd, Around.frames_deeper e1.frames, .inr ⟨rfl, rfl⟩, fun b z => absurd z (noA b), e1.bs, e1.bsz, fun b _ _ => noA b,
        fun b z => absurd z (noA b), e1.funs, e1.frf⟩,
      rfl, e1.bare, Un.kept kp, ⟨_, hns, fun i y v q1 q2 q3 => ?_⟩, fun y c e => ?_, e1.hok.fresh (Nat.le_refl _), fun y c e => ?_, fun p hp => absurd (show p ∈ ([] : List (Addr × Obj)) from hp) (by simp), e1.hok.kept kp, hlen⟩
    · have q3 : scope.names.lookup y = some .local ∨ scope.names.lookup y = some .cell ∨ scope.names.lookup y = some .free := q3
      rcases q3 with k1 | k1 | k1
      · obtain ⟨u, r, e⟩ := hloc i y v q1 q2 k1
        exact ⟨u, r, .inl ⟨k1, e⟩⟩
      · exact absurd rfl (S.cell _ (PySem.mem_of_lookup k1))
      · obtain ⟨c, ec⟩ := hclos y (.inr k1)
        obtain ⟨o, u, o1, o2, o3⟩ := cellK ec
        obtain ⟨u', eu, r⟩ := o3 i v q1 q2
        exact ⟨u', r, .inr ⟨.inr k1, c, ec, o, o1, by rw [o2, eu]⟩⟩
    · obtain ⟨o, u, o1, o2, _⟩ := cellK e
      exact ⟨u, o, o1, o2⟩
    · exact unf_in ⟨y, e⟩
  refine PySem.W.kla_codeExpr (wpAny_mono ((hbody A outer s _ _ (hr.deeper _)).run [] _ τ _ _ J h) (fun v s' hq => ?_) fun e s' hq => wpAny_mono hq (fun _ s'' hx => ?_) fun e' s'' hx => ?_)
  · obtain ⟨v', H', J', rv, q1⟩ := hq
    have un : Un (frs outer) [] (unf (CS clos) H) H' s.heap s'.heap := J'.base
    have cellB : ∀ b, CS clos b → ∃ o, H b = some (frzO o) ∧ s'.heap.get? b = some o := fun b hb => by
      obtain ⟨o, u, o1, o2, o3⟩ := cellH b hb
      have nfr : b ∉ frs outer := fun hm => by
        have z := e0.frf b hm
        rw [o2] at z
        cases z
      exact ⟨o, o2, un.keep b o o1 (unf_in hb) nfr (by simp)⟩
    have nC : ∀ {b u}, H' b = some u → ¬ CS clos b := fun {b u} e hb => by
      obtain ⟨o, _, o1, _, _⟩ := cellH b hb
      have z := un.free b o o1 (unf_in hb) (by simp)
      rw [e] at z
      cases z
    refine ⟨v', ref2 (CS clos) H H', J'.os, J'.bare, ⟨fun b o e n hb hx => un.keep b o e (un0 n) hb hx, fun b o e n hb hx => un.slot b o e (un0 n) hb hx, fun b o e n hx => ?_, fun b o e hx => un.there b o e hx, fun b xs e => ?_, fun b o xs e => ?_, fun b ps e => ?_⟩, fun b u e => ?_, rv, q1 fun b hb => hidN hb fun {u} e => nC e⟩
    · rw [ref2_out (nn n)]
      exact un.free b o e (un0 n) hx
    · have nb := nf e fun o z => by cases z
      rw [ref2_out nb]
      exact un.tups b xs (by rw [unf_out nb]; exact e)
    · by_cases hb : CS clos b
      · rw [ref2_in hb]; exact e
      · rw [ref2_out hb]
        exact un.frzs b o xs (by rw [unf_out hb]; exact e)
    · have nb := nf e fun o z => by cases z
      obtain ⟨more, z⟩ := un.tbls b ps (by rw [unf_out nb]; exact e)
      exact ⟨more, by rw [ref2_out nb]; exact z⟩
    · by_cases hb : CS clos b
      · obtain ⟨o, o1, o2⟩ := cellB b hb
        rw [ref2_in hb, o1] at e
        cases e
        exact frz_ok o2
      · rw [ref2_out hb] at e
        exact (J'.hok b u e).stay (fun _ _ _ q => q) (fun c q => by rw [ref2_out (nC q)]; exact q) fun c xs q => by rw [ref2_out (nC q)]; exact q
  all_goals
    obtain ⟨a, B, H', cls, d, ea, fl, hokB, ub, na, os, ag, hW⟩ := hx
    have cellB : ∀ b, CS clos b → ∃ o, H b = some (frzO o) ∧ B.get? b = some o := fun b hb => by
      obtain ⟨o, u, o1, o2, o3⟩ := cellH b hb
      have nfr : b ∉ frs outer := fun hm => by
        have z := e0.frf b hm
        rw [o2] at z
        cases z
      exact ⟨o, o2, ub.keep b o o1 (unf_in hb) nfr⟩
    have nC : ∀ {b u}, H' b = some u → ¬ CS clos b := fun {b u} e hb => by
      obtain ⟨o, _, o1, _, _⟩ := cellH b hb
      have z := ub.free b o o1 (unf_in hb)
      rw [e] at z
      cases z
    refine ⟨a, B, ref2 (CS clos) H H', cls, d, ea, fl, fun b u e => ?_, ⟨fun b o e n hb => ub.keep b o e (un0 n) hb, fun b o e hb => ub.slot b o e hb, fun b o e n => ?_, fun b o e hb => ub.there b o e hb, fun b xs e => ?_, fun b o xs e => ?_, fun b ps e => ?_⟩, ?_, os, ag, hW fun b hb => hidN hb fun {u} e => nC e⟩
    · by_cases hb : CS clos b
      · obtain ⟨o, o1, o2⟩ := cellB b hb
        rw [ref2_in hb, o1] at e
        cases e
        exact frz_ok o2
      · rw [ref2_out hb] at e
        exact (hokB b u e).stay (fun _ _ _ q => q) (fun c q => by rw [ref2_out (nC q)]; exact q) fun c xs q => by rw [ref2_out (nC q)]; exact q
    · rw [ref2_out (nn n)]
      exact ub.free b o e (un0 n)
    · have nb := nf e fun o z => by cases z
      rw [ref2_out nb]
      exact ub.tups b xs (by rw [unf_out nb]; exact e)
    · by_cases hb : CS clos b
      · rw [ref2_in hb]; exact e
      · rw [ref2_out hb]
        exact ub.frzs b o xs (by rw [unf_out hb]; exact e)
    · have nb := nf e fun o z => by cases z
      obtain ⟨more, z⟩ := ub.tbls b ps (by rw [unf_out nb]; exact e)
      exact ⟨more, by rw [ref2_out nb]; exact z⟩
    · have nb : ¬ CS clos a := fun hb => by
        obtain ⟨o, _, o2⟩ := cellB a hb
        have z := fl.2.1
        rw [o2] at z
        cases z
      rw [ref2_out nb]
      exact na
/-- a lambda without parameters -/
theorem callOk_lam0 (S : LScope Nl scope) (hinj : InjC clos) (hclos : ∀ y, (scope.names.lookup y = some .cell ∨ scope.names.lookup y = some .free) → ∃ c, clos.lookup y = some c) (hlen : τ.length = Nl.length) (hnl : ∀ (i : Nat) (y : Str), Nl[i]? = some y → scope.names.lookup y ≠ some .local)
    (hbind : ∀ (doc pm cv ctv : Value), bindArgs (PySem.W.kdv_fn "<lambda>" q params (.expr body) scope clos .none doc pm cv ctv) ⟨[], []⟩ = pure [])
    (hbody : ∀ (A : Around) (outer : List Env) (s : Shared) (H : Hp) (E : XK), Room k (A.deeper (PySem.W.envX q scope s.heap.objs.size f (.ref c') clos)) → PE (lCx P w K mg base Nl q scope f c' clos A outer s H E) body (tb E)) :
    CallOk P w K mg base (k + 1) f (LamAt q params body scope clos dV doc pm c' ctv (fun dV _ => dV = .none) Nl τ f) (fun H Q E => tb (fun cls d H' => (∀ b, CS clos b → H' b = none) → E cls d (ref2 (CS clos) H H')) τ (unf (CS clos) H) fun v H' => (∀ b, CS clos b → H' b = none) → Q v (ref2 (CS clos) H H')) := by
  intro A outer s H Q E hr e0 hp h
  obtain ⟨_, _, eD, _⟩ := id hp
  subst eD
  exact callOk_core (binds := []) S hinj hclos hlen hr e0 hp (.of_eq (hbind _ _ _ _)) (fun y hy => absurd hy (by simp)) (fun i y v e1 _ e3 => absurd e3 (hnl i y e1)) hbody h
/-- a lambda with one parameter that has a default -/
theorem callOk_lam1 {i : Int} {a : Str} (S : LScope Nl scope) (hinj : InjC clos) (hclos : ∀ y, (scope.names.lookup y = some .cell ∨ scope.names.lookup y = some .free) → ∃ c, clos.lookup y = some c) (hlen : τ.length = Nl.length) (hnl : ∀ (j : Nat) (y : Str), Nl[j + 1]? = some y → scope.names.lookup y ≠ some .local)
    (h0 : Nl[0]? = some a) (ha : scope.names.lookup a = some .local) (hτ : τ[0]? = some (some (.int i)))
    (hbind : ∀ (s : Shared) (t : Addr) (u : Tok) (doc pm cv ctv : Value), s.heap.get? t = some (PySem.W.kdv_tup [.int i u]) → BindsTo s (PySem.W.kdv_fn "<lambda>" q params (.expr body) scope clos (.ref t) doc pm cv ctv) ⟨[], []⟩ [(a, .int i u)])
    (hbody : ∀ (A : Around) (outer : List Env) (s : Shared) (H : Hp) (E : XK), Room k (A.deeper (PySem.W.envX q scope s.heap.objs.size f (.ref c') clos)) → PE (lCx P w K mg base Nl q scope f c' clos A outer s H E) body (tb E)) :
    CallOk P w K mg base (k + 1) f (LamAt q params body scope clos dV doc pm c' ctv (Dflt1 i) Nl τ f) (fun H Q E => tb (fun cls d H' => (∀ b, CS clos b → H' b = none) → E cls d (ref2 (CS clos) H H')) τ (unf (CS clos) H) fun v H' => (∀ b, CS clos b → H' b = none) → Q v (ref2 (CS clos) H H')) := by
  intro A outer s H Q E hr e0 hp h
  obtain ⟨_, _, ⟨t, u, eD, et⟩, _⟩ := id hp
  subst eD
  refine callOk_core (binds := [(a, .int i u)]) S hinj hclos hlen hr e0 hp (hbind s t u _ _ _ _ (e0.hok t _ et).1) (fun y hy => ?_) (fun j y v e1 e2 e3 => ?_) hbody h
  · rw [List.mem_singleton.mp hy]
    exact ha
  · cases j with
    | zero =>
      rw [h0] at e1
      cases e1
      rw [hτ] at e2
      cases e2
      exact ⟨.int i u, ⟨u, rfl⟩, by simp⟩
    | succ j => exact absurd e3 (hnl j y e1)
/-- .. called with values -/
def CallOkV (P : Program) (w : World) (K : PySem.W.Frag) (mg : Str → Option Value) (base : Heap) (k : Nat) (f : Addr) (us : List Value) (ph : Hp → Prop) (sp : Hp → VK → XK → Prop) : Prop :=
  ∀ (A : Around) (outer : List Env) (s : Shared) (H : Hp) (Q : VK) (E : XK), Room k A → Env0 P w K mg base A outer s H → ph H → sp H Q E →
    codeAny (model P w) A (.call (.ref f) ⟨us, []⟩) (CR (L2.CX P w) outer P w H s Q E) s
/-- a lambda with one parameter -/
theorem callOk_lamP {v0 : V} {u0 : Value} {a : Str} (S : LScope Nl scope) (hinj : InjC clos) (hclos : ∀ y, (scope.names.lookup y = some .cell ∨ scope.names.lookup y = some .free) → ∃ c, clos.lookup y = some c) (hlen : τ.length = Nl.length) (hnl : ∀ (j : Nat) (y : Str), Nl[j + 1]? = some y → scope.names.lookup y ≠ some .local)
    (h0 : Nl[0]? = some a) (ha : scope.names.lookup a = some .local) (hτ : τ[0]? = some (some v0)) (hr0 : RelV v0 u0)
    (hbind : ∀ (doc pm cv ctv : Value), bindArgs (PySem.W.kdv_fn "<lambda>" q params (.expr body) scope clos .none doc pm cv ctv) ⟨[u0], []⟩ = pure [(a, u0)])
    (hbody : ∀ (A : Around) (outer : List Env) (s : Shared) (H : Hp) (E : XK), Room k (A.deeper (PySem.W.envX q scope s.heap.objs.size f (.ref c') clos)) → PE (lCx P w K mg base Nl q scope f c' clos A outer s H E) body (tb E)) :
    CallOkV P w K mg base (k + 1) f [u0] (LamAt q params body scope clos dV doc pm c' ctv (fun dV _ => dV = .none) Nl τ f) (fun H Q E => tb (fun cls d H' => (∀ b, CS clos b → H' b = none) → E cls d (ref2 (CS clos) H H')) τ (unf (CS clos) H) fun v H' => (∀ b, CS clos b → H' b = none) → Q v (ref2 (CS clos) H H')) := by
  intro A outer s H Q E hr e0 hp h
  obtain ⟨_, _, eD, _⟩ := id hp
  subst eD
  refine callOk_core (binds := [(a, u0)]) S hinj hclos hlen hr e0 hp (.of_eq (hbind _ _ _ _)) (fun y hy => ?_) (fun j y v e1 e2 e3 => ?_) hbody h
  · rw [List.mem_singleton.mp hy]
    exact ha
  · cases j with
    | zero =>
      rw [h0] at e1
      cases e1
      rw [hτ] at e2
      cases e2
      exact ⟨u0, hr0, by simp⟩
    | succ j => exact absurd e3 (hnl j y e1)
end
end GX
namespace GX
open PySem PySem.Spec PyProof.Rows L2 LamX
/-! ### what a call leaves: all that was known stands, but tables may have grown -/
structure XX (T : List (Addr × Str)) (H H' : Hp) : Prop where
  keep : ∀ b o, H b = some o → (∀ ps, o ≠ .tbl ps) → H' b = some o
  tbl : ∀ b ps, H b = some (.tbl ps) → ∃ ps', H' b = some (.tbl ps')
  tabG : ∀ p, GxR.TabG H p → GxR.TabG H' p
  tabs : Tabs T H → Tabs T H'
section
variable {T : List (Addr × Str)} {H H1 H2 : Hp} {K : PySem.W.Frag}
theorem XX.refl (H : Hp) : XX T H H := ⟨fun _ _ h _ => h, fun _ ps h => ⟨ps, h⟩, fun _ h => h, fun h => h⟩
theorem XX.trans (a : XX T H H1) (b : XX T H1 H2) : XX T H H2 :=
  ⟨fun c o h n => b.keep c o (a.keep c o h n) n, fun c ps h => by obtain ⟨ps', h'⟩ := a.tbl c ps h; exact b.tbl c ps' h', fun p h => b.tabG p (a.tabG p h), fun h => b.tabs (a.tabs h)⟩
theorem XX.of (e : ∀ b o, H b = some o → H1 b = some o) : XX T H H1 :=
  ⟨fun b o h _ => e b o h, fun b ps h => ⟨ps, e _ _ h⟩, fun p ⟨ps, h, t⟩ => ⟨ps, e _ _ h, t⟩, fun h => h.ext e⟩
theorem XX.new {p : Addr} {o : HO} (h : H p = none) : XX T H (upd H p o) := XX.of fun b u e => by rw [upd_ne (ne_of_none e h)]; exact e
theorem XX.then_new {p : Addr} {o : HO} (a : XX T H H1) (h : H1 p = none) : XX T H (upd H1 p o) := a.trans (XX.new h)
theorem XX.tabbed {P : Addr} (hT : ∀ p ∈ T, p.1 ≠ P) (hP : GxR.TabG H P) (t : GxR.Tabbed P H H1) : XX T H H1 := by
  obtain ⟨ps0, hp0, _⟩ := hP
  refine ⟨fun b o e n => ?_, fun b ps e => ?_, fun p h => ?_, fun h p hp => ?_⟩
  · have nb : b ≠ P := fun z => by rw [z, hp0] at e; exact n ps0 (Option.some.inj e).symm
    rw [t.2 b nb]; exact e
  · by_cases hb : b = P
    · rw [hb]; obtain ⟨ps', h', _⟩ := t.1; exact ⟨ps', h'⟩
    · exact ⟨ps, by rw [t.2 b hb]; exact e⟩
  · by_cases hb : p = P
    · rw [hb]; exact t.1
    · obtain ⟨ps, h1, h2⟩ := h
      exact ⟨ps, by rw [t.2 p hb]; exact h1, h2⟩
  · obtain ⟨ps, h1, h2, h3⟩ := h p hp
    refine ⟨ps, by rw [t.2 _ (hT p hp)]; exact h1, h2, fun pos cv hc => ?_⟩
    obtain ⟨c, e1, e2⟩ := h3 pos cv hc
    have nb : c ≠ P := fun z => by rw [z, hp0] at e2; exact codeO_ne ps0 (Option.some.inj e2).symm
    exact ⟨c, e1, by rw [t.2 c nb]; exact e2⟩
theorem XX.lam (e : ExtN H H1) (t : Tabs T H → Tabs T H1) (hg : ∀ b ps, H b = some (.tbl ps) → ∃ ps', H1 b = some (.tbl ps')) (hG : ∀ p, GxR.TabG H p → GxR.TabG H1 p) : XX T H H1 := ⟨fun b o h n => e b o h n, hg, hG, t⟩
theorem XX.there (a : XX T H H1) {p : Addr} {o : HO} (h : H p = some o) : ∃ o', H1 p = some o' := by
  by_cases ht : ∃ ps, o = .tbl ps
  · obtain ⟨ps, e⟩ := ht
    subst e
    obtain ⟨ps', h'⟩ := a.tbl p ps h
    exact ⟨_, h'⟩
  · exact ⟨o, a.keep p o h fun ps e => ht ⟨ps, e⟩⟩
theorem XX.free (a : XX T H H1) {p : Addr} (h : H1 p = none) : H p = none := by
  cases q : H p with
  | none => rfl
  | some o =>
    obtain ⟨o', q'⟩ := a.there q
    rw [h] at q'; cases q'
theorem XX.rd (a : XX T H H1) {p : Addr} {o : HO} (n : ∀ ps, o ≠ .tbl ps) (h : Rd H p o) : Rd H1 p o := by
  rcases h with h | ⟨ob, h⟩
  · exact .inl (a.keep _ _ h n)
  · exact .inr ⟨ob, a.keep _ _ h fun ps z => by cases z⟩
theorem XX.sqL (a : XX T H H1) {p : Addr} {xs : List V} (h : SqL K H p xs) : SqL K H1 p xs := by
  rcases h with h | h
  · exact .inl (a.rd (fun ps z => by cases z) h)
  · exact .inr h
theorem XX.sqT (a : XX T H H1) {p : Addr} {xs : List V} (h : SqT K H p xs) : SqT K H1 p xs := by
  rcases h with h | h
  · exact .inl (a.rd (fun ps z => by cases z) h)
  · exact .inr h
theorem XX.lst (a : XX T H H1) {p : Addr} {xs : List V} (h : H p = some (.lst xs)) : H1 p = some (.lst xs) := a.keep _ _ h fun ps z => by cases z
theorem XX.tup (a : XX T H H1) {p : Addr} {xs : List V} (h : H p = some (.tup xs)) : H1 p = some (.tup xs) := a.keep _ _ h fun ps z => by cases z
theorem XX.ins (a : XX T H H1) {p C dx : Addr} {fs : List (Str × V)} (h : H p = some (.ins C dx fs)) : H1 p = some (.ins C dx fs) := a.keep _ _ h fun ps z => by cases z
theorem XX.dk (a : XX T H H1) {p : Addr} {kvs : List (Key × V)} (h : H p = some (.dK kvs)) : H1 p = some (.dK kvs) := a.keep _ _ h fun ps z => by cases z
mutual
theorem Dp.xx (a : XX T H H1) : ∀ (d : PyData) (v : V), Dp K H v d → Dp K H1 v d
  | .none, _, h => by cases h; exact .non
  | .bool _, _, h => by cases h; exact .bl _
  | .int _, _, h => by cases h; exact .int _
  | .str _, _, h => by cases h; exact .str _
  | .list ds, _, h => by
    cases h with
    | lst hs ha => exact .lst (a.sqL hs) (Dp.xxAll a ds _ ha)
  | .tuple ds, _, h => by
    cases h with
    | tup hs ha => exact .tup (a.sqT hs) (Dp.xxAll a ds _ ha)
  | .dict _, _, h => by cases h
theorem Dp.xxAll (a : XX T H H1) : ∀ (ds : List PyData) (vs : List V), DpAll K H vs ds → DpAll K H1 vs ds
  | [], _, h => by cases h; exact .nil
  | d :: ds, _, h => by
    cases h with
    | cons h1 h2 => exact .cons (Dp.xx a d _ h1) (Dp.xxAll a ds _ h2)
end
/-! ### data -/
theorem dpAll_len : ∀ {vs : List V} {ds : List PyData}, DpAll K H vs ds → vs.length = ds.length
  | _, [], h => by cases h; rfl
  | _, d :: ds, h => by
    cases h with
    | cons h1 h2 => simp [dpAll_len h2]
theorem dpAll_get : ∀ {vs : List V} {ds : List PyData} {i : Nat} {v : V}, DpAll K H vs ds → vs[i]? = some v → ∃ d, ds[i]? = some d ∧ Dp K H v d
  | _, [], _, _, h, e => by cases h; simp at e
  | _, d :: ds, i, v, h, e => by
    cases h with
    | cons h1 h2 =>
      cases i with
      | zero => simp at e; subst e; exact ⟨d, rfl, h1⟩
      | succ i => simpa using dpAll_get h2 (by simpa using e)
theorem dpAll_at : ∀ {vs : List V} {ds : List PyData} {i : Nat} {d : PyData}, DpAll K H vs ds → ds[i]? = some d → ∃ v, vs[i]? = some v ∧ Dp K H v d
  | _, [], _, _, h, e => by simp at e
  | _, d0 :: ds, i, d, h, e => by
    cases h with
    | cons h1 h2 =>
      cases i with
      | zero => simp at e; subst e; exact ⟨_, rfl, h1⟩
      | succ i => simpa using dpAll_at h2 (by simpa using e)
theorem dp_tup {v : V} {ds : List PyData} (h : Dp K H v (.tuple ds)) : ∃ a xs, v = .ref a ∧ SqT K H a xs ∧ DpAll K H xs ds := by
  cases h with
  | tup hs ha => exact ⟨_, _, rfl, hs, ha⟩
theorem dp_lst {v : V} {ds : List PyData} (h : Dp K H v (.list ds)) : ∃ a xs, v = .ref a ∧ SqL K H a xs ∧ DpAll K H xs ds := by
  cases h with
  | lst hs ha => exact ⟨_, _, rfl, hs, ha⟩
theorem atI0 {v : V} {r : List V} : atI (v :: r) 0 = some v := atI_nat (j := 0) rfl
theorem dpAll0 {vs : List V} (h : DpAll K H vs []) : vs = [] := by cases h; rfl
theorem dpAllC {vs : List V} {d : PyData} {ds : List PyData} (h : DpAll K H vs (d :: ds)) : ∃ v r, vs = v :: r ∧ Dp K H v d ∧ DpAll K H r ds := by
  cases h with
  | cons h1 h2 => exact ⟨_, _, rfl, h1, h2⟩
theorem dpAll1 {v : V} {ds : List PyData} (h : DpAll K H [v] ds) : ∃ d, ds = [d] ∧ Dp K H v d := by
  cases ds with
  | nil => cases h
  | cons d r =>
    cases h with
    | cons h1 h2 =>
      cases r with
      | nil => exact ⟨d, rfl, h1⟩
      | cons _ _ => cases h2
theorem len2 {v0 : V} {xr : List V} (h : (v0 :: xr).length = 2) : ∃ v1, xr = [v1] := by
  match xr, h with
  | [v1], _ => exact ⟨v1, rfl⟩
theorem dpAll2 {vs : List V} {x y : PyData} (h : DpAll K H vs [x, y]) : ∃ a b, vs = [a, b] ∧ Dp K H a x ∧ Dp K H b y := by
  obtain ⟨a, r, rfl, h1, h2⟩ := dpAllC h
  obtain ⟨b, r2, rfl, h3, h4⟩ := dpAllC h2
  obtain rfl := dpAll0 h4
  exact ⟨a, b, rfl, h1, h3⟩
theorem dpAll5 {vs : List V} {d0 d1 d2 d3 d4 : PyData} (h : DpAll K H vs [d0, d1, d2, d3, d4]) : ∃ v0 v1 v2 v3 v4, vs = [v0, v1, v2, v3, v4] ∧ Dp K H v0 d0 ∧ Dp K H v1 d1 ∧ Dp K H v2 d2 ∧ Dp K H v3 d3 ∧ Dp K H v4 d4 := by
  obtain ⟨v0, r0, rfl, h0, k0⟩ := dpAllC h
  obtain ⟨v1, r1, rfl, h1, k1⟩ := dpAllC k0
  obtain ⟨v2, r2, rfl, h2, k2⟩ := dpAllC k1
  obtain ⟨v3, r3, rfl, h3, k3⟩ := dpAllC k2
  obtain ⟨v4, r4, rfl, h4, k4⟩ := dpAllC k3
  obtain rfl := dpAll0 k4
  exact ⟨v0, v1, v2, v3, v4, rfl, h0, h1, h2, h3, h4⟩
theorem dp_int {v : V} {i : Int} (h : Dp K H v (.int i)) : v = .int i := by cases h; rfl
theorem dp_str {v : V} {i : Str} (h : Dp K H v (.str i)) : v = .str i := by cases h; rfl
theorem dp_non {d : PyData} (h : Dp K H .non d) : d = .none := by cases h; rfl
theorem dp_notN {v : V} {d : PyData} (h : Dp K H v d) (hv : v ≠ .non) : d ≠ .none := by
  intro e
  subst e
  cases h
  exact hv rfl
/-- no dicts in it -/
def tyN : PyData → String
  | .none => "NoneType"
  | .bool _ => "bool"
  | .int _ => "int"
  | .str _ => "str"
  | .list _ => "list"
  | .tuple _ => "tuple"
  | .dict _ => "dict"
theorem ty_of {v : V} {d : PyData} (h : Dp K H v d) : TyX K H v (.type (tyN d)) := by
  cases h with
  | non => exact .base .non
  | bl b => exact .base (.bl b)
  | int i => exact .base (.int i)
  | str x => exact .base (.str x)
  | lst hs _ =>
    rcases hs with (h | ⟨o, h⟩) | ⟨o, its, n, h1, h2, _⟩
    · exact .base (.lst h)
    · exact .base (.frz h)
    · exact .kList h1 h2
  | tup hs _ =>
    rcases hs with (h | ⟨o, h⟩) | ⟨o, its, n, h1, h2, _⟩
    · exact .base (.tup h)
    · exact .fTuple h
    · exact .kTuple h1 h2
/-- isinstance, of data -/
def isT (n : String) (d : PyData) : Bool := match d with
  | .none => decide (n = "NoneType")
  | .bool _ => decide (n = "bool") || decide (n = "int")
  | .int _ => decide (n = "int")
  | .str _ => decide (n = "str")
  | .list _ => decide (n = "list")
  | .tuple _ => decide (n = "tuple")
  | .dict _ => decide (n = "dict")
theorem rIsi_of {v : V} {d : PyData} {Q : VK} (n : String) (h : Dp K H v d) (hn : ∀ m ∈ ["NoneType", "bool", "int", "str", "list", "tuple", "dict"], kitB m n = some (decide (m = n) || (decide (m = "bool") && decide (n = "int")))) (q : Q (.bl (isT n d)) H) : rIsi K [v, .ty n] H Q := by
  refine ⟨v, .ty n, .type (tyN d), .type n, isT n d, rfl, .ty n, ty_of h, kit_ty ?_, q⟩
  rw [hn (tyN d) (by cases d <;> simp [tyN])]
  cases d <;> simp [tyN, isT, eq_comm]
theorem t_isi {σ : L2.St} {i : Nat} {v : V} {d : PyData} {n : String} {Q : VK} (hσ : σ[i]? = some (some v)) (h : Dp K H v d) (hn : ∀ m ∈ ["NoneType", "bool", "int", "str", "list", "tuple", "dict"], kitB m n = some (decide (m = n) || (decide (m = "bool") && decide (n = "int")))) (q : Q (.bl (isT n d)) H) :
    tCB (rIsi K) (tCons (tVar i) (tCons (tC (.ty n)) tNil)) σ H Q := ⟨v, hσ, rIsi_of n h hn q⟩
theorem kit_int : ∀ m ∈ ["NoneType", "bool", "int", "str", "list", "tuple", "dict"], kitB m "int" = some (decide (m = "int") || (decide (m = "bool") && decide (("int" : String) = "int"))) := by decide +kernel
theorem kit_bool : ∀ m ∈ ["NoneType", "bool", "int", "str", "list", "tuple", "dict"], kitB m "bool" = some (decide (m = "bool") || (decide (m = "bool") && decide (("bool" : String) = "int"))) := by decide +kernel
theorem kit_tuple : ∀ m ∈ ["NoneType", "bool", "int", "str", "list", "tuple", "dict"], kitB m "tuple" = some (decide (m = "tuple") || (decide (m = "bool") && decide (("tuple" : String) = "int"))) := by decide +kernel
theorem kit_list : ∀ m ∈ ["NoneType", "bool", "int", "str", "list", "tuple", "dict"], kitB m "list" = some (decide (m = "list") || (decide (m = "bool") && decide (("list" : String) = "int"))) := by decide +kernel
theorem kit_str : ∀ m ∈ ["NoneType", "bool", "int", "str", "list", "tuple", "dict"], kitB m "str" = some (decide (m = "str") || (decide (m = "bool") && decide (("str" : String) = "int"))) := by decide +kernel
end
/-! ### a def that is called by its name -/
structure Cal1 (P : Program) (w : World) (K : PySem.W.Frag) (mg : Str → Option Value) (base : Heap) (CX : CXT) (x : Str) (ps : List Str) (k : Nat) (sp : Sp) (f : Addr) (fd : FuncData) : Prop where
  F : FnOk P w K mg base CX k f fd ps sp
  m : mg x = some (.ref f)
  kp : PySem.W.keepIn K (.ref f) = true
  b : Binds K fd ps []
def Cal (P : Program) (w : World) (K : PySem.W.Frag) (mg : Str → Option Value) (base : Heap) (CX : CXT) (x : Str) (ps : List Str) (k : Nat) (sp : Sp) : Prop := ∃ f fd, Cal1 P w K mg base CX x ps k sp f fd
section
variable {X : Cx}
theorem pe_cal {ps : List Str} {k : Nat} {sp : Sp} {x : Str} {p pos : Pos} {e : Expr} {es : List Expr} {t : TA} (c : Cal X.prog X.w X.K X.mg X.base CX0 x ps k sp) (hr : Room k X.A) (ha : PA X (e :: es) t) (hg : Gl X x := by rfl) (hdb : (x == ("__debug__" : Str)) = false := by decide)
    (he : starEach (e :: es) X.env = (false, eval e X.env) :: starEach es X.env := by rfl) (hpl : (backTo pos (starEach es X.env)).any (·.1) = false := by rfl) : PE X (.Call (.Name x p) (e :: es) [] pos) (tCall sp [] E0 t) := by
  obtain ⟨f, fd, c⟩ := c
  exact pe_call c.F hr hg c.m c.kp c.b .nil pass0 ha hdb he hpl
theorem pe_cal0 {ps : List Str} {k : Nat} {sp : Sp} {x : Str} {p pos : Pos} (c : Cal X.prog X.w X.K X.mg X.base CX0 x ps k sp) (hr : Room k X.A) (hg : Gl X x := by rfl) (hdb : (x == ("__debug__" : Str)) = false := by decide) : PE X (.Call (.Name x p) [] [] pos) (tCall sp [] E0 tNil) := by
  obtain ⟨f, fd, c⟩ := c
  exact pe_call0 c.F hr hg c.m c.kp c.b .nil pass0 hdb
/-- .. that may raise -/
theorem pe_calX {ps : List Str} {k : Nat} {sp : Sp} {x : Str} {p pos : Pos} {e : Expr} {es : List Expr} {t : TA} {E : XK} (c : Cal X.prog X.w X.K X.mg X.base (L2.CX X.prog X.w) x ps k sp) (hr : Room k X.A) (hx : Passes (L2.CX X.prog X.w) X E) (ha : PA X (e :: es) t) (hg : Gl X x := by rfl) (hdb : (x == ("__debug__" : Str)) = false := by decide)
    (he : starEach (e :: es) X.env = (false, eval e X.env) :: starEach es X.env := by rfl) (hpl : (backTo pos (starEach es X.env)).any (·.1) = false := by rfl) : PE X (.Call (.Name x p) (e :: es) [] pos) (tCall sp [] E t) := by
  obtain ⟨f, fd, c⟩ := c
  exact pe_call c.F hr hg c.m c.kp c.b .nil hx ha hdb he hpl
theorem pe_no {e : Expr} : PE X e (fun _ _ _ => False) := ⟨fun _ _ _ _ _ _ h => h.elim⟩
end
/-- a def whose code object is known -/
structure FunC (K : PySem.W.Frag) (x qual : Str) (st : Stmt) (f : Addr) (fd : FuncData) (c : Addr) : Prop where
  ex : ∃ (oc : Value) (od : Option Addr) (kV doc pm : Value) (an : Option Addr) (ct : Value) (osl : Array (Option Value)),
    fd = PySem.W.fnOf x qual (defArgs st) (defBody st) (defScope st) .none kV doc pm an (.ref c) ct ∧ K.lookup f = some ⟨oc, od, .func fd, osl⟩ ∧ PySem.W.codeIn K (.ref c) qual = true
  kp : PySem.W.keepIn K (.ref f) = true
theorem FunC.toFun {K : PySem.W.Frag} {x qual : Str} {st : Stmt} {f : Addr} {fd : FuncData} {c : Addr} (F : FunC K x qual st f fd c) : Fun K x qual st f fd := by
  obtain ⟨oc, od, kV, doc, pm, an, ct, osl, e, l, q⟩ := F.ex
  exact ⟨⟨oc, od, kV, doc, pm, an, .ref c, ct, osl, e, l, q⟩, F.kp⟩
theorem FunC.ok {P : Program} {w : World} {K : PySem.W.Frag} {mg : Str → Option Value} {base : Heap} {x qual : Str} {st : Stmt} {f : Addr} {fd : FuncData} {c : Addr} {N ps : List Str} {k : Nat} {sp : Sp} (F : FunC K x qual st f fd c) (S : FnScope N ps (defScope st)) (len : ∀ vs H Q E, sp vs H Q E → vs.length = ps.length)
    (hbody : ∀ (A : Around) (outer : List Env) (s : Shared) (H : Hp) (vs : List V) (Q : VK) (E : XK), Room k (A.deeper (envOfC qual (defScope st) s.heap.objs.size f (.ref c))) → sp vs H Q E →
      ∃ t, PSs (cxOf CX0 P w K mg base N qual (defScope st) f (.ref c) A outer s H E).nox (defBody st) t ∧ t { nx := fun _ H' => Q .non H', rt := Q } (start N vs) H) : FnOk P w K mg base CX0 (k + 1) f fd ps sp := by
  obtain ⟨oc, od, kV, doc, pm, an, ct, osl, rfl, lk, hcd⟩ := F.ex
  refine fn_of lk hcd S len fun A outer s H vs Q E hr hsp => ?_
  obtain ⟨t, h, q⟩ := hbody A outer s H vs Q E hr hsp
  exact ⟨t, h.nox, q⟩
end GX
/-! the program's forms as plain functions over data -/
namespace GX
open PySem PySem.Spec PyProof.Rows L2 LamX
def isNum : PyData → Int → Int → Bool
  | .int i, lo, hi => decide (lo ≤ i) && decide (i ≤ hi)
  | _, _, _ => false
def isTup : PyData → Int → Bool
  | .tuple ds, n => decide ((ds.length : Int) = n)
  | _, _ => false
def isNext : PyData → Bool
  | .none => true
  | .tuple [a, b] => isNum a 0 11 && isNum b 0 7
  | _ => false
def holds : List PyData → Int → Bool
  | [_, t, b, s, n], least => isNum t 0 99 && isNum b 0 24 && (match b with | .int bi => isNum s least (24 - bi) | _ => false) && isNext n
  | _, _ => false
def isSlot : PyData → Bool
  | .tuple (w :: r) => if PyData.eqv w (.str "free") = true then (match r with | [t] => isNum t 0 100 | _ => false) else if PyData.eqv w (.str "row") = true then holds (w :: r) 0 else PyData.eqv w (.str "part") && holds (w :: r) 1
  | _ => false
def isFrame : PyData → Bool
  | .tuple [.tuple s, .tuple c] => decide (s.length = 8) && decide (c.length = 24) && c.all fun x => isNum x 0 99
  | _ => false
def isPage : PyData → Bool
  | .tuple [.tuple s, .tuple c] => isFrame (.tuple [.tuple s, .tuple c]) && s.all isSlot
  | _ => false
def freeD (t : Int) : PyData := .tuple [.str "free", .int t]
def freshD : PyData := .tuple [.tuple (List.replicate 8 (freeD 0)), .tuple (List.replicate 24 (.int 0))]
theorem isTup_dec {xs : List V} {ds : List PyData} {n : Int} (h : xs.length = ds.length) : isTup (.tuple ds) n = decide (V.int (xs.length : Int) = V.int n) := by
  rw [dec_int, h]
  show decide _ = _
  by_cases e : ((ds.length : Nat) : Int) = n
  · simp [e]
  · simp [e]
theorem isTup2 {d : PyData} (h : isTup d 2 = true) : ∃ x y, d = .tuple [x, y] := by
  match d, h with
  | .tuple [x, y], _ => exact ⟨x, y, rfl⟩
  | .tuple [], h => simp [isTup] at h
  | .tuple [_], h => simp [isTup] at h
  | .tuple (_ :: _ :: _ :: r), h => simp [isTup] at h; omega
theorem isNext_no {d : PyData} (hn : d ≠ .none) (h : isTup d 2 = false) : isNext d = false := by
  match d, hn, h with
  | .none, hn, _ => exact absurd rfl hn
  | .tuple [x, y], _, h => simp [isTup] at h
  | .tuple [], _, _ => rfl
  | .tuple [_], _, _ => rfl
  | .tuple (_ :: _ :: _ :: r), _, _ => rfl
  | .int _, _, _ => rfl
  | .bool _, _, _ => rfl
  | .str _, _, _ => rfl
  | .list _, _, _ => rfl
  | .dict _, _, _ => rfl
theorem len5 {ds : List PyData} (h : ds.length = 5) : ∃ a b c d e, ds = [a, b, c, d, e] := by
  match ds, h with
  | [a, b, c, d, e], _ => exact ⟨a, b, c, d, e, rfl⟩
theorem holds_no {ds : List PyData} {least : Int} (h : ¬ ds.length = 5) : holds ds least = false := by
  unfold holds
  split
  · exact absurd rfl h
  · rfl
theorem isT_tuple {d : PyData} (h : isT "tuple" d = true) : ∃ ds, d = .tuple ds := by
  cases d with
  | tuple ds => exact ⟨ds, rfl⟩
  | _ => exact absurd h (by simp [isT])
theorem isSlot_no {d : PyData} (h : isT "tuple" d = false) : isSlot d = false := by
  cases d with
  | tuple ds => exact absurd h (by simp [isT])
  | _ => rfl
theorem isSlot_free {d0 : PyData} {r : List PyData} (e : PyData.eqv d0 (.str "free") = true) (h : ∀ d1, r ≠ [d1]) : isSlot (.tuple (d0 :: r)) = false := by
  match r, h with
  | [], _ => simp [isSlot, e]
  | [d1], h => exact absurd rfl (h d1)
  | _ :: _ :: _, _ => simp [isSlot, e]
theorem isTupN {d : PyData} {n : Nat} (h : isTup d n = true) : ∃ ds, d = .tuple ds ∧ ds.length = n := by
  match d, h with
  | .tuple ds, h => exact ⟨ds, rfl, by have := of_decide_eq_true h; omega⟩
theorem isFrame_no {d : PyData} (h : isTup d 2 = false) : isFrame d = false := by
  unfold isFrame
  split
  · simp [isTup] at h
  · rfl
theorem isFrame_no1 {x y : PyData} (h : isTup x 8 = false) : isFrame (.tuple [x, y]) = false := by
  unfold isFrame
  split
  · rename_i s c e
    injection e with e
    injection e with e1 e2
    subst e1
    have h' : ¬ ((s.length : Nat) : Int) = 8 := by simpa [isTup] using h
    have : ¬ s.length = 8 := by omega
    simp [this]
  · rfl
theorem isFrame_no2 {x y : PyData} (h : isTup y 24 = false) : isFrame (.tuple [x, y]) = false := by
  unfold isFrame
  split
  · rename_i s c e
    injection e with e
    injection e with e1 e2
    injection e2 with e2 e3
    subst e2
    have h' : ¬ ((c.length : Nat) : Int) = 24 := by simpa [isTup] using h
    have : ¬ c.length = 24 := by omega
    simp [this]
  · rfl
theorem isFrame_shape {d : PyData} (h : isFrame d = true) : ∃ s c, d = .tuple [.tuple s, .tuple c] := by
  unfold isFrame at h
  split at h
  · exact ⟨_, _, rfl⟩
  · cases h
theorem isPage_no {d : PyData} (h : isFrame d = false) : isPage d = false := by
  unfold isPage
  split
  · rw [h]; rfl
  · rfl
theorem isNum_int {d : PyData} {lo hi : Int} (h : isNum d lo hi = true) : ∃ i, d = .int i ∧ lo ≤ i ∧ i ≤ hi := by
  match d, h with
  | .int i, h => exact ⟨i, rfl, by simpa [isNum] using h⟩
theorem shaped_mem {xs : List PyData} {x : PyData} (h : SeqAt.shaped (.tuple xs) = true) (hx : x ∈ xs) : SeqAt.shaped x = true := by
  have h1 := SeqAt.canLay_of_shaped h
  have h2 := SeqAt.depth_of_shaped h
  have h3 : PyData.canLayAll0 xs = true := by simpa only [PyData.canLay0] using h1
  have h4 : PyData.depthAll xs + 1 ≤ 64 := by simpa only [PyData.depth] using h2
  have h5 := PyData.depth_le_depthAll xs x hx
  unfold SeqAt.shaped
  rw [PyData.canLay0_of_mem xs x h3 hx]
  exact decide_eq_true (by omega)
theorem shaped_str (x : Str) (h : PyData.canLay0 (.str x) = true) : SeqAt.shaped (.str x) = true := by
  unfold SeqAt.shaped
  rw [h]
  exact decide_eq_true (by show 0 ≤ 64; omega)
theorem sh_free : SeqAt.shaped (.str "free") = true := by decide +kernel
theorem sh_row : SeqAt.shaped (.str "row") = true := by decide +kernel
theorem sh_part : SeqAt.shaped (.str "part") = true := by decide +kernel
/-! ### promises -/
def spNum (K : PySem.W.Frag) : Sp := fun vs H Q _ => ∃ v d lo hi, vs = [v, .int lo, .int hi] ∧ Dp K H v d ∧ Q (.bl (isNum d lo hi)) H
def spTup (K : PySem.W.Frag) : Sp := fun vs H Q _ => ∃ v d n, vs = [v, .int n] ∧ Dp K H v d ∧ Q (.bl (isTup d n)) H
def spNext (K : PySem.W.Frag) : Sp := fun vs H Q _ => ∃ v d, vs = [v] ∧ Dp K H v d ∧ Q (.bl (isNext d)) H
def spHolds (K : PySem.W.Frag) : Sp := fun vs H Q _ => ∃ v ds least, vs = [v, .int least] ∧ Dp K H v (.tuple ds) ∧ Q (.bl (holds ds least)) H
def spSlot (K : PySem.W.Frag) : Sp := fun vs H Q _ => ∃ v d, vs = [v] ∧ Dp K H v d ∧ SeqAt.shaped d = true ∧ Q (.bl (isSlot d)) H
def valsB (ds : List PyData) : Bool := ds.all fun z => isNum z 0 99
def isCells : PyData → Bool
  | .tuple ds => decide (ds.length = 24) && valsB ds
  | _ => false
def spVals (K : PySem.W.Frag) (T : List (Addr × Str)) (P : Addr) : Sp := fun vs H Q _ => ∃ v d ds, vs = [v] ∧ Dp K H v d ∧ (d = .list ds ∨ d = .tuple ds) ∧ GxR.TabG H P ∧ ∀ H', XX T H H' → Q (.bl (valsB ds)) H'
def spCells (K : PySem.W.Frag) (T : List (Addr × Str)) (P : Addr) : Sp := fun vs H Q _ => ∃ v d, vs = [v] ∧ Dp K H v d ∧ GxR.TabG H P ∧ ∀ H', XX T H H' → Q (.bl (isCells d)) H'
def spFrame (K : PySem.W.Frag) (T : List (Addr × Str)) (P : Addr) : Sp := fun vs H Q _ => ∃ v d, vs = [v] ∧ Dp K H v d ∧ GxR.TabG H P ∧ ∀ H', XX T H H' → Q (.bl (isFrame d)) H'
def spPage (K : PySem.W.Frag) (T : List (Addr × Str)) (P1 P2 : Addr) : Sp := fun vs H Q _ => ∃ v d, vs = [v] ∧ Dp K H v d ∧ SeqAt.shaped d = true ∧ GxR.TabG H P1 ∧ GxR.TabG H P2 ∧ ∀ H', XX T H H' → Q (.bl (isPage d)) H'
def spFresh (K : PySem.W.Frag) (T : List (Addr × Str)) : Sp := fun vs H Q _ => vs = [] ∧ ∀ H' v, XX T H H' → Dp K H' v freshD → Q v H'
/-- the numbers of the module forms -/
structure CoF (mg : Str → Option Value) : Prop where
  slots : ∃ t, mg "SLOTS" = some (.int 8 t)
  cells : ∃ t, mg "CELLS" = some (.int 24 t)
  most : ∃ t, mg "MOST_PAGES" = some (.int 12 t)
  cell : ∃ t, mg "GREATEST_CELL" = some (.int 99 t)
  turn : ∃ t, mg "GREATEST_TURN" = some (.int 99 t)
  spent : ∃ t, mg "SPENT_TURN" = some (.int 100 t)
/-- built-in names that the program does not bind -/
structure Blt (mg : Str → Option Value) : Prop where
  isi : mg "isinstance" = none
  len : mg "len" = none
  all : mg "all" = none
  int : mg "int" = none
  bool : mg "bool" = none
  tuple : mg "tuple" = none
  list : mg "list" = none
  range : mg "range" = none
section
variable {X : Cx}
theorem pe_const {x : Str} {n : Int} {pos : Pos} (h : ∃ t, X.mg x = some (.int n t)) (hg : Gl X x := by rfl) (hd : (x == ("__debug__" : Str)) = false := by decide) : PE X (.Name x pos) (tC (.int n)) := by
  obtain ⟨t, h⟩ := h
  exact pe_glob hg h ⟨t, rfl⟩ hd
end
theorem k_isi : bootBuiltins "isinstance" = some (.builtin "isinstance") := by decide +kernel
end GX
namespace GX
open PySem PySem.Spec PyProof.Rows L2 LamX
def gsB (N Ng : List Str) (sc scope : Scope) (x : Str) (cap : List Nat) : Bool :=
  decide (scope.kind = .function) && !scope.isCoroutine && (scope.names.all fun y => !decide (y.2 = .cell)) && decide (scope.names.lookup (".0" : Str) = some .local) && decide (scope.names.lookup x = some .local) &&
    (scope.names.all fun y => !decide (y.2 = .free) || decide (sc.names.lookup y.1 = some .cell) || decide (sc.names.lookup y.1 = some .free)) && decide Ng.Nodup && decide (Ng[0]? = some x) && decide (Ng.length = cap.length + 1) &&
    (List.range cap.length).all fun j => match Ng[j + 1]?, cap[j]? with
      | some y, some i => decide (scope.names.lookup y = some .free) && decide (N[i]? = some y)
      | _, _ => false
theorem gs_by {N Ng : List Str} {sc scope : Scope} {x : Str} {cap : List Nat} (h : gsB N Ng sc scope x cap = true) : GS N Ng sc scope x cap := by
  unfold gsB at h
  simp only [Bool.and_eq_true, Bool.or_eq_true, Bool.not_eq_true', decide_eq_true_eq, decide_eq_false_iff_not, List.all_eq_true] at h
  obtain ⟨⟨⟨⟨⟨⟨⟨⟨⟨h1, h2⟩, h3⟩, h4⟩, h5⟩, h6⟩, h7⟩, h8⟩, h9⟩, h10⟩ := h
  refine ⟨h1, h2, fun y hy => h3 y hy, h4, h5, fun y hy e => ?_, h7, h8, fun j y e => ?_, h9⟩
  · rcases h6 y hy with (z | z) | z
    · exact absurd e z
    · exact .inl z
    · exact .inr z
  · have hj : j < cap.length := by
      have := (List.getElem?_eq_some_iff.mp e).1
      omega
    have q := h10 j (List.mem_range.mpr hj)
    rw [e, List.getElem?_eq_getElem hj] at q
    simp only [Bool.and_eq_true, decide_eq_true_eq] at q
    exact ⟨q.1, cap[j], List.getElem?_eq_getElem hj, q.2⟩
section
variable {K : PySem.W.Frag} {T : List (Addr × Str)} {H : Hp} {σ : L2.St} {cap : List Nat} {te : TE} {Q : VK} {P : Addr}
theorem all_take {α : Type} (g : α → Bool) : ∀ (l : List α) (i : Nat) (x : α), l[i]? = some x → (l.take (i + 1)).all g = ((l.take i).all g && g x)
  | [], i, x, h => by simp at h
  | a :: l, 0, x, h => by simp at h; subst h; simp
  | a :: l, i + 1, x, h => by
    have ih := all_take g l i x (by simpa using h)
    rw [List.take_succ_cons, List.all_cons, ih, List.take_succ_cons, List.all_cons, Bool.and_assoc]
theorem all_no {α : Type} (g : α → Bool) {l : List α} {x : α} (hx : x ∈ l) (h : g x = false) : l.all g = false := by
  rw [Bool.eq_false_iff]
  intro z
  have := List.all_eq_true.mp z x hx
  rw [h] at this
  cases this
/-- what is asked of a walk over data, in a tuple -/
theorem all_dpT {a : Addr} {xs : List V} {ds : List PyData} {g : PyData → Bool} (hS : SqT K H a xs) (hd : DpAll K H xs ds)
    (hel : ∀ (d : PyData) (v : V) (H' : Hp) (W : VK), d ∈ ds → Dp K H' v d → XX T H H' → (∀ H2, XX T H' H2 → W (.bl (g d)) H2) → te ((gSt σ cap).set 0 (some v)) H' W) (k : ∀ H', XX T H H' → Q (.bl (ds.all g)) H') :
    ∃ (N : Nat) (Pv : Nat → Hp → Prop), Pv 0 H ∧ Turns (Itt K a) N (gSt σ cap) te Pv (fun i y H => ∃ b, y = .bl b ∧ (b = true → Pv (i + 1) H) ∧ (b = false → Q (.bl false) H)) (fun _ H => Q (.bl true) H) := by
  refine ⟨ds.length, fun i H' => XX T H H' ∧ (ds.take i).all g = true ∧ i ≤ ds.length, ⟨XX.refl H, by simp, Nat.zero_le _⟩, fun i H' p => ?_⟩
  obtain ⟨x1, x2, x3⟩ := p
  have hl := dpAll_len hd
  by_cases hi : i < ds.length
  · obtain ⟨v, ev, dv⟩ := dpAll_at hd (List.getElem?_eq_getElem hi)
    refine .inr ⟨⟨xs, v, x1.sqT hS, ev⟩, hi, fun v' H'' y => ?_⟩
    obtain ⟨e1, e2⟩ := y
    rw [e1]
    have e3 := e2 xs (x1.sqT hS)
    have e5 : v = v' := Option.some.inj (ev.symm.trans e3)
    rw [e5] at dv
    refine hel ds[i] v' H' _ (List.getElem_mem hi) (Dp.xx x1 _ _ dv) x1 fun H2 x4 => ⟨g ds[i], rfl, fun hb => ⟨x1.trans x4, ?_, hi⟩, fun hb => ?_⟩
    · rw [all_take g ds i _ (List.getElem?_eq_getElem hi), x2, hb]; rfl
    · have := k H2 (x1.trans x4)
      rw [all_no g (List.getElem_mem hi) hb] at this
      exact this
  · refine .inl ⟨⟨xs, x1.sqT hS, by omega⟩, ?_⟩
    have e : ds.take i = ds := List.take_of_length_le (by omega)
    rw [e] at x2
    have := k H' x1
    rw [x2] at this
    exact this
theorem all_dpL {a : Addr} {xs : List V} {ds : List PyData} {g : PyData → Bool} (hS : SqL K H a xs) (hd : DpAll K H xs ds)
    (hel : ∀ (d : PyData) (v : V) (H' : Hp) (W : VK), d ∈ ds → Dp K H' v d → XX T H H' → (∀ H2, XX T H' H2 → W (.bl (g d)) H2) → te ((gSt σ cap).set 0 (some v)) H' W) (k : ∀ H', XX T H H' → Q (.bl (ds.all g)) H') :
    ∃ (N : Nat) (Pv : Nat → Hp → Prop), Pv 0 H ∧ Turns (Itl K a) N (gSt σ cap) te Pv (fun i y H => ∃ b, y = .bl b ∧ (b = true → Pv (i + 1) H) ∧ (b = false → Q (.bl false) H)) (fun _ H => Q (.bl true) H) := by
  refine ⟨ds.length, fun i H' => XX T H H' ∧ (ds.take i).all g = true ∧ i ≤ ds.length, ⟨XX.refl H, by simp, Nat.zero_le _⟩, fun i H' p => ?_⟩
  obtain ⟨x1, x2, x3⟩ := p
  have hl := dpAll_len hd
  by_cases hi : i < ds.length
  · obtain ⟨v, ev, dv⟩ := dpAll_at hd (List.getElem?_eq_getElem hi)
    refine .inr ⟨⟨xs, v, x1.sqL hS, ev⟩, hi, fun v' H'' y => ?_⟩
    obtain ⟨e1, e2⟩ := y
    rw [e1]
    have e3 := e2 xs (x1.sqL hS)
    have e5 : v = v' := Option.some.inj (ev.symm.trans e3)
    rw [e5] at dv
    refine hel ds[i] v' H' _ (List.getElem_mem hi) (Dp.xx x1 _ _ dv) x1 fun H2 x4 => ⟨g ds[i], rfl, fun hb => ⟨x1.trans x4, ?_, hi⟩, fun hb => ?_⟩
    · rw [all_take g ds i _ (List.getElem?_eq_getElem hi), x2, hb]; rfl
    · have := k H2 (x1.trans x4)
      rw [all_no g (List.getElem_mem hi) hb] at this
      exact this
  · refine .inl ⟨⟨xs, x1.sqL hS, by omega⟩, ?_⟩
    have e : ds.take i = ds := List.take_of_length_le (by omega)
    rw [e] at x2
    have := k H' x1
    rw [x2] at this
    exact this
end
end GX
namespace GX
open PySem PySem.Spec PyProof.Rows L2 LamX
/-- all that was known stands but what is at S (lists, dicts, instances); tables may have grown -/
structure XM (T : List (Addr × Str)) (S : Addr → Prop) (H H' : Hp) : Prop where
  keep : ∀ b o, H b = some o → ¬ S b → (∀ ps, o ≠ .tbl ps) → H' b = some o
  there : ∀ b o, H b = some o → ∃ o', H' b = some o'
  tup : ∀ b xs, H b = some (.tup xs) → H' b = some (.tup xs)
  frz : ∀ b o u, H b = some (.frz o u) → H' b = some (.frz o u)
  tabG : ∀ p, GxR.TabG H p → GxR.TabG H' p
  tabs : Tabs T H → Tabs T H'
/-- what may be changed -/
def MutO : HO → Prop
  | .lst _ => True
  | .dK _ => True
  | .dT _ => True
  | .ins _ _ _ => True
  | _ => False
section
variable {T : List (Addr × Str)} {S S' : Addr → Prop} {H H1 H2 : Hp} {K : PySem.W.Frag}
theorem XX.xm (a : XX T H H1) : XM T S H H1 := ⟨fun b o e _ n => a.keep b o e n, fun _ _ e => a.there e, fun _ _ e => a.tup e, fun _ _ _ e => a.keep _ _ e (fun ps z => by cases z), a.tabG, a.tabs⟩
theorem XM.refl (H : Hp) : XM T S H H := (XX.refl H).xm
theorem XM.trans (a : XM T S H H1) (b : XM T S H1 H2) : XM T S H H2 :=
  ⟨fun c o e n t => b.keep c o (a.keep c o e n t) n t, fun c o e => by obtain ⟨o', e'⟩ := a.there c o e; exact b.there c o' e', fun c xs e => b.tup c xs (a.tup c xs e), fun c o u e => b.frz c o u (a.frz c o u e), fun p h => b.tabG p (a.tabG p h), fun h => b.tabs (a.tabs h)⟩
theorem XM.mono (a : XM T S H H1) (h : ∀ b, S b → S' b) : XM T S' H H1 := ⟨fun b o e n t => a.keep b o e (fun z => n (h b z)) t, a.there, a.tup, a.frz, a.tabG, a.tabs⟩
theorem XM.upd {p : Addr} {o o' : HO} (hp : H p = some o) (hS : S p) (m : MutO o) : XM T S H (upd H p o') := by
  have ne : ∀ {b u}, H b = some u → ¬ MutO u → b ≠ p := fun {b u} e n z => by rw [z, hp] at e; cases e; exact n m
  refine ⟨fun b u e n _ => ?_, fun b u e => ?_, fun b xs e => ?_, fun b ob u e => ?_, fun q h => ?_, fun h q hq => ?_⟩
  · rw [upd_ne (fun z => n (by rw [z]; exact hS))]; exact e
  · by_cases hb : b = p
    · exact ⟨o', by rw [hb, upd_same]⟩
    · exact ⟨u, by rw [upd_ne hb]; exact e⟩
  · rw [upd_ne (ne e fun z => z)]; exact e
  · rw [upd_ne (ne e fun z => z)]; exact e
  · obtain ⟨ps, h1, h2⟩ := h
    exact ⟨ps, by rw [upd_ne (ne h1 fun z => z)]; exact h1, h2⟩
  · obtain ⟨ps, h1, h2, h3⟩ := h q hq
    refine ⟨ps, by rw [upd_ne (ne h1 fun z => z)]; exact h1, h2, fun pos cv hc => ?_⟩
    obtain ⟨c, e1, e2⟩ := h3 pos cv hc
    exact ⟨c, e1, by rw [upd_ne (ne e2 fun z => z)]; exact e2⟩
theorem XM.then_upd {p : Addr} {o o' : HO} (a : XM T S H H1) (hp : H1 p = some o) (hS : S p) (m : MutO o) : XM T S H (L2.upd H1 p o') := a.trans (XM.upd hp hS m)
theorem XM.then_new {p : Addr} {o : HO} (a : XM T S H H1) (h : H1 p = none) : XM T S H (L2.upd H1 p o) := a.trans (XX.new h).xm
/-- a new thing may be changed: it was not known -/
theorem XM.drop {S0 : Addr → Prop} (a : XM T S H H1) (h : ∀ b, S b → ¬ S0 b → H b = none) : XM T S0 H H1 :=
  ⟨fun b o e n t => a.keep b o e (fun z => by have := h b z n; rw [e] at this; cases this) t, a.there, a.tup, a.frz, a.tabG, a.tabs⟩
theorem XM.xx (a : XM T (fun _ => False) H H1) (ht : ∀ b ps, H b = some (.tbl ps) → ∃ ps', H1 b = some (.tbl ps')) : XX T H H1 := ⟨fun b o e t => a.keep b o e id t, ht, a.tabG, a.tabs⟩
theorem XM.free (a : XM T S H H1) {p : Addr} (h : H1 p = none) : H p = none := by
  cases q : H p with
  | none => rfl
  | some o =>
    obtain ⟨o', q'⟩ := a.there p o q
    rw [h] at q'; cases q'
theorem XM.sqT (a : XM T S H H1) {p : Addr} {xs : List V} (h : SqT K H p xs) : SqT K H1 p xs := by
  rcases h with (h | ⟨o, h⟩) | h
  · exact .inl (.inl (a.tup _ _ h))
  · exact .inl (.inr ⟨o, a.frz _ _ _ h⟩)
  · exact .inr h
theorem XM.lst (a : XM T S H H1) {p : Addr} {xs : List V} (h : H p = some (.lst xs)) (n : ¬ S p) : H1 p = some (.lst xs) := a.keep _ _ h n fun ps z => by cases z
theorem XM.ins (a : XM T S H H1) {p C dx : Addr} {fs : List (Str × V)} (h : H p = some (.ins C dx fs)) (n : ¬ S p) : H1 p = some (.ins C dx fs) := a.keep _ _ h n fun ps z => by cases z
theorem XM.dk (a : XM T S H H1) {p : Addr} {kvs : List (Key × V)} (h : H p = some (.dK kvs)) (n : ¬ S p) : H1 p = some (.dK kvs) := a.keep _ _ h n fun ps z => by cases z
/-! data without lists -/
mutual
def flatD : PyData → Bool
  | .none => true
  | .bool _ => true
  | .int _ => true
  | .str _ => true
  | .tuple ds => flatAll ds
  | .list _ => false
  | .dict _ => false
def flatAll : List PyData → Bool
  | [] => true
  | d :: ds => flatD d && flatAll ds
end
mutual
theorem Dp.xm (a : XM T S H H1) : ∀ (d : PyData) (v : V), flatD d = true → Dp K H v d → Dp K H1 v d
  | .none, _, _, h => by cases h; exact .non
  | .bool _, _, _, h => by cases h; exact .bl _
  | .int _, _, _, h => by cases h; exact .int _
  | .str _, _, _, h => by cases h; exact .str _
  | .list ds, _, f, h => by cases f
  | .tuple ds, _, f, h => by
    cases h with
    | tup hs ha =>
      exact .tup (a.sqT hs) (Dp.xmAll a ds _ f ha)
  | .dict _, _, _, h => by cases h
theorem Dp.xmAll (a : XM T S H H1) : ∀ (ds : List PyData) (vs : List V), flatAll ds = true → DpAll K H vs ds → DpAll K H1 vs ds
  | [], _, _, h => by cases h; exact .nil
  | d :: ds, _, f, h => by
    cases h with
    | cons h1 h2 =>
      have f' := Bool.and_eq_true_iff.mp f
      exact .cons (Dp.xm a d _ f'.1 h1) (Dp.xmAll a ds _ f'.2 h2)
end
end
/-! ### the error classes -/
abbrev veMro : List Value := [.type "ValueError", .type "Exception", .type "BaseException", .type "object"]
structure ErrC (K : PySem.W.Frag) (mg : Str → Option Value) (x : Str) (C : Addr) : Prop where
  g : mg x = some (.ref C)
  x : PySem.W.excIn K C veMro "ValueError.__new__" = true
  k : PySem.W.keepIn K (.ref C) = true
  s : PySem.W.subIn K (.ref C) (.type "BaseException") = some true
  t : PySem.W.typeIn K (.ref C) = some (.type "type")
section
variable {X : Cx}
theorem pmk_err {x m : Str} {j : Nat} {p p2 pos : Pos} {C : Addr} (e : ErrC X.K X.mg x C) (hg : Gl X x := by rfl) (hdb : (x == ("__debug__" : Str)) = false := by decide) : PMk X (.Call (.Name x p) [.Constant (.str m) j p2] [] pos) (fun _ H Q => Q (.ref C) none H) :=
  pmk_own PySem.F.excBase_ValueError e.x e.g e.k (raises_own e.s e.t) hg hdb
end
/-! ### a method that is called -/
structure Met1 (P : Program) (w : World) (K : PySem.W.Frag) (mg : Str → Option Value) (base : Heap) (CX : CXT) (C : Addr) (m : Str) (ps : List Str) (k : Nat) (sp : Sp) (f : Addr) (fd : FuncData) : Prop where
  F : FnOk P w K mg base CX k f fd ps sp
  m : Meth K C m f
  b : Binds K fd ps []
def Met (P : Program) (w : World) (K : PySem.W.Frag) (mg : Str → Option Value) (base : Heap) (CX : CXT) (C : Addr) (m : Str) (ps : List Str) (k : Nat) (sp : Sp) : Prop := ∃ f fd, Met1 P w K mg base CX C m ps k sp f fd
section
variable {X : Cx} {C : Addr} {m : Str} {ps : List Str} {k : Nat} {sp : Sp} {o e : Expr} {es : List Expr} {ta : TE} {t : TA} {apos pos : Pos} {E : XK} {CX : CXT}
theorem pe_met {pl : Sem Bool} (M : Met X.prog X.w X.K X.mg X.base CX C m ps k sp) (c : Cls X.K C) (hr : Room k X.A) (hx : Passes CX X E) (he : PE X o ta) (ha : PA X (e :: es) t)
    (hst : starEach (e :: es) X.env = (false, eval e X.env) :: starEach es X.env := by rfl) (hpl : (backTo pos (starEach es X.env)).any (·.1) = false := by rfl)
    (ht : eval (.Call (.Attribute o m apos) (e :: es) [] pos) X.env = (do
      let ov ← eval o X.env
      standAt apos.atName
      let (f, first) ← holding [ov] (getMethod ov m pl)
      callWith pos f first (backTo pos (starEach (e :: es) X.env)) (backToKw pos (keywordEach [] X.env))) := by rfl) : PE X (.Call (.Attribute o m apos) (e :: es) [] pos) (tMeth C m sp [] E ta t) := by
  obtain ⟨f, fd, M⟩ := M
  exact pe_meth he c M.m M.F hr M.b .nil hx ha hst hpl ht
end
section
variable {X : Cx} {C : Addr} {m : Str} {ps : List Str} {k : Nat} {sp : Sp} {o : Expr} {ta : TE} {apos pos : Pos} {E : XK} {CX : CXT}
theorem pe_met0 {pl : Sem Bool} (M : Met X.prog X.w X.K X.mg X.base CX C m ps k sp) (c : Cls X.K C) (hr : Room k X.A) (hx : Passes CX X E) (he : PE X o ta)
    (ht : eval (.Call (.Attribute o m apos) [] [] pos) X.env = (do
      let ov ← eval o X.env
      standAt apos.atName
      let (f, first) ← holding [ov] (getMethod ov m pl)
      callWith pos f first (backTo pos (starEach [] X.env)) (backToKw pos (keywordEach [] X.env))) := by rfl) : PE X (.Call (.Attribute o m apos) [] [] pos) (tMeth C m sp [] E ta tNil) := by
  obtain ⟨f, fd, M⟩ := M
  exact pe_meth0 he c M.m M.F hr M.b .nil hx ht
end
theorem passX {X : Cx} {P : Program} {w : World} {E : XK} (hP : P = X.prog := by rfl) (hw : w = X.w := by rfl) (tk : Takes X (fun cls d _ H => E cls d H)) : Passes (L2.CX P w) X E := by
  subst hP
  subst hw
  exact passes_call tk fun _ _ _ _ h => h
end GX
namespace GX
open PySem PySem.Spec PyProof.Rows L2 LamX
def lv : Option Int → V
  | none => .non
  | some k => .int k
def dF (l : Addr) (n : Int) (lf : Option Int) (st : Bool) : List (Str × V) := [("_sheets", .ref l), ("_done", .int n), ("_left", lv lf), ("_stands", .bl st)]
structure DiskAt (K : PySem.W.Frag) (C : Addr) (H : Hp) (p dx l : Addr) (pages : List PyData) (done : Int) (left : Option Int) (stands : Bool) : Prop where
  ins : H p = some (.ins C dx (dF l done left stands))
  lst : ∃ xs, H l = some (.lst xs) ∧ DpAll K H xs pages
  flat : ∀ d ∈ pages, flatD d = true
/-- the classes that the disk's module speaks of -/
structure DTx (K : PySem.W.Frag) (mg : Str → Option Value) (C cD cN cP cC cS : Addr) : Prop where
  cl : Cls K C
  n1 : NoAttr K C "_sheets"
  n2 : NoAttr K C "_done"
  n3 : NoAttr K C "_left"
  n4 : NoAttr K C "_stands"
  eD : ErrC K mg "BadDisk" cD
  eN : ErrC K mg "NoPage" cN
  eP : ErrC K mg "BadPage" cP
  eC : ErrC K mg "BadCount" cC
  eS : ErrC K mg "Stopped" cS
  least : ∃ t, mg "LEAST_PAGES" = some (.int 2 t)
  most : ∃ t, mg "MOST_PAGES" = some (.int 12 t)
  count : ∃ t, mg "GREATEST_COUNT" = some (.int 1000000 t)
section
variable {K : PySem.W.Frag} {T : List (Addr × Str)} {C : Addr} {H H' : Hp} {p dx l : Addr} {pages : List PyData} {done : Int} {left : Option Int} {stands : Bool}
theorem DiskAt.ne (d : DiskAt K C H p dx l pages done left stands) : p ≠ l := by
  obtain ⟨xs, h, _⟩ := d.lst
  exact ne_of d.ins h fun z => by cases z
theorem dpAll_xm {S : Addr → Prop} {H1 : Hp} (a : XM T S H H1) : ∀ {ds : List PyData} {vs : List V}, (∀ d ∈ ds, flatD d = true) → DpAll K H vs ds → DpAll K H1 vs ds
  | [], _, _, h => by obtain rfl := dpAll0 h; exact .nil
  | d :: ds, _, f, h => by
    obtain ⟨v, r, rfl, h1, h2⟩ := dpAllC h
    exact .cons (Dp.xm a d v (f d List.mem_cons_self) h1) (dpAll_xm a (fun e he => f e (List.mem_cons_of_mem _ he)) h2)
theorem DiskAt.xm {S : Addr → Prop} (d : DiskAt K C H p dx l pages done left stands) (a : XM T S H H') (h1 : ¬ S p) (h2 : ¬ S l) : DiskAt K C H' p dx l pages done left stands := by
  obtain ⟨xs, h, hd⟩ := d.lst
  exact ⟨a.ins d.ins h1, ⟨xs, a.lst h h2, dpAll_xm a d.flat hd⟩, d.flat⟩
theorem DiskAt.xx (d : DiskAt K C H p dx l pages done left stands) (a : XX T H H') : DiskAt K C H' p dx l pages done left stands := d.xm (S := fun _ => False) a.xm id id
/-- its fields are stored -/
theorem DiskAt.fld (d : DiskAt K C H p dx l pages done left stands) (done' : Int) (left' : Option Int) (stands' : Bool) : DiskAt K C (upd H p (.ins C dx (dF l done' left' stands'))) p dx l pages done' left' stands' := by
  obtain ⟨xs, h, hd⟩ := d.lst
  exact ⟨upd_same, ⟨xs, by rw [upd_ne (Ne.symm d.ne)]; exact h, dpAll_xm (T := []) (XM.upd (S := fun b => b = p) d.ins rfl True.intro) d.flat hd⟩, d.flat⟩
theorem dpAll_set {v : V} {d : PyData} (hv : Dp K H v d) : ∀ (i : Nat) {xs : List V} {ds : List PyData}, DpAll K H xs ds → DpAll K H (xs.set i v) (ds.set i d)
  | _, _, [], h => by obtain rfl := dpAll0 h; exact .nil
  | 0, _, d0 :: ds, h => by
    obtain ⟨v0, r, rfl, h1, h2⟩ := dpAllC h
    exact .cons hv h2
  | i + 1, _, d0 :: ds, h => by
    obtain ⟨v0, r, rfl, h1, h2⟩ := dpAllC h
    exact .cons h1 (dpAll_set hv i h2)
theorem mem_set {α : Type} {l : List α} {i : Nat} {a b : α} (h : b ∈ l.set i a) : b = a ∨ b ∈ l := by
  rcases List.mem_or_eq_of_mem_set h with z | z
  · exact .inr z
  · exact .inl z
theorem dpAll_app {xs ys : List V} {ds es : List PyData} : DpAll K H xs ds → DpAll K H ys es → DpAll K H (xs ++ ys) (ds ++ es) := by
  intro h1 h2
  induction ds generalizing xs with
  | nil => obtain rfl := dpAll0 h1; exact h2
  | cons d ds ih =>
    obtain ⟨v, r, rfl, q1, q2⟩ := dpAllC h1
    exact .cons q1 (ih q2)
end
theorem flat_fresh : flatD freshD = true := by decide +kernel
theorem shaped_fresh : SeqAt.shaped freshD = true := by decide +kernel
theorem page_fresh : isPage freshD = true := by decide +kernel
/-! ### promises -/
def spDInit (K : PySem.W.Frag) (T : List (Addr × Str)) (C cD : Addr) : Sp := fun vs H Q E => ∃ p dx v d, vs = [.ref p, v] ∧ H p = some (.ins C dx []) ∧ Dp K H v d ∧ (isNum d 2 12 = false → E (.ref cD) none H) ∧
  ∀ n : Int, d = .int n → 2 ≤ n → n ≤ 12 → ∀ H' l, XM T (fun b => b = p) H H' → H l = none → DiskAt K C H' p dx l (List.replicate n.toNat freshD) 0 none false → Q .non H'
def spDPages (K : PySem.W.Frag) (C : Addr) : Sp := fun vs H Q _ => ∃ p dx l pages done left stands, vs = [.ref p] ∧ DiskAt K C H p dx l pages done left stands ∧ Q (.int pages.length) H
def spDWrites (K : PySem.W.Frag) (C : Addr) : Sp := fun vs H Q _ => ∃ p dx l pages done left stands, vs = [.ref p] ∧ DiskAt K C H p dx l pages done left stands ∧ Q (.int done) H
def spDCheck (K : PySem.W.Frag) (C cN cS : Addr) : Sp := fun vs H Q E => ∃ p dx l pages done left stands v d, vs = [.ref p, v] ∧ DiskAt K C H p dx l pages done left stands ∧ Dp K H v d ∧
  (stands = true → E (.ref cS) none H) ∧ (stands = false → isNum d 0 ((pages.length : Int) - 1) = false → E (.ref cN) none H) ∧ (stands = false → isNum d 0 ((pages.length : Int) - 1) = true → Q .non H)
def spDCount (K : PySem.W.Frag) (T : List (Addr × Str)) (C cS : Addr) : Sp := fun vs H Q E => ∃ p dx l pages done left stands, vs = [.ref p] ∧ DiskAt K C H p dx l pages done left stands ∧
  (left = none → Q .non H) ∧ (left = some 0 → ∀ H', XM T (fun b => b = p) H H' → DiskAt K C H' p dx l pages done left true → E (.ref cS) none H') ∧
  (∀ k, left = some k → k ≠ 0 → ∀ H', XM T (fun b => b = p) H H' → DiskAt K C H' p dx l pages done (some (k - 1)) stands → Q .non H')
def spDPage (K : PySem.W.Frag) (C cN cS : Addr) : Sp := fun vs H Q E => ∃ p dx l pages done left stands v d, vs = [.ref p, v] ∧ DiskAt K C H p dx l pages done left stands ∧ Dp K H v d ∧
  (stands = true → E (.ref cS) none H) ∧ (stands = false → isNum d 0 ((pages.length : Int) - 1) = false → E (.ref cN) none H) ∧
  (∀ (i : Nat) (e : PyData) (u : V), stands = false → d = .int i → pages[i]? = some e → Dp K H u e → Q u H)
def spDWrite (K : PySem.W.Frag) (T : List (Addr × Str)) (P1 P2 C cN cP cS : Addr) : Sp := fun vs H Q E => ∃ p dx l pages done left stands v d u e, vs = [.ref p, v, u] ∧ DiskAt K C H p dx l pages done left stands ∧ Dp K H v d ∧ Dp K H u e ∧ flatD e = true ∧ SeqAt.shaped e = true ∧
  GxR.TabG H P1 ∧ GxR.TabG H P2 ∧ (stands = true → E (.ref cS) none H) ∧ (stands = false → isNum d 0 ((pages.length : Int) - 1) = false → E (.ref cN) none H) ∧
  (stands = false → isNum d 0 ((pages.length : Int) - 1) = true → isPage e = false → ∀ H', XX T H H' → E (.ref cP) none H') ∧
  (stands = false → isNum d 0 ((pages.length : Int) - 1) = true → isPage e = true → left = some 0 → ∀ H', XM T (fun b => b = p) H H' → DiskAt K C H' p dx l pages done left true → E (.ref cS) none H') ∧
  (∀ (i : Nat), stands = false → d = .int i → i < pages.length → isPage e = true → left ≠ some 0 → ∀ H', XM T (fun b => b = p ∨ b = l) H H' → DiskAt K C H' p dx l (pages.set i e) (done + 1) (left.map (· - 1)) false → Q .non H')
def spDArm (K : PySem.W.Frag) (T : List (Addr × Str)) (C cC : Addr) : Sp := fun vs H Q E => ∃ p dx l pages done left stands v d, vs = [.ref p, v] ∧ DiskAt K C H p dx l pages done left stands ∧ Dp K H v d ∧ (isNum d 0 1000000 = false → E (.ref cC) none H) ∧
  (∀ n, d = .int n → isNum d 0 1000000 = true → ∀ H', XM T (fun b => b = p) H H' → DiskAt K C H' p dx l pages done (some n) stands → Q .non H')
def spDAgain (K : PySem.W.Frag) (T : List (Addr × Str)) (C : Addr) : Sp := fun vs H Q _ => ∃ p dx l pages done left stands, vs = [.ref p] ∧ DiskAt K C H p dx l pages done left stands ∧
  ∀ H', XM T (fun b => b = p) H H' → DiskAt K C H' p dx l pages done none false → Q .non H'
end GX
namespace GX
open PySem PySem.Spec PyProof.Rows L2 LamX
theorem box_div {i j : Int} (h0 : 0 < j) (h1 : j ≤ 1000000000000000000) : CDivW i j := by
  have e60 : (2 : Nat) ^ 60 = 1152921504606846976 := by decide
  exact wide_div (b := 60) h0 (by rw [e60]; omega) (by decide) (by decide)
/-- the box of the script's numbers -/
structure BoxAt (H : Hp) (b l : Addr) (ns : List Int) (z : Int) : Prop where
  hb : H b = some (.lst [.ref l, .int z])
  hl : H l = some (.lst (ns.map V.int))
  ne : b ≠ l
  lo : 0 ≤ z
  hi : z < 2147483647
  len : ns.length ≤ 63
def spBegun (K : PySem.W.Frag) (T : List (Addr × Str)) : Sp := fun vs H Q _ => ∃ a ns, vs = [.ref a] ∧ SqL K H a (ns.map V.int) ∧ ns.length ≤ 63 ∧ ∀ H' b l z, XX T H H' → BoxAt H' b l ns z → H b = none → H l = none → Q (.ref b) H'
def spTake (T : List (Addr × Str)) : Sp := fun vs H Q _ => ∃ b l ns z m, vs = [.ref b, .int m] ∧ BoxAt H b l ns z ∧ 0 < m ∧ m ≤ 1000000000000000000 ∧
  ∀ H' ns' z' r, XM T (fun c => c = b ∨ c = l) H H' → BoxAt H' b l ns' z' → 0 ≤ r → r < m → Q (.int r) H'
section
variable {K : PySem.W.Frag} {T : List (Addr × Str)} {H H' : Hp} {b l : Addr} {ns : List Int} {z : Int}
theorem BoxAt.xx (h : BoxAt H b l ns z) (a : XX T H H') : BoxAt H' b l ns z := ⟨a.lst h.hb, a.lst h.hl, h.ne, h.lo, h.hi, h.len⟩
theorem BoxAt.xm {S : Addr → Prop} (h : BoxAt H b l ns z) (a : XM T S H H') (h1 : ¬ S b) (h2 : ¬ S l) : BoxAt H' b l ns z := ⟨a.lst h.hb h1, a.lst h.hl h2, h.ne, h.lo, h.hi, h.len⟩
theorem dp_ints (H : Hp) : ∀ ns : List Int, DpAll K H (ns.map V.int) (ns.map PyData.int)
  | [] => .nil
  | n :: ns => .cons (.int n) (dp_ints H ns)
theorem canLay_ints : ∀ ns : List Int, PyData.canLayAll0 (ns.map PyData.int) = true
  | [] => rfl
  | n :: ns => by
    show (PyData.canLay0 (.int n) && PyData.canLayAll0 (ns.map PyData.int)) = true
    rw [canLay_ints ns]; rfl
theorem depth_ints : ∀ ns : List Int, PyData.depthAll (ns.map PyData.int) = 0
  | [] => rfl
  | n :: ns => by
    show max (PyData.depth (.int n)) (PyData.depthAll (ns.map PyData.int)) = 0
    rw [depth_ints ns]; rfl
theorem shaped_ints (ns : List Int) : SeqAt.shaped (.list (ns.map PyData.int)) = true := by
  unfold SeqAt.shaped
  have h1 : PyData.canLay0 (.list (ns.map PyData.int)) = true := by
    show PyData.canLayAll0 (ns.map PyData.int) = true
    exact canLay_ints ns
  have h2 : PyData.depth (.list (ns.map PyData.int)) = 1 := by
    show PyData.depthAll (ns.map PyData.int) + 1 = 1
    rw [depth_ints]
  rw [h1, h2]
  rfl
theorem eqv_nil (ns : List Int) : PyData.eqv (.list (ns.map PyData.int)) (.list []) = ns.isEmpty := by
  cases ns with
  | nil => rfl
  | cons n r => rfl
theorem shaped_nil : SeqAt.shaped (.list []) = true := by decide +kernel
end
end GX
namespace GX
open PySem PySem.Spec PyProof.Rows L2 LamX
/-! ### a call of a slot's thing inside a try -/
section
variable {X : Cx}
def tActS (P : Program) (w : World) (K : PySem.W.Frag) (mg : Str → Option Value) (base : Heap) (k i : Nat) (E : L2.St → XK) : TE := fun σ H Q => tAct P w K mg base k i (E σ) σ H Q
theorem pe_act0S {k i : Nat} {a : Str} {E : L2.St → XK} {p1 p2 : Pos} (hr : Room k X.A) (hx : ∀ σ, PassesAt (L2.CX X.prog X.w) X σ (E σ)) (hN : X.N[i]? = some a) (hv : Vis X.env.scope a) (hd : (a == ("__debug__" : Str)) = false := by decide) (hcd : (a == ("__classdict__" : Str)) = false := by decide) :
    PE X (.Call (.Name a p1) [] [] p2) (tActS X.prog X.w X.K X.mg X.base k i E) := by
  refine ⟨fun pins s σ H Q I h => ?_⟩
  obtain ⟨f, ph, sp, hs, ho, hc, hp, ht⟩ := h
  refine wpAny_Call_Name_kw (thn ((pe_var (pos := p1) (i := i) hN hv hd hcd).run pins s σ H (fun v H1 => v = .ref f ∧ H1 = H) I ⟨.ref f, hs, rfl, rfl⟩) fun u s1 hh => ?_)
  obtain ⟨v, H1, I1, r1, ev, eH⟩ := hh
  subst ev
  subst eH
  obtain rfl : u = Value.ref f := r1
  refine PySem.W.callWith_F0 (ho.at I1) ?_
  refine wpAny_call (codeAny_mono (hc X.A X.stack s1 H1 Q (E σ) hr I1.env0 hp ht) fun r s' hq => ?_)
  cases r with
  | error e => exact hx σ pins H1 s1 e s' I1 hq
  | ok fl =>
    cases fl with
    | ret u => exact I1.after hq
    | next => exact False.elim hq
    | brk => exact False.elim hq
    | cont => exact False.elim hq
/-! ### list.count of flat values -/
def rCntF (K : PySem.W.Frag) : V → List V → Hp → VK → Prop := fun x xs H Q => ∃ (p : Addr) (ys : List V) (y : V), x = .ref p ∧ xs = [y] ∧ SqL K H p ys ∧ flatV y = true ∧ ys.all flatV = true ∧ Q (.int ((ys.countP fun z => eqV z y : Nat) : Int)) H
theorem eqU_count {y : V} : ∀ {ys : List V} {us : List Value}, Vals ys us → ys.all flatV = true → us.countP (eqU y) = ys.countP fun z => eqV z y
  | _, _, .nil, _ => rfl
  | _, _, .cons r t, f => by
    rw [List.all_cons, Bool.and_eq_true] at f
    rw [List.countP_cons, List.countP_cons, eqU_count t f.2, eqU_of r f.1]
theorem mt_fcount : MtR X "list.count" (rCntF X.K) := by
  intro pins s σ H x xs v us Q I rx rxs h
  obtain ⟨p, ys, y, rfl, rfl, hs, fy, fys, q⟩ := h
  cases rx
  cases rxs with
  | cons ry rt =>
    rename_i uy ut
    cases rt
    obtain ⟨its, rv, ⟨⟨cls, dd, data, sl⟩, n, ho, hc, hdn, hd⟩, hlen⟩ := I.list hs
    simp only at hc hd
    subst hc hd
    refine call_meets PySem.F.slot_list_count ⟨_, ho, rfl⟩ PySem.F.entry_list_count (PySem.F.args_list_count_2 _ _)
      (SeqAt.list_countAt p its.toArray n dd sl uy (eqU y)) ⟨ho, fun u' hu' => mem_eqAt ry fy rv fys u' (by simpa using hu'), ?_⟩
    have ec : its.toArray.toList.countP (eqU y) = ys.countP fun z => eqV z y := eqU_count rv fys
    refine ⟨.int ((ys.countP fun z => eqV z y : Nat) : Int), H, I.tok _, ⟨s.toks, ?_⟩, q⟩
    show Value.int ((its.toArray.toList.countP (eqU y) : Nat) : Int) s.toks = _
    rw [ec]
end
theorem pss_ex {X : Cx} {α : Type} {b : List Stmt} {Pr : α → Prop} {t : α → TS} (h : ∀ y, Pr y → PSs X b (t y)) : PSs X b (fun D σ H => ∃ y, Pr y ∧ t y D σ H) := ⟨fun pins s σ H D I ht => by
  obtain ⟨y, hy, ht⟩ := ht
  exact (h y hy).run pins s σ H D I ht⟩
/-! ### the words of refusals -/
def wordsE : List Str := ["BadCount", "BadDisk", "BadPage", "BadRow", "BadText", "Full", "NoPage", "NoRow", "Stopped"]
/-- the nine classes' places -/
structure ETab (mg : Str → Option Value) (cE : Addr) (cs : Fin 9 → Addr) : Prop where
  gE : mg "PageError" = some (.ref cE)
  g0 : mg "BadCount" = some (.ref (cs 0))
  g1 : mg "BadDisk" = some (.ref (cs 1))
  g2 : mg "BadPage" = some (.ref (cs 2))
  g3 : mg "BadRow" = some (.ref (cs 3))
  g4 : mg "BadText" = some (.ref (cs 4))
  g5 : mg "Full" = some (.ref (cs 5))
  g6 : mg "NoPage" = some (.ref (cs 6))
  g7 : mg "NoRow" = some (.ref (cs 7))
  g8 : mg "Stopped" = some (.ref (cs 8))
/-- an error of the i-th class -/
structure EIs (K : PySem.W.Frag) (cE : Addr) (cs : Fin 9 → Addr) (i : Fin 9) (D : Addr) : Prop where
  ex : ExcC K D
  top : PySem.W.exmOne K (.ref D) (.ref cE) = some true
  is_ : ∀ j : Fin 9, PySem.W.kitOne K (.ref D) (.ref (cs j)) = some (decide (j = i))
  ve : PySem.W.kitOne K (.ref D) (.type "ValueError") = some true
def toldD (i : Fin 9) : PyData := .tuple [.str (wordsE.getD i.1 ""), .int 0]
/-- _law_told: what the callee tells, or its refusal's word -/
def spTold (P : Program) (w : World) (K : PySem.W.Frag) (mg : Str → Option Value) (base : Heap) (T : List (Addr × Str)) (cE : Addr) (cs : Fin 9 → Addr) (k : Nat) : Sp := fun vs H Q _ => ∃ f ph sp, vs = [.ref f] ∧ FnObj H f ∧ CallOk P w K mg base k f ph sp ∧ ph H ∧
  ∀ E : XK, (∀ H1 i D, i.1 ≠ 4 → EIs K cE cs i D → (∀ H' v, XX T H1 H' → Dp K H' v (toldD i) → Q v H') → E (.ref D) none H1) → sp H Q E
end GX
namespace GX
open PySem PySem.Spec PyProof.Rows L2 LamX
mutual
def okD : PyData → Bool
  | .none => true
  | .bool _ => true
  | .int _ => true
  | .str _ => true
  | .tuple ds => decide (ds.length ≤ 20000) && okAll ds
  | .list ds => decide (ds.length ≤ 20000) && okAll ds
  | .dict _ => false
def okAll : List PyData → Bool
  | [] => true
  | d :: ds => okD d && okAll ds
end
/-- two values that are the same data, of depth below n -/
def spAl (K : PySem.W.Frag) : Nat → Sp
  | 0 => fun _ _ _ _ => False
  | n + 1 => fun vs H Q _ => ∃ a b d, vs = [a, b] ∧ Dp K H a d ∧ Dp K H b d ∧ okD d = true ∧ PyData.depth d ≤ n ∧ Q (.bl true) H
/-- each of the works is refused, by the i-th word -/
def spAll (P : Program) (w : World) (K : PySem.W.Frag) (mg : Str → Option Value) (base : Heap) (T : List (Addr × Str)) (cE : Addr) (cs : Fin 9 → Addr) (k : Nat) : Sp := fun vs H Q _ => ∃ (a : Addr) (fs : List Addr) (v : V) (i : Fin 9), vs = [.ref a, v] ∧ SqL K H a (fs.map V.ref) ∧ Dp K H v (toldD i) ∧ i.1 ≠ 4 ∧
  (∀ f ∈ fs, ∀ H1, XX T H H1 → ∃ ph sp, FnObj H1 f ∧ CallOk P w K mg base k f ph sp ∧ ph H1 ∧ ∀ (Q : VK) (E : XK), (∀ H2 D, XX T H1 H2 → EIs K cE cs i D → E (.ref D) none H2) → sp H1 Q E) ∧ ∀ H', XX T H H' → Q (.bl true) H'
theorem depth_told (i : Fin 9) : PyData.depth (toldD i) ≤ 1 := by decide +revert +kernel
theorem ok_toldD (i : Fin 9) : okD (toldD i) = true := by decide +revert +kernel
end GX
set_option maxHeartbeats 4000000
/-! a list comprehension whose items are data without lists; words that are numbers -/
namespace GX
open PySem PySem.Spec PyProof.Rows L2 LamX
section
variable {T : List (Addr × Str)} {H H1 H' : Hp} {K : PySem.W.Frag}
/-- a new list that is filled, beside it all stands -/
theorem XX.fillD (x : XX T H H') {D : Addr} {o : HO} {xs : List V} (hD : H D = none) (e : H' D = some (.lst xs)) : XX T H (upd H' D o) := by
  have x2 := (x.xm (S := fun c => c = D)).trans (XM.upd (o' := o) e rfl True.intro)
  refine (x2.drop (S0 := fun _ => False) fun b h _ => by rw [h]; exact hD).xx fun b ps h => ?_
  obtain ⟨ps', q⟩ := x.tbl b ps h
  have nb : b ≠ D := fun z => by rw [z, hD] at h; cases h
  exact ⟨ps', by rw [upd_ne nb]; exact q⟩
theorem dpAll_snoc : ∀ {vs : List V} {ds : List PyData} {v : V} {d : PyData}, DpAll K H vs ds → Dp K H v d → DpAll K H (vs ++ [v]) (ds ++ [d])
  | _, [], _, _, h, h2 => by cases h; exact .cons h2 .nil
  | _, d0 :: ds, _, _, h, h2 => by
    cases h with
    | cons h1 hr => exact .cons h1 (dpAll_snoc hr h2)
theorem wipe1 {σ : L2.St} {i : Nat} {v : Option V} : wipe ((wipe σ [i]).set i v) [i] = wipe σ [i] := by
  show ((σ.set i none).set i v).set i none = σ.set i none
  rw [List.set_set, List.set_set]
/-- [te for i in a list] of data without lists -/
theorem lc_dp {a D : Addr} {xs : List V} {i : Nat} {te : TE} {σ : L2.St} {Qd : Hp → Prop} (gd : Nat → PyData) (hD : H1 D = none) (hs : SqL K H1 a xs) (hz : xs.length < sizeLine) (fl : ∀ j, j < xs.length → flatD (gd j) = true)
    (step : ∀ j x H' (Qe : VK), xs[j]? = some x → XX T H1 H' → (∀ H'' v, XX T H' H'' → Dp K H'' v (gd j) → Qe v H'') → te ((wipe σ [i]).set i (some x)) H' Qe)
    (fin : ∀ H' acc, XX T H1 H' → H' D = some (.lst acc) → DpAll K H' acc ((List.range xs.length).map gd) → Qd H') :
    ∃ W : Nat → Nat → Hp → Prop, (∃ m, W 0 m (upd H1 D (.lst []))) ∧ ∀ j m H, W j m H →
      ((Itl K a).stop j H ∧ Qd H) ∨ ((Itl K a).go j H ∧ ∃ Nx : Hp → Prop, (∀ H', Nx H' → ∃ m', m' < m ∧ W (j + 1) m' H') ∧ ∀ x H', (Itl K a).yld j H x H' → gName i x (wipe σ [i]) H' fun σ2 H2 => wipe σ2 [i] = wipe σ [i] ∧ tYes σ2 H2 fun b H3 =>
        if b = true then te σ2 H3 fun y H4 => ∃ acc, H4 D = some (.lst acc) ∧ acc.length < sizeLine ∧ Nx (upd H4 D (.lst (acc ++ [y]))) else Nx H3) := by
  refine lc_list (xs := xs) (fun j H' => XX T H1 H' ∧ ∃ acc, H' D = some (.lst acc) ∧ acc.length = j ∧ DpAll K H' acc ((List.range j).map gd)) ⟨XX.new hD, [], upd_same, rfl, .nil⟩ (fun j H' _ pv => pv.1.sqL hs) (fun j x H' ex pv => ⟨wipe1, ?_⟩) (fun H' pv => ?_)
  · obtain ⟨x1, acc, e1, el, da⟩ := pv
    have hj := (List.getElem?_eq_some_iff.mp ex).1
    refine step j x H' _ ex x1 fun H'' v x2 dv => ⟨acc, x2.lst e1, by omega, (x1.trans x2).fillD hD (x2.lst e1), acc ++ [v], upd_same, by simp [el], ?_⟩
    have x3 : XM T (fun c => c = D) H'' (upd H'' D (.lst (acc ++ [v]))) := XM.upd (x2.lst e1) rfl True.intro
    have fa : ∀ d ∈ (List.range j).map gd, flatD d = true := fun d hd => by
      obtain ⟨m, hm, e⟩ := List.mem_map.mp hd
      rw [← e]
      exact fl m (Nat.lt_trans (List.mem_range.mp hm) hj)
    rw [List.range_succ, List.map_append]
    exact dpAll_snoc (dpAll_xm x3 fa (Dp.xxAll x2 _ _ da)) (Dp.xm x3 _ _ (fl j hj) dv)
  · obtain ⟨x1, acc, e1, _, da⟩ := pv
    exact fin H' acc x1 e1 da
end
/-! ### words that are numbers -/
def digW (w : Str) : Bool := (TL.tl w).all fun c => decide (48 ≤ c) && decide (c ≤ 57)
def okW (w : Str) : Bool := digW w && (decide (1 ≤ w.length) && decide (w.length ≤ 3))
def valW (w : Str) : Nat := NumText.digitsVal (TL.tl w)
/-- the number that a word tells -/
def numO (w : Str) : Option Nat := if okW w = true ∧ Str.ofString (toString ((valW w : Nat) : Int)) = w then some (valW w) else none
def numV : Option Nat → V
  | some n => .int (n : Int)
  | none => .non
def numD : Option Nat → PyData
  | some n => .int (n : Int)
  | none => .none
theorem num_dp {K : PySem.W.Frag} {H : Hp} (o : Option Nat) : Dp K H (numV o) (numD o) := by
  cases o with
  | none => exact .non
  | some n => exact .int _
theorem num_fl (o : Option Nat) : flatD (numD o) = true := by cases o <;> rfl
theorem digit128 : ∀ c, c < 128 → Unicode.isDigit c = (decide (48 ≤ c) && decide (c ≤ 57)) := by decide +kernel
theorem digW_all {w : Str} : (Txt.isascii w && Txt.isdigit w) = (digW w && decide (1 ≤ w.length)) := by
  unfold Txt.isascii Txt.isdigit digW
  have key : ∀ l : List Nat, (l.all (fun c => decide (c < 128)) && l.all Unicode.isDigit) = l.all fun c => decide (48 ≤ c) && decide (c ≤ 57) := by
    intro l
    rw [Bool.eq_iff_iff, Bool.and_eq_true, List.all_eq_true, List.all_eq_true, List.all_eq_true]
    constructor
    · rintro ⟨h1, h2⟩ c hc
      have q1 := of_decide_eq_true (h1 c hc)
      have q2 := h2 c hc
      rw [digit128 c q1] at q2
      exact q2
    · intro h
      refine ⟨fun c hc => ?_, fun c hc => ?_⟩
      · have q := h c hc
        rw [Bool.and_eq_true, decide_eq_true_eq, decide_eq_true_eq] at q
        exact decide_eq_true (by omega)
      · have q := h c hc
        have q' := q
        rw [Bool.and_eq_true, decide_eq_true_eq, decide_eq_true_eq] at q'
        rw [digit128 c (by omega)]
        exact q
  have e1 : w.cps.all (fun x => decide (x < 128)) = (TL.tl w).all fun c => decide (c < 128) := by rw [← Array.all_toList]
  have e2 : w.cps.all Unicode.isDigit = (TL.tl w).all Unicode.isDigit := by rw [← Array.all_toList]
  rw [e1, e2]
  rw [← key]
  cases (TL.tl w).all (fun c => decide (c < 128)) <;> cases (TL.tl w).all Unicode.isDigit <;> simp
  omega
theorem okW_int {w : Str} (h : okW w = true) : intText? w = some ((valW w : Nat) : Int) := by
  unfold okW at h
  obtain ⟨h1, h⟩ := Bool.and_eq_true_iff.mp h
  obtain ⟨h2, h3⟩ := Bool.and_eq_true_iff.mp h
  have h2 := of_decide_eq_true h2
  have h3 := of_decide_eq_true h3
  refine intText_digits (x := w) (fun c hc => ?_) (fun e => ?_) (by omega)
  · have z := List.all_eq_true.mp h1 c hc
    rw [Bool.and_eq_true, decide_eq_true_eq, decide_eq_true_eq] at z
    exact z
  · rw [TL.len_tl, TL.tl, e] at h2
    simp at h2
theorem digits_lt : ∀ l : List Nat, (∀ c ∈ l, c ≤ 57) → NumText.digitsVal l < 10 ^ l.length := by
  intro l h
  unfold NumText.digitsVal
  have key : ∀ (l : List Nat) (a k : Nat), (∀ c ∈ l, c ≤ 57) → a < 10 ^ k → l.foldl (fun acc c => acc * 10 + (c - 48)) a < 10 ^ (k + l.length) := by
    intro l
    induction l with
    | nil => intro a k _ ha; simpa using ha
    | cons c l ih =>
      intro a k hl ha
      rw [List.foldl_cons, List.length_cons, show k + (l.length + 1) = (k + 1) + l.length by omega]
      refine ih _ _ (fun d hd => hl d (List.mem_cons_of_mem _ hd)) ?_
      have := hl c List.mem_cons_self
      rw [Nat.pow_succ]
      omega
  have := key l 0 0 h (by decide)
  simpa using this
theorem valW_lt {w : Str} (h : okW w = true) : valW w < 1000 := by
  unfold okW at h
  obtain ⟨h1, h⟩ := Bool.and_eq_true_iff.mp h
  obtain ⟨h2, h3⟩ := Bool.and_eq_true_iff.mp h
  have h3 := of_decide_eq_true h3
  rw [TL.len_tl] at h3
  have q := digits_lt (TL.tl w) fun c hc => by
    have z := List.all_eq_true.mp h1 c hc
    rw [Bool.and_eq_true, decide_eq_true_eq, decide_eq_true_eq] at z
    exact z.2
  exact Nat.lt_of_lt_of_le q (Nat.pow_le_pow_right (by decide) h3)
end GX
set_option maxHeartbeats 2000000
/-! the program's statements, by their places -/
namespace GX
open PySem PySem.Spec PyProof.Rows L2
def top (i : Nat) : Stmt := PySem.Challenge.pw_slotpages_k18_texts_of_no_pages.main.body.getD i (.Pass ⟨0, 0, 0, 0⟩)
abbrev s_BtInit : Stmt := inClass (top 10) 0
abbrev s_is_number : Stmt := top 18
abbrev s_is_tuple : Stmt := top 19
abbrev s_is_next : Stmt := top 20
abbrev s_holds : Stmt := top 21
abbrev s_is_slot : Stmt := top 22
abbrev s_are_values : Stmt := top 23
abbrev s_are_cells : Stmt := top 24
abbrev s_rows_of : Stmt := top 28
abbrev s_number_of : Stmt := top 29
abbrev s_numbers_of : Stmt := top 30
abbrev s_read : Stmt := top 33
abbrev s_cells_of : Stmt := top 34
abbrev s_slot_of : Stmt := top 35
abbrev s_next_of : Stmt := top 36
abbrev s_begun : Stmt := top 38
abbrev s_take : Stmt := top 39
abbrev s_alike : Stmt := top 40
abbrev s_told : Stmt := top 41
abbrev s_all : Stmt := top 42
abbrev s_lpage : Stmt := top 43
abbrev s_lnumber : Stmt := top 44
abbrev s_lslot : Stmt := top 45
abbrev s_lread : Stmt := top 46
abbrev s_lspoilt : Stmt := top 47
abbrev s_law : Stmt := top 48
end GX
set_option maxHeartbeats 4000000
/-! slotpages.texts: number_of, numbers_of, rows_of -/
namespace GX
open PySem PySem.Spec PyProof.Rows L2 LamX
def spNumOf : Sp := fun vs H Q _ => ∃ w : Str, vs = [.str w] ∧ w.length ≤ sizeLine ∧ Q (numV (numO w)) H
def wordsV2 (ws : List Str) : List V := ws.map V.str
/-- numbers_of(words) -/
def spNumsOf (K : PySem.W.Frag) (T : List (Addr × Str)) : Sp := fun vs H Q _ => ∃ (a : Addr) (ws : List Str), vs = [.ref a] ∧ SqL K H a (ws.map V.str) ∧ ws.length < sizeLine ∧ (∀ w ∈ ws, w.length ≤ sizeLine) ∧ ∀ H' v, XX T H H' → Dp K H' v (.tuple (ws.map fun w => numD (numO w))) → Q v H'
def rowsW (t : Str) : List Str := if t.length = 0 then [] else Txt.split t "\n"
def spRows (K : PySem.W.Frag) (T : List (Addr × Str)) : Sp := fun vs H Q _ => ∃ t : Str, vs = [.str t] ∧ t.length + 2 ≤ sizeLine ∧ ∀ H' p, XX T H H' → H p = none → H' p = some (.lst ((rowsW t).map V.str)) → Q (.ref p) H'
section
variable {P : Program} {w : World} {K : PySem.W.Frag} {mg : Str → Option Value} {base : Heap} {T : List (Addr × Str)}
theorem sc_number_of : FnScope ["word", "number"] ["word"] (defScope s_number_of) := ⟨rfl, rfl, rfl, by decide +kernel, rfl, by decide +kernel, by decide +kernel⟩
theorem ok_number_of {f : Addr} {fd : FuncData} (F : L2.Fun K "number_of" "number_of" s_number_of f fd) (B : Blt mg) (bs : mg "str" = none) (mf : ∃ t, mg "MOST_FIGURES" = some (.int 3 t)) : FnOk P w K mg base CX0 1 f fd ["word"] spNumOf := by
  refine F.ok sc_number_of (fun vs H Q E h => by obtain ⟨x, rfl, _⟩ := h; rfl) (fun cdv A outer s H vs Q E hr h => ?_)
  obtain ⟨x, rfl, hx, k⟩ := h
  have nd := sc_number_of.nd
  refine ⟨_, pss_cons (ps_if (PW.pt (pw_or (pt_not (pt_val (pe_m0 PySem.F.slot_str_isascii PySem.F.type_str_isascii mt_isascii (pv 0)))) (pw_or (pt_not (pt_val (pe_m0 PySem.F.slot_str_isdigit PySem.F.type_str_isdigit mt_isdigit (pv 0)))) (pw_or1 (pt_cmpR op_gt (pe_callB call_len_str (by rfl) B.len PySem.boot_len (pa_cons (pv 0) pa_nil)) (pe_const mf) (nomark _)))))) (pss_one (ps_ret pe_non)) pss_nil)
    (pss_cons (ps_set (i := 1) nd rfl (Or.inl rfl) (pe_callTy call_int_str (by rfl) B.int (by decide +kernel) (pa_cons (pv 0) pa_nil)))
    (pss_one (ps_ret (pe_ifExp (pt_cmpR op_eq (pe_callTy call_str_int (by rfl) bs (by decide +kernel) (pa_cons (pv 1) pa_nil)) (pv 0) (nomark _)) (pv 1) pe_non)))), ?_⟩
  have hw := digW_all (w := x)
  refine ⟨_, rfl, ⟨x, rfl⟩, x, rfl, rfl, trivial, _, rfl, ?_⟩
  by_cases h1 : Txt.isascii x = true
  · rw [h1]
    refine iteF ⟨_, rfl, ⟨x, rfl⟩, x, rfl, rfl, trivial, _, rfl, ?_⟩
    by_cases h2 : Txt.isdigit x = true
    · rw [h2]
      rw [h1, h2] at hw
      obtain ⟨w1, w2⟩ := Bool.and_eq_true_iff.mp hw.symm
      refine iteF ⟨_, rfl, x, rfl, hx, _, _, rfl, rfl, _, rfl, ?_⟩
      by_cases h3 : x.length ≤ 3
      · rw [decide_eq_false (by omega)]
        have ok : okW x = true := by unfold okW; rw [w1, w2, decide_eq_true h3] <;> rfl
        have lt := valW_lt ok
        refine iteF ⟨_, rfl, x, _, rfl, okW_int ok, by omega, _, rfl, _, rfl, ?_, _, rfl, rfl, _, rfl, ?_⟩
        · have : ((valW x : Nat) : Int).natAbs = valW x := by omega
          rw [this]
          exact Nat.lt_of_le_of_lt (Nat.log2_le_self _) (by omega)
        · by_cases h4 : Str.ofString (toString ((valW x : Nat) : Int)) = x
          · have e : numO x = some (valW x) := by unfold numO; rw [if_pos ⟨ok, h4⟩]
            rw [e] at k
            rw [decide_eq_true (by rw [h4])]
            exact iteT ⟨_, rfl, k⟩
          · have e : numO x = none := by unfold numO; rw [if_neg fun z => h4 z.2]
            rw [e] at k
            rw [decide_eq_false (fun z => h4 (V.str.inj z))]
            exact iteF k
      · rw [decide_eq_true (by omega)]
        have e : numO x = none := by
          unfold numO okW
          rw [decide_eq_false h3] <;> simp
        rw [e] at k
        exact iteT k
    · have h2' : Txt.isdigit x = false := by simpa using h2
      rw [h2']
      rw [h1, h2'] at hw
      have e : numO x = none := by
        unfold numO okW
        rw [← Bool.and_assoc, ← hw] <;> simp
      rw [e] at k
      exact iteT k
  · have h1' : Txt.isascii x = false := by simpa using h1
    rw [h1']
    rw [h1'] at hw
    have e : numO x = none := by
      unfold numO okW
      rw [← Bool.and_assoc, ← hw] <;> simp
    rw [e] at k
    exact iteT k
theorem sc_numbers_of : FnScope ["words", "word"] ["words"] (defScope s_numbers_of) := ⟨rfl, rfl, rfl, by decide +kernel, rfl, by decide +kernel, by decide +kernel⟩
theorem map_range {α β : Type} (g : α → β) (d : α) : ∀ l : List α, ((List.range l.length).map fun j => g (l.getD j d)) = l.map g := by
  intro l
  refine List.ext_getElem (by simp) fun i h1 h2 => ?_
  simp at h1
  simp [h1]
theorem ok_numbers_of {f : Addr} {fd : FuncData} (F : L2.Fun K "numbers_of" "numbers_of" s_numbers_of f fd) (B : Blt mg) (cN : Cal P w K mg base CX0 "number_of" ["word"] 1 spNumOf) : FnOk P w K mg base CX0 2 f fd ["words"] (spNumsOf K T) := by
  refine F.ok sc_numbers_of (fun vs H Q E h => by obtain ⟨a, ws, rfl, _⟩ := h; rfl) (fun cdv A outer s H vs Q E hr h => ?_)
  obtain ⟨a, ws, rfl, hs, hz, hw, k⟩ := h
  have nd := sc_numbers_of.nd
  refine ⟨_, pss_one (ps_ret (pe_callTy call_tuple_of (by rfl) B.tuple boot_tuple (pa_cons (pe_lc (own := [("word", 1)]) (g := gName 1) (tt := tYes) (te := tCall spNumOf [] E0 (tCons (tVar 1) tNil)) (by rfl) nd (pi_list (pv 0)) (blkOk_by (own := [("word", 1)]) (N := ["words", "word"]) (sc := defScope s_numbers_of) (by decide +kernel))
    (fun _ _ _ _ _ => pg_name (i := 1) nd rfl (Or.inl rfl)) (fun _ _ _ _ _ => pts_nil) (fun _ _ _ _ _ => pe_cal cN hr (pa_cons (pv 1) pa_nil))) pa_nil))), ?_⟩
  refine ⟨_, rfl, a, rfl, ⟨_, hs⟩, fun D hD => ?_⟩
  have lw : (ws.map V.str).length = ws.length := List.length_map ..
  refine lc_dp (T := T) (fun j => numD (numO (ws.getD j ""))) hD hs (by rw [lw]; exact hz) (fun j _ => num_fl _) (fun j x H' Qe ex x1 q => ?_) (fun H' acc x1 e1 da => ?_)
  · have hj := (List.getElem?_eq_some_iff.mp ex).1
    rw [lw] at hj
    rw [List.getElem?_map, List.getElem?_eq_getElem hj] at ex
    obtain rfl : V.str ws[j] = x := Option.some.inj ex
    have eg : ws.getD j "" = ws[j] := by simp [hj]
    have qq := q H' (numV (numO ws[j])) (XX.refl H') (by rw [eg]; exact num_dp _)
    exact ⟨_, rfl, ws[j], rfl, hw _ (List.getElem_mem hj), qq⟩
  · rw [lw, map_range (fun w => numD (numO w))] at da
    refine ⟨D, acc, rfl, .inl ⟨SqL.of e1, fun l hl => ?_⟩⟩
    exact k _ _ (x1.then_new hl) (.tup (SqT.of upd_same) (Dp.xxAll (XX.new (T := T) hl) _ _ da))
theorem sc_rows_of : FnScope ["text"] ["text"] (defScope s_rows_of) := ⟨rfl, rfl, rfl, by decide +kernel, rfl, by decide +kernel, by decide +kernel⟩
theorem ok_rows_of {f : Addr} {fd : FuncData} (F : L2.Fun K "rows_of" "rows_of" s_rows_of f fd) : FnOk P w K mg base CX0 1 f fd ["text"] (spRows K T) := by
  refine F.ok sc_rows_of (fun vs H Q E h => by obtain ⟨a, rfl, _⟩ := h; rfl) (fun cdv A outer s H vs Q E hr h => ?_)
  obtain ⟨t, rfl, hz, k⟩ := h
  refine ⟨_, pss_one (ps_ret (pe_ifExp (pt_truth (pv 0) (by intro _; rfl)) (pe_split (pv 0) pe_str) (pe_lst pa_nil))), ?_⟩
  refine ⟨_, rfl, _, ⟨by omega, rfl⟩, ?_⟩
  by_cases h0 : t.length = 0
  · rw [show ((t.length : Int) != 0) = false by rw [h0]; rfl]
    refine iteF ⟨Nat.zero_le _, fun p hp => ?_⟩
    refine k _ _ (XX.new hp) hp ?_
    unfold rowsW
    rw [if_pos h0, upd_same]
    rfl
  · rw [show ((t.length : Int) != 0) = true by simpa using h0]
    refine iteT ⟨_, rfl, ⟨t, rfl⟩, t, "\n", rfl, rfl, rfl, hz, fun p hp => ?_⟩
    refine k _ _ (XX.new hp) hp ?_
    unfold rowsW
    rw [if_neg h0, upd_same]
end
end GX
set_option maxHeartbeats 2000000
/-! a, *r = a list -/
namespace GX
open PySem PySem.Spec PySem.Calls PyProof.Rows L2 LamX
section
variable {prog : Program} {w : World} {A : Around} {E : Value → Shared → Prop} {s : Shared}
theorem star_list {l : Addr} {x : Value} {xs : List Value} {Q : List Value → Shared → Prop} (hh : A.handled = none) (hL : s.heap.IsList l (x :: xs).toArray) (hz : xs.length ≤ 16000)
    (q : ∀ (h2 : Heap) (tk : Nat), (∀ b o, s.heap.get? b = some o → h2.get? b = some o) → Q [x, .ref h2.objs.size] { s with heap := h2.push { cls := .type "list", data := .seq xs.toArray }, toks := tk }) :
    wpAny (model prog w) A (unpackItems (.ref l) 2 (some 1)) Q E s := by
  have nl : l ≠ s.heap.objs.size := by
    obtain ⟨o, ho, _⟩ := hL
    exact Nat.ne_of_lt (Heap.lt_size ho)
  have sz : (x :: xs).toArray.size = xs.length + 1 := by simp
  unfold unpackItems notIterableAtAll
  refine wpAny_bind ?_
  refine wpAny_bind (wpAny_specialOf hL.typeIs slot_list_iter.lookup (wpAny_pure ?_))
  simp only [Bool.false_eq_true, if_false]
  refine wpAny_bind (wpAny_holding (wpAny_pyIter_list hL ?_))
  refine wpAny_bind (wpAny_holding ?_)
  refine PySem.W.kun_draw nl 1 0 _ _ ⟨_, Heap.get?_push_size _ rfl, rfl, rfl⟩ (hL.push _) (by omega) fun h1 it1 sb => ?_
  have L1 : h1.IsList l (x :: xs).toArray := (hL.push _).extBut sb.extBut nl
  obtain ⟨oi, hoi, _⟩ := id it1
  obtain ⟨ol, hol, _⟩ := id L1
  show wpAny (model prog w) A (if [x].length < 1 then _ else _) _ _ _
  rw [if_neg (by simp)]
  refine wpAny_bind (wpAny_holding ?_)
  have wk := Walks.list (prog := prog) (w := w) (A := A.in1) hh s.heap.objs.size l nl (x :: xs).toArray
  refine PySem.W.kun_collect (s := { s with heap := h1 }) (T := "list_iterator") (.inr (.inr (.inl rfl))) wk (fun j u st => st.1.typeIs) (k := 1) (by omega) ⟨it1, L1⟩ (Heap.lt_size hoi) (Heap.lt_size hol) (fun h2 tk hk => ?_) (by rw [sz, sizeLine_eq]; omega)
  show wpAny (model prog w) A (if xs.length < 2 - 1 - 1 then _ else _) _ _ _
  rw [if_neg (by omega)]
  show wpAny (model prog w) A (newList (xs.take (xs.length - (2 - 1 - 1))) >>= fun d => pure ([x] ++ [d] ++ xs.drop (xs.length - (2 - 1 - 1)))) _ _ _
  rw [show xs.length - (2 - 1 - 1) = xs.length by omega, List.take_length, List.drop_length]
  have kp : ∀ b o, s.heap.get? b = some o → h2.get? b = some o := fun b o e => by
    have nb : b ≠ s.heap.objs.size := Nat.ne_of_lt (Heap.lt_size e)
    exact hk b o nb (sb.extBut b o nb (Heap.get?_push_of_some _ e))
  exact wpAny_bind (wpAny_newList (wpAny_pure (q h2 tk kp)) (by rw [sizeLine_eq]; omega))
end
section
variable {X : Cx} {pos sp : Pos}
/-- a, *r = a list of one item at least -/
def gStar (K : PySem.W.Frag) (t : TGs) : TG := fun v σ H Q => ∃ a x xs, v = .ref a ∧ SqL K H a (x :: xs) ∧ xs.length ≤ 16000 ∧ ∀ p, H p = none → t [x, .ref p] σ (upd H p (.lst xs)) Q
theorem pgs_starred {e : Expr} {t : TG} (h : PG X e t) (hs : (assignEach [.Starred e sp] X.env).map (·.2) = [assign e X.env] := by rfl) : PGs X [.Starred e sp] (gCons t gNil) := by
  refine ⟨fun pins s σ H vs us Q I r hq => ?_⟩
  obtain ⟨v, vr, e1, hq⟩ := hq
  subst e1
  cases r with
  | cons r rr =>
    rw [hs]
    refine assignInOrder_cons (thn (h.run pins s σ H _ _ _ I r hq) fun _ s1 ⟨σ1, H1, I1, e2, q1⟩ => ?_)
    subst e2
    cases rr
    exact assignInOrder_nil ⟨σ1, H1, I1, q1⟩
theorem pg_star {es : List Expr} {k : Nat} {t : TGs} (hc : X.calm = true) (h : PGs X es t) (hn : (assignEach es X.env).length = 2 := by rfl) (hst : (assignEach es X.env).findIdx? (·.1) = some 1 := by rfl) : PG X (.Tuple es k pos) (gStar X.K t) := by
  refine ⟨fun pins s σ H v u Q I r hw => ?_⟩
  obtain ⟨a, x, xs, e1, hq, hl, hw⟩ := hw
  subst e1
  cases r
  obtain ⟨its, rv, pl, hz⟩ := I.list hq
  have hl' : s.heap.IsList a its.toArray := by
    obtain ⟨o, m, e, c, d, q⟩ := pl
    exact ⟨o, e, c, m, q⟩
  cases rv with
  | cons rx rr =>
  rename_i ux uxs
  rw [PyProof.Rows.assign_Tuple]
  refine wpAny_bind (wpAny_standAt ?_)
  unfold unpack
  rw [hn, hst]
  have hl2 : uxs.length ≤ 16000 := by rw [← rr.length]; exact hl
  refine wpAny_bind (wpAny_holding (star_list (I.ok.hd hc) hl' hl2 fun h2 tk kp => ?_))
  have I1 := I.kept (t' := tk) (h' := h2) kp
  have hf : H h2.objs.size = none := I1.hok.fresh (Nat.le_refl _)
  have I2 := I1.laid (t' := tk) (a := h2.objs.size) (o := .lst xs) (h' := h2.push { cls := .type "list", data := .seq uxs.toArray }) (fun b o e => Heap.get?_push_of_some _ e) (Nat.le_refl _) ⟨by rw [sizeLine_eq]; omega, uxs, 0, rr, Heap.get?_push_size _ rfl⟩
  exact h.run pins _ σ _ [x, .ref h2.objs.size] _ Q I2 (.cons rx (.cons rfl .nil)) (hw _ hf)
end
end GX
set_option maxHeartbeats 4000000
/-! slotpages.notes: _next_of, _cells_of, _slot_of -/
namespace GX
open PySem PySem.Spec PyProof.Rows L2 LamX
/-! ### what a split tells -/
theorem spl_bounds (S : List Nat) : ∀ (l : List Nat) (k : Nat) (acc : List Nat), TL.spl S k acc l ≠ [] ∧ (TL.spl S k acc l).length ≤ l.length + 1 ∧ ∀ p ∈ TL.spl S k acc l, p.length ≤ acc.length + l.length
  | [], k, acc => by
    rw [TL.spl_nil]
    exact ⟨by simp, by simp, fun p hp => by rw [List.mem_singleton.mp hp]; simp⟩
  | c :: r, k + 1, acc => by
    obtain ⟨h1, h2, h3⟩ := spl_bounds S r k acc
    refine ⟨h1, ?_, fun p hp => ?_⟩
    · show (TL.spl S k acc r).length ≤ _
      rw [List.length_cons]; omega
    · have := h3 p hp
      rw [List.length_cons]; omega
  | c :: r, 0, acc => by
    by_cases hp : TL.pre S (c :: r) = true
    · rw [TL.spl_hit hp]
      obtain ⟨h1, h2, h3⟩ := spl_bounds S r (S.length - 1) []
      refine ⟨by simp, ?_, fun p hp => ?_⟩
      · rw [List.length_cons, List.length_cons]; omega
      · rw [List.length_cons]
        rcases List.mem_cons.mp hp with e | hp
        · rw [e]; omega
        · have := h3 p hp
          rw [List.length_nil] at this
          omega
    · rw [TL.spl_miss (by simpa using hp)]
      obtain ⟨h1, h2, h3⟩ := spl_bounds S r 0 (acc ++ [c])
      refine ⟨h1, ?_, fun p hp => ?_⟩
      · rw [List.length_cons]; omega
      · have := h3 p hp
        rw [List.length_append, List.length_singleton] at this
        rw [List.length_cons]; omega
theorem split_bounds {x y : Str} {s : Nat} (ey : TL.tl y = [s]) (hk : y.cps.all (· < 256) = true) : Txt.split x y ≠ [] ∧ (Txt.split x y).length ≤ x.length + 1 ∧ ∀ p ∈ Txt.split x y, p.length ≤ x.length := by
  have e := TL.split_spl x y (by rw [ey]; simp) (TL.kind_ok hk)
  obtain ⟨h1, h2, h3⟩ := spl_bounds (TL.tl y) (TL.tl x) 0 []
  rw [← e] at h1 h2 h3
  refine ⟨fun z => h1 (by rw [z]; rfl), ?_, fun p hp => ?_⟩
  · rw [List.length_map, ← TL.len_tl] at h2
    exact h2
  · have := h3 _ (List.mem_map_of_mem hp)
    rw [← TL.len_tl, ← TL.len_tl, List.length_nil] at this
    omega
theorem dot_bounds (x : Str) : Txt.split x "." ≠ [] ∧ (Txt.split x ".").length ≤ x.length + 1 ∧ ∀ p ∈ Txt.split x ".", p.length ≤ x.length := split_bounds (s := 46) (by decide +kernel) (by decide +kernel)
theorem blank_bounds (x : Str) : Txt.split x " " ≠ [] ∧ (Txt.split x " ").length ≤ x.length + 1 ∧ ∀ p ∈ Txt.split x " ", p.length ≤ x.length := split_bounds (s := 32) (by decide +kernel) (by decide +kernel)
theorem line_bounds (x : Str) : Txt.split x "\n" ≠ [] ∧ (Txt.split x "\n").length ≤ x.length + 1 ∧ ∀ p ∈ Txt.split x "\n", p.length ≤ x.length := split_bounds (s := 10) (by decide +kernel) (by decide +kernel)
/-! ### what the program reads -/
def nextW (w : Str) : PyData := if w = "-" then .none else .tuple ((Txt.split w ".").map fun x => numD (numO x))
def slotWs : List Str → PyData
  | [] => .none
  | w :: ws => .tuple (.str w :: ((ws.take 3).map (fun x => numD (numO x)) ++ (ws.drop 3).map nextW))
def cellWs : List Str → PyData
  | [] => .none
  | w :: ws => if w = "cells" then .tuple (ws.map fun x => numD (numO x)) else .none
theorem cellWs_yes {y : Str} {ys : List Str} (h : y = "cells") : cellWs (y :: ys) = .tuple (ys.map fun x => numD (numO x)) := if_pos h
theorem cellWs_no {y : Str} {ys : List Str} (h : ¬ y = "cells") : cellWs (y :: ys) = .none := if_neg h
theorem flatAll_map {α : Type} {g : α → PyData} (h : ∀ x, flatD (g x) = true) : ∀ l : List α, flatAll (l.map g) = true
  | [] => rfl
  | x :: l => by
    show (flatD (g x) && flatAll (l.map g)) = true
    rw [h x, flatAll_map h l] <;> rfl
theorem next_fl (w : Str) : flatD (nextW w) = true := by
  unfold nextW
  by_cases h : w = "-"
  · rw [if_pos h]; rfl
  · rw [if_neg h]; exact flatAll_map (fun x => num_fl _) _
theorem getD_at {l : List Str} {j : Nat} (h : j < l.length) : l.getD j "" = l[j] := by simp [h]
def spNextOf (K : PySem.W.Frag) (T : List (Addr × Str)) : Sp := fun vs H Q _ => ∃ w : Str, vs = [.str w] ∧ w.length + 2 ≤ sizeLine ∧ ∀ H' v, XX T H H' → Dp K H' v (nextW w) → Q v H'
def spSlotOf (K : PySem.W.Frag) (T : List (Addr × Str)) : Sp := fun vs H Q _ => ∃ r : Str, vs = [.str r] ∧ r.length ≤ 15000 ∧ ∀ H' v, XX T H H' → Dp K H' v (slotWs (Txt.split r " ")) → Q v H'
def spCellsOf2 (K : PySem.W.Frag) (T : List (Addr × Str)) : Sp := fun vs H Q _ => ∃ r : Str, vs = [.str r] ∧ r.length ≤ 15000 ∧ ∀ H' v, XX T H H' → Dp K H' v (cellWs (Txt.split r " ")) → Q v H'
theorem cutV_drop (xs : List V) (i : Nat) : cutV xs (some (i : Int)) none = xs.drop i := by
  unfold cutV
  rw [HT.sIx_none, HT.sIx_nat]
  by_cases h : i ≤ xs.length
  · rw [Nat.min_eq_left h, List.take_of_length_le (by rw [List.length_drop]; omega)]
  · rw [Nat.min_eq_right (by omega), List.drop_length, List.take_nil, List.drop_eq_nil_of_le (by omega)]
theorem cutV_take (xs : List V) (i : Nat) : cutV xs none (some (i : Int)) = xs.take i := by
  unfold cutV
  rw [HT.sIx_none, HT.sIx_nat, List.drop_zero, Nat.sub_zero]
  by_cases h : i ≤ xs.length
  · rw [Nat.min_eq_left h]
  · rw [Nat.min_eq_right (by omega), List.take_of_length_le (Nat.le_refl _), List.take_of_length_le (by omega)]
section
variable {P : Program} {w : World} {K : PySem.W.Frag} {mg : Str → Option Value} {base : Heap} {T : List (Addr × Str)}
theorem sc_next_of : FnScope ["word"] ["word"] (defScope s_next_of) := ⟨rfl, rfl, rfl, by decide +kernel, rfl, by decide +kernel, by decide +kernel⟩
theorem ok_next_of {f : Addr} {fd : FuncData} (F : L2.Fun K "_next_of" "_next_of" s_next_of f fd) (hN : ∃ t, mg "NOTHING" = some (.str "-" t)) (cN : Cal P w K mg base CX0 "numbers_of" ["words"] 2 (spNumsOf K T)) : FnOk P w K mg base CX0 3 f fd ["word"] (spNextOf K T) := by
  refine F.ok sc_next_of (fun vs H Q E h => by obtain ⟨x, rfl, _⟩ := h; rfl) (fun cdv A outer s H vs Q E hr h => ?_)
  obtain ⟨x, rfl, hx, k⟩ := h
  obtain ⟨tn, hN⟩ := hN
  refine ⟨_, pss_cons (ps_if (pt_cmpR op_eq (pv 0) (pe_glob (v := .str "-") (by rfl) hN ⟨_, rfl⟩) (nomark _)) (pss_one (ps_ret pe_non)) pss_nil)
    (pss_one (ps_ret (pe_cal cN hr (pa_cons (pe_split (pv 0) pe_str) pa_nil)))), ?_⟩
  refine ⟨_, rfl, rfl, _, rfl, ?_⟩
  obtain ⟨b1, b2, b3⟩ := dot_bounds x
  by_cases h : x = "-"
  · rw [decide_eq_true (by rw [h])]
    refine iteT (k _ _ (XX.refl H) ?_)
    unfold nextW
    rw [if_pos h]
    exact .non
  · rw [decide_eq_false (fun z => h (V.str.inj z))]
    refine iteF ⟨_, rfl, ⟨x, rfl⟩, x, ".", rfl, rfl, rfl, hx, fun p hp => ?_⟩
    refine ⟨p, Txt.split x ".", rfl, SqL.of upd_same, by omega, fun w hw => ?_, fun H' v x1 dv => k _ _ ((XX.new hp).trans x1) ?_⟩
    · have := b3 w hw
      omega
    · unfold nextW
      rw [if_neg h]
      exact dv
theorem sc_cells_of2 : FnScope ["row", "word", "words"] ["row"] (defScope s_cells_of) := ⟨rfl, rfl, rfl, by decide +kernel, rfl, by decide +kernel, by decide +kernel⟩
theorem ok_cells_of2 {f : Addr} {fd : FuncData} (F : L2.Fun K "_cells_of" "_cells_of" s_cells_of f fd) (hC : ∃ t, mg "CELLS_WORD" = some (.str "cells" t)) (cN : Cal P w K mg base CX0 "numbers_of" ["words"] 2 (spNumsOf K T)) : FnOk P w K mg base CX0 3 f fd ["row"] (spCellsOf2 K T) := by
  refine F.ok sc_cells_of2 (fun vs H Q E h => by obtain ⟨x, rfl, _⟩ := h; rfl) (fun cdv A outer s H vs Q E hr h => ?_)
  obtain ⟨x, rfl, hx, k⟩ := h
  obtain ⟨tn, hC⟩ := hC
  have nd := sc_cells_of2.nd
  refine ⟨_, pss_cons (ps_asg (pe_split (pv 0) pe_str) (pg_star (by rfl) (pgs_cons (pg_name (i := 1) nd rfl (.inl rfl)) (pgs_starred (pg_name (i := 2) nd rfl (.inl rfl))))))
    (pss_one (ps_ret (pe_ifExp (pt_cmpR op_eq (pv 1) (pe_glob (v := .str "cells") (by rfl) hC ⟨_, rfl⟩) (nomark _)) (pe_cal cN hr (pa_cons (pv 2) pa_nil)) pe_non))), ?_⟩
  obtain ⟨b1, b2, b3⟩ := blank_bounds x
  refine ⟨_, rfl, ⟨x, rfl⟩, x, " ", rfl, rfl, rfl, (by rw [sizeLine_eq]; omega), fun p hp => ?_⟩
  cases e : Txt.split x " " with
  | nil => exact absurd e b1
  | cons y ys =>
    rw [e] at b2 b3
    rw [List.length_cons] at b2
    refine ⟨p, .str y, ys.map V.str, rfl, SqL.of upd_same, by rw [List.length_map]; omega, fun q hq => ⟨_, _, rfl, _, _, rfl, rfl, ?_⟩⟩
    have x2 := (XX.new (T := T) (o := .lst ((y :: ys).map V.str)) hp).then_new (o := .lst (ys.map V.str)) hq
    rw [e] at k
    refine ⟨_, rfl, rfl, _, rfl, ?_⟩
    by_cases h : y = "cells"
    · rw [decide_eq_true (by rw [h])]
      refine iteT ⟨_, rfl, q, ys, rfl, SqL.of upd_same, by rw [sizeLine_eq]; omega, fun w hw => ?_, fun H' v x3 dv => k _ _ (x2.trans x3) ?_⟩
      · have := b3 w (List.mem_cons_of_mem _ hw)
        rw [sizeLine_eq]; omega
      · rw [cellWs_yes h]
        exact dv
    · rw [decide_eq_false (fun z => h (V.str.inj z))]
      refine iteF (k _ _ x2 ?_)
      rw [cellWs_no h]
      exact .non
abbrev soN : List Str := ["row", "word", "words", "nexts", "told"]
theorem sc_slot_of : FnScope soN ["row"] (defScope s_slot_of) := ⟨rfl, rfl, rfl, by decide +kernel, rfl, by decide +kernel, by decide +kernel⟩
theorem ok_slot_of {f : Addr} {fd : FuncData} (F : L2.Fun K "_slot_of" "_slot_of" s_slot_of f fd) (cN : Cal P w K mg base CX0 "numbers_of" ["words"] 2 (spNumsOf K T)) (cX : Cal P w K mg base CX0 "_next_of" ["word"] 3 (spNextOf K T)) : FnOk P w K mg base CX0 4 f fd ["row"] (spSlotOf K T) := by
  refine F.ok sc_slot_of (fun vs H Q E h => by obtain ⟨x, rfl, _⟩ := h; rfl) (fun cdv A outer s H vs Q E hr h => ?_)
  obtain ⟨x, rfl, hx, k⟩ := h
  have nd := sc_slot_of.nd
  refine ⟨_, pss_cons (ps_asg (pe_split (pv 0) pe_str) (pg_star (by rfl) (pgs_cons (pg_name (i := 1) nd rfl (.inl rfl)) (pgs_starred (pg_name (i := 2) nd rfl (.inl rfl))))))
    (pss_cons (ps_setLc (i := 3) (own := [("told", 4)]) (g := gName 4) (tt := tYes) (te := tCall (spNextOf K T) [] E0 (tCons (tVar 4) tNil)) (by rfl) nd rfl rfl (sw_true rfl rfl rfl (by decide +kernel)) (pi_list (pe_slice sl_list (pv 2) (po_some pe_int) po_none)) (blkOk_by (own := [("told", 4)]) (N := soN) (sc := defScope s_slot_of) (by decide +kernel))
      (fun _ _ _ _ _ => pg_name (i := 4) nd rfl (.inl rfl)) (fun _ _ _ _ _ => pts_nil) (fun _ _ _ _ _ => pe_cal cX hr (pa_cons (pv 4) pa_nil)))
    (pss_one (ps_ret (pe_tup (pa_cons (pv 1) (StX.pa_star (pe_cal cN (hr.mono (by decide)) (pa_cons (pe_slice sl_list (pv 2) po_none (po_some pe_int)) pa_nil)) (StX.pa_star (pv 3) pa_nil))))))), ?_⟩
  obtain ⟨b1, b2, b3⟩ := blank_bounds x
  refine ⟨_, rfl, ⟨x, rfl⟩, x, " ", rfl, rfl, rfl, (by rw [sizeLine_eq]; omega), fun p hp => ?_⟩
  cases e : Txt.split x " " with
  | nil => exact absurd e b1
  | cons y ys =>
    rw [e] at b2 b3
    rw [List.length_cons] at b2
    refine ⟨p, .str y, ys.map V.str, rfl, SqL.of upd_same, by rw [List.length_map]; omega, fun q hq => ⟨_, _, rfl, _, _, rfl, rfl, ?_⟩⟩
    have x2 := (XX.new (T := T) (o := .lst ((y :: ys).map V.str)) hp).then_new (o := .lst (ys.map V.str)) hq
    rw [e] at k
    -- the nexts
    refine ⟨_, rfl, _, rfl, q, _, rfl, SqL.of upd_same, fun r hr3 => ⟨r, rfl, ⟨_, SqL.of upd_same⟩, fun D hD => ?_⟩⟩
    have x3 := x2.then_new (o := .lst (cutV (ys.map V.str) (some (3 : Int)) none)) hr3
    have e3 : cutV (ys.map V.str) (some (3 : Int)) none = (ys.drop 3).map V.str := (cutV_drop (ys.map V.str) 3).trans (by rw [List.map_drop])
    rw [e3] at x3 hD ⊢
    have l3 : ((ys.drop 3).map V.str).length = (ys.drop 3).length := List.length_map ..
    have l4 : (ys.drop 3).length ≤ ys.length := by rw [List.length_drop]; omega
    refine lc_dp (T := T) (i := 4) (fun j => nextW ((ys.drop 3).getD j "")) hD (SqL.of upd_same) (by rw [l3, sizeLine_eq]; omega) (fun j _ => next_fl _) (fun j u H' Qe ex x4 q4 => ?_) (fun H' acc x4 e4 da => ?_)
    · have hj := (List.getElem?_eq_some_iff.mp ex).1
      rw [l3] at hj
      rw [List.getElem?_map, List.getElem?_eq_getElem hj] at ex
      obtain rfl : V.str (ys.drop 3)[j] = u := Option.some.inj ex
      have eg : (ys.drop 3).getD j "" = (ys.drop 3)[j] := getD_at hj
      have hm := b3 _ (List.mem_cons_of_mem _ (List.mem_of_mem_drop (List.getElem_mem hj)))
      refine ⟨_, rfl, (ys.drop 3)[j], rfl, by rw [sizeLine_eq]; omega, fun H2 v x5 dv => q4 H2 v x5 ?_⟩
      rw [eg]
      exact dv
    · rw [l3, map_range nextW] at da
      -- the row's words
      have x5 := x3.trans x4
      have hq5 : H' q = some (.lst (ys.map V.str)) := ((XX.new (T := T) hr3).trans x4).lst upd_same
      refine ⟨_, rfl, _, rfl, _, rfl, q, _, rfl, SqL.of hq5, fun r2 hr2 => ?_⟩
      have e6 : cutV (ys.map V.str) none (some (3 : Int)) = (ys.take 3).map V.str := (cutV_take (ys.map V.str) 3).trans (by rw [List.map_take])
      rw [e6]
      have x6 := XX.new (T := T) (o := .lst ((ys.take 3).map V.str)) hr2
      refine ⟨r2, ys.take 3, rfl, SqL.of upd_same, ?_, fun w hw => ?_, fun H2 v x7 dv => ?_⟩
      · rw [List.length_take, sizeLine_eq]; omega
      · have := b3 w (List.mem_cons_of_mem _ (List.mem_of_mem_take hw))
        rw [sizeLine_eq]; omega
      · obtain ⟨a8, xs8, rfl, hs8, da8⟩ := dp_tup dv
        have x8 := x6.trans x7
        have hD8 : H2 D = some (.lst acc) := x8.lst e4
        have l8 := dpAll_len da8
        have l9 := dpAll_len da
        rw [List.length_map] at l8 l9
        rw [List.length_take] at l8
        refine ⟨a8, xs8, rfl, .inl hs8, _, rfl, D, acc, rfl, .inr (SqL.of hD8), ?_, fun t9 ht9 => ?_⟩
        · show (V.str y :: (xs8 ++ (acc ++ []))).length ≤ sizeLine
          rw [List.length_cons, List.length_append, List.length_append, List.length_nil, sizeLine_eq]
          omega
        · have x9 := XX.new (T := T) (o := .tup (V.str y :: (xs8 ++ (acc ++ [])))) ht9
          refine k _ _ ((x5.trans x8).trans x9) (.tup (SqT.of upd_same) (.cons (.str _) ?_))
          rw [List.append_nil] at x9 ⊢
          exact dpAll_app (Dp.xxAll x9 _ _ da8) (Dp.xxAll (x8.trans x9) _ _ da)
end
end GX
set_option maxHeartbeats 2000000
/-! what is a page by isPage is a small thing without lists -/
namespace GX
open PySem PySem.Spec PyProof.Rows L2 LamX
structure Nice (d : PyData) (n : Nat) : Prop where
  fl : flatD d = true
  cl : PyData.canLay0 d = true
  ok : okD d = true
  dp : PyData.depth d ≤ n
theorem flatAll_of : ∀ {ds : List PyData}, (∀ d ∈ ds, flatD d = true) → flatAll ds = true
  | [], _ => rfl
  | d :: ds, h => by
    show (flatD d && flatAll ds) = true
    rw [h d List.mem_cons_self, flatAll_of fun e he => h e (List.mem_cons_of_mem _ he)] <;> rfl
theorem canLayAll_of : ∀ {ds : List PyData}, (∀ d ∈ ds, PyData.canLay0 d = true) → PyData.canLayAll0 ds = true
  | [], _ => rfl
  | d :: ds, h => by
    show (PyData.canLay0 d && PyData.canLayAll0 ds) = true
    rw [h d List.mem_cons_self, canLayAll_of fun e he => h e (List.mem_cons_of_mem _ he)] <;> rfl
theorem okAll_of : ∀ {ds : List PyData}, (∀ d ∈ ds, okD d = true) → okAll ds = true
  | [], _ => rfl
  | d :: ds, h => by
    show (okD d && okAll ds) = true
    rw [h d List.mem_cons_self, okAll_of fun e he => h e (List.mem_cons_of_mem _ he)] <;> rfl
theorem depthAll_of {n : Nat} : ∀ {ds : List PyData}, (∀ d ∈ ds, PyData.depth d ≤ n) → PyData.depthAll ds ≤ n
  | [], _ => Nat.zero_le _
  | d :: ds, h => by
    show max (PyData.depth d) (PyData.depthAll ds) ≤ n
    exact Nat.max_le.mpr ⟨h d List.mem_cons_self, depthAll_of fun e he => h e (List.mem_cons_of_mem _ he)⟩
theorem Nice.mono {d : PyData} {m n : Nat} (h : Nice d m) (hm : m ≤ n) : Nice d n := ⟨h.fl, h.cl, h.ok, Nat.le_trans h.dp hm⟩
theorem nice_tuple {ds : List PyData} {n : Nat} (hl : ds.length ≤ 20000) (h : ∀ d ∈ ds, Nice d n) : Nice (.tuple ds) (n + 1) := by
  refine ⟨flatAll_of fun d hd => (h d hd).fl, canLayAll_of fun d hd => (h d hd).cl, ?_, ?_⟩
  · show (decide (ds.length ≤ 20000) && okAll ds) = true
    rw [decide_eq_true hl, okAll_of fun d hd => (h d hd).ok] <;> rfl
  · show PyData.depthAll ds + 1 ≤ n + 1
    exact Nat.succ_le_succ (depthAll_of fun d hd => (h d hd).dp)
theorem nice_int (i : Int) : Nice (.int i) 0 := ⟨rfl, rfl, rfl, Nat.le_refl _⟩
theorem nice_none : Nice .none 0 := ⟨rfl, rfl, rfl, Nat.le_refl _⟩
theorem nice_num {d : PyData} {lo hi : Int} (h : isNum d lo hi = true) : Nice d 0 := by
  obtain ⟨i, rfl, _, _⟩ := isNum_int h
  exact nice_int i
theorem nice_next {d : PyData} (h : isNext d = true) : Nice d 1 := by
  match d, h with
  | .none, _ => exact nice_none.mono (by decide)
  | .tuple [a, b], h =>
    have h' := Bool.and_eq_true_iff.mp (show (isNum a 0 11 && isNum b 0 7) = true from h)
    refine nice_tuple (n := 0) (by simp) fun d hd => ?_
    rcases List.mem_cons.mp hd with e | hd
    · rw [e]; exact nice_num h'.1
    · rw [List.mem_singleton.mp hd]; exact nice_num h'.2
theorem eqv_strL {w : PyData} {x : Str} (h : PyData.eqv w (.str x) = true) : w = .str x := by
  cases w with
  | str y =>
    have h : (y == x) = true := h
    rw [eq_of_beq h]
  | _ => exact absurd h (by simp [PyData.eqv])
def sizeR (b s : PyData) (least : Int) : Bool := match b with
  | .int bi => isNum s least (24 - bi)
  | _ => false
theorem holds_4 (w t b s n : PyData) (least : Int) : holds [w, t, b, s, n] least = (isNum t 0 99 && isNum b 0 24 && sizeR b s least && isNext n) := by cases b <;> rfl
def freeR : List PyData → Bool
  | [t] => isNum t 0 100
  | _ => false
theorem isSlot_cons (w : PyData) (r : List PyData) : isSlot (.tuple (w :: r)) = if PyData.eqv w (.str "free") = true then freeR r else if PyData.eqv w (.str "row") = true then holds (w :: r) 0 else PyData.eqv w (.str "part") && holds (w :: r) 1 := by
  rcases r with _ | ⟨t, _ | ⟨u, r⟩⟩ <;> rfl
theorem nice_holds {w : PyData} {r : List PyData} {least : Int} (hw : Nice w 0) (h : holds (w :: r) least = true) : Nice (.tuple (w :: r)) 2 := by
  match r, h with
  | [t, b, s, n], h =>
    have h' := h
    rw [holds_4, Bool.and_eq_true, Bool.and_eq_true, Bool.and_eq_true] at h'
    obtain ⟨⟨⟨h1, h2⟩, h3⟩, h4⟩ := h'
    obtain ⟨bi, rfl, _, _⟩ := isNum_int h2
    have h3 : isNum s least (24 - bi) = true := h3
    refine nice_tuple (by simp) fun d hd => ?_
    rcases List.mem_cons.mp hd with e | hd
    · rw [e]; exact hw.mono (by decide)
    · rcases List.mem_cons.mp hd with e | hd
      · rw [e]; exact (nice_num h1).mono (by decide)
      · rcases List.mem_cons.mp hd with e | hd
        · rw [e]; exact (nice_num h2).mono (by decide)
        · rcases List.mem_cons.mp hd with e | hd
          · rw [e]; exact (nice_num h3).mono (by decide)
          · rw [List.mem_singleton.mp hd]; exact nice_next h4
theorem nice_lit {x : Str} (h : PyData.canLay0 (.str x) = true) : Nice (.str x) 0 := ⟨rfl, h, rfl, Nat.le_refl _⟩
theorem nice_slot {d : PyData} (h : isSlot d = true) : Nice d 2 := by
  match d, h with
  | .tuple (w :: r), h =>
    rw [isSlot_cons] at h
    by_cases e1 : PyData.eqv w (.str "free") = true
    · rw [if_pos e1] at h
      have h' : freeR r = true := h
      clear h
      obtain rfl := eqv_strL e1
      match r, h' with
      | [t], h' =>
        refine (nice_tuple (n := 0) (by simp) fun d hd => ?_).mono (by decide)
        rcases List.mem_cons.mp hd with e | hd
        · rw [e]; exact nice_lit (by decide +kernel)
        · rw [List.mem_singleton.mp hd]; exact nice_num h'
    · by_cases e2 : PyData.eqv w (.str "row") = true
      · rw [if_neg e1, if_pos e2] at h
        have h' := h
        obtain rfl := eqv_strL e2
        exact nice_holds (nice_lit (by decide +kernel)) h'
      · rw [if_neg e1, if_neg e2] at h
        have h' := h
        rw [Bool.and_eq_true] at h'
        obtain rfl := eqv_strL h'.1
        exact nice_holds (nice_lit (by decide +kernel)) h'.2
theorem isPage_parts {d : PyData} (h : isPage d = true) : ∃ s c, d = .tuple [.tuple s, .tuple c] ∧ s.length = 8 ∧ c.length = 24 ∧ (∀ x ∈ c, isNum x 0 99 = true) ∧ ∀ x ∈ s, isSlot x = true := by
  match d, h with
  | .tuple [.tuple s, .tuple c], h =>
    have h' : (isFrame (.tuple [.tuple s, .tuple c]) && s.all isSlot) = true := h
    rw [Bool.and_eq_true] at h'
    have h1 : (decide (s.length = 8) && decide (c.length = 24) && c.all fun x => isNum x 0 99) = true := h'.1
    rw [Bool.and_eq_true, Bool.and_eq_true] at h1
    exact ⟨s, c, rfl, of_decide_eq_true h1.1.1, of_decide_eq_true h1.1.2, List.all_eq_true.mp h1.2, List.all_eq_true.mp h'.2⟩
theorem isPage_of {s c : List PyData} (h1 : s.length = 8) (h2 : c.length = 24) (h3 : ∀ x ∈ c, isNum x 0 99 = true) (h4 : ∀ x ∈ s, isSlot x = true) : isPage (.tuple [.tuple s, .tuple c]) = true := by
  show (isFrame (.tuple [.tuple s, .tuple c]) && s.all isSlot) = true
  rw [Bool.and_eq_true]
  refine ⟨?_, List.all_eq_true.mpr h4⟩
  show (decide (s.length = 8) && decide (c.length = 24) && c.all fun x => isNum x 0 99) = true
  rw [Bool.and_eq_true, Bool.and_eq_true]
  exact ⟨⟨decide_eq_true h1, decide_eq_true h2⟩, List.all_eq_true.mpr h3⟩
theorem nice_page {d : PyData} (h : isPage d = true) : Nice d 4 := by
  obtain ⟨s, c, rfl, h1, h2, h3, h4⟩ := isPage_parts h
  refine nice_tuple (by simp) fun d hd => ?_
  rcases List.mem_cons.mp hd with e | hd
  · rw [e]; exact nice_tuple (by omega) fun x hx => nice_slot (h4 x hx)
  · rw [List.mem_singleton.mp hd]
    exact (nice_tuple (n := 0) (by omega) fun x hx => nice_num (h3 x hx)).mono (by decide)
theorem Nice.sh {d : PyData} {n : Nat} (h : Nice d n) (hn : n ≤ 64) : SeqAt.shaped d = true := by
  unfold SeqAt.shaped
  rw [h.cl, decide_eq_true (Nat.le_trans h.dp hn)] <;> rfl
/-! slots that are drawn -/
theorem num_of {i lo hi : Int} (h1 : lo ≤ i) (h2 : i ≤ hi) : isNum (.int i) lo hi = true := by
  show (decide (lo ≤ i) && decide (i ≤ hi)) = true
  rw [decide_eq_true h1, decide_eq_true h2] <;> rfl
theorem slot_free {t : Int} (h1 : 0 ≤ t) (h2 : t < 101) : isSlot (.tuple [.str "free", .int t]) = true := by
  have e : PyData.eqv (.str "free") (.str "free") = true := by decide +kernel
  rw [isSlot_cons]
  rw [if_pos e]
  exact num_of h1 (by omega)
theorem slot_row {t b s : Int} {n : PyData} (h1 : 0 ≤ t) (h2 : t < 100) (h3 : 0 ≤ b) (h4 : b < 25) (h5 : 0 ≤ s) (h6 : s < 25 - b) (h7 : isNext n = true) : isSlot (.tuple [.str "row", .int t, .int b, .int s, n]) = true := by
  have e1 : ¬ PyData.eqv (.str "row") (.str "free") = true := by decide +kernel
  have e2 : PyData.eqv (.str "row") (.str "row") = true := by decide +kernel
  rw [isSlot_cons]
  rw [if_neg e1, if_pos e2]
  rw [holds_4]
  show (isNum (.int t) 0 99 && isNum (.int b) 0 24 && isNum (.int s) 0 (24 - b) && isNext n) = true
  rw [num_of h1 (by omega), num_of h3 (by omega), num_of h5 (by omega), h7] <;> rfl
theorem slot_part {t b s : Int} {n : PyData} (h1 : 0 ≤ t) (h2 : t < 100) (h3 : 0 ≤ b) (h4 : b < 24) (h5 : 1 ≤ s) (h6 : s < 25 - b) (h7 : isNext n = true) : isSlot (.tuple [.str "part", .int t, .int b, .int s, n]) = true := by
  have e1 : ¬ PyData.eqv (.str "part") (.str "free") = true := by decide +kernel
  have e2 : ¬ PyData.eqv (.str "part") (.str "row") = true := by decide +kernel
  have e3 : PyData.eqv (.str "part") (.str "part") = true := by decide +kernel
  rw [isSlot_cons]
  rw [if_neg e1, if_neg e2, e3]
  rw [holds_4]
  show (true && (isNum (.int t) 0 99 && isNum (.int b) 0 24 && isNum (.int s) 1 (24 - b) && isNext n)) = true
  rw [num_of h1 (by omega), num_of h3 (by omega), num_of h5 (by omega), h7] <;> rfl
end GX
set_option maxHeartbeats 4000000
/-! slotpages.notes.read as a plain function -/
namespace GX
open PySem PySem.Spec PyProof.Rows L2 LamX
def Asc (t : Str) : Prop := ∀ c ∈ TL.tl t, c < 128
theorem spl_mem (S : List Nat) : ∀ (l : List Nat) (k : Nat) (acc : List Nat), ∀ p ∈ TL.spl S k acc l, ∀ c ∈ p, c ∈ acc ∨ c ∈ l
  | [], k, acc => by
    rw [TL.spl_nil]
    intro p hp c hc
    rw [List.mem_singleton.mp hp] at hc
    exact .inl hc
  | d :: r, k + 1, acc => fun p hp c hc => (spl_mem S r k acc p hp c hc).elim .inl fun h => .inr (List.mem_cons_of_mem _ h)
  | d :: r, 0, acc => by
    intro p hp c hc
    by_cases q : TL.pre S (d :: r) = true
    · rw [TL.spl_hit q] at hp
      rcases List.mem_cons.mp hp with e | hp
      · rw [e] at hc; exact .inl hc
      · exact (spl_mem S r _ [] p hp c hc).elim (fun h => absurd h (by simp)) fun h => .inr (List.mem_cons_of_mem _ h)
    · rw [TL.spl_miss (by simpa using q)] at hp
      rcases spl_mem S r 0 _ p hp c hc with h | h
      · rcases List.mem_append.mp h with h | h
        · exact .inl h
        · rw [List.mem_singleton.mp h]; exact .inr List.mem_cons_self
      · exact .inr (List.mem_cons_of_mem _ h)
theorem split_asc {x y : Str} (hy : TL.tl y ≠ []) (hk : y.cps.all (· < 256) = true) (h : Asc x) : ∀ p ∈ Txt.split x y, Asc p := fun p hp c hc => by
  have e := TL.split_spl x y hy (TL.kind_ok hk)
  have := spl_mem (TL.tl y) (TL.tl x) 0 [] (TL.tl p) (by rw [← e]; exact List.mem_map_of_mem hp) c hc
  exact this.elim (fun h => absurd h (by simp)) fun q => h c q
theorem blank_asc {x : Str} (h : Asc x) : ∀ p ∈ Txt.split x " ", Asc p := split_asc (by decide +kernel) (by decide +kernel) h
theorem line_asc {x : Str} (h : Asc x) : ∀ p ∈ Txt.split x "\n", Asc p := split_asc (by decide +kernel) (by decide +kernel) h
theorem strOk_asc {x : Str} (h : Asc x) : PyData.canLay0 (.str x) = true := by
  show x.cps.all (· < 0x110000) = true
  rw [Array.all_eq_true']
  intro c hc
  have := h c (by simpa [TL.tl] using hc)
  simp
  omega
def ReadS := Except Nat (List PyData)
/-- read: what is told of the rows from the line-th on; slots: those of the page that is begun -/
def readGo : List Str → Nat → List PyData → List PyData → Except Nat (List PyData)
  | [], line, slots, sheets => if slots = [] then .ok sheets else .error line
  | r :: rs, line, slots, sheets =>
    if slots.length < 8 then (if isSlot (slotWs (Txt.split r " ")) = true then readGo rs (line + 1) (slots ++ [slotWs (Txt.split r " ")]) sheets else .error line)
    else if isCells (cellWs (Txt.split r " ")) = true then readGo rs (line + 1) [] (sheets ++ [.tuple [.tuple slots, cellWs (Txt.split r " ")]]) else .error line
def readW (t : Str) : Except Nat (List PyData) := readGo (rowsW t) 0 [] []
theorem slot_fl : ∀ ws : List Str, flatD (slotWs ws) = true
  | [] => rfl
  | w :: ws => by
    show (flatD (.str w) && flatAll ((ws.take 3).map (fun x => numD (numO x)) ++ (ws.drop 3).map nextW)) = true
    have h : ∀ a b : List PyData, flatAll a = true → flatAll b = true → flatAll (a ++ b) = true := by
      intro a
      induction a with
      | nil => intro b _ h; exact h
      | cons d a ih =>
        intro b h1 h2
        have h1' := Bool.and_eq_true_iff.mp (show (flatD d && flatAll a) = true from h1)
        show (flatD d && flatAll (a ++ b)) = true
        rw [h1'.1, ih b h1'.2 h2] <;> rfl
    rw [h _ _ (flatAll_map (fun x => num_fl _) _) (flatAll_map next_fl _)] <;> rfl
theorem cell_fl : ∀ ws : List Str, flatD (cellWs ws) = true
  | [] => rfl
  | w :: ws => by
    by_cases h : w = "cells"
    · rw [cellWs_yes h]; exact flatAll_map (fun x => num_fl _) _
    · rw [cellWs_no h]; rfl
theorem num_can (o : Option Nat) : PyData.canLay0 (numD o) = true ∧ PyData.depth (numD o) = 0 := by cases o <;> exact ⟨rfl, rfl⟩
theorem all_can {α : Type} {g : α → PyData} {n : Nat} (h : ∀ x, PyData.canLay0 (g x) = true ∧ PyData.depth (g x) ≤ n) : ∀ l : List α, PyData.canLayAll0 (l.map g) = true ∧ PyData.depthAll (l.map g) ≤ n
  | [] => ⟨rfl, Nat.zero_le _⟩
  | x :: l => by
    obtain ⟨h1, h2⟩ := all_can h l
    refine ⟨?_, ?_⟩
    · show (PyData.canLay0 (g x) && PyData.canLayAll0 (l.map g)) = true
      rw [(h x).1, h1] <;> rfl
    · show max (PyData.depth (g x)) (PyData.depthAll (l.map g)) ≤ n
      exact Nat.max_le.mpr ⟨(h x).2, h2⟩
theorem next_can (w : Str) : PyData.canLay0 (nextW w) = true ∧ PyData.depth (nextW w) ≤ 1 := by
  unfold nextW
  by_cases h : w = "-"
  · rw [if_pos h]; exact ⟨rfl, Nat.zero_le _⟩
  · rw [if_neg h]
    obtain ⟨h1, h2⟩ := all_can (g := fun x => numD (numO x)) (n := 0) (fun x => ⟨(num_can _).1, Nat.le_of_eq (num_can _).2⟩) (Txt.split w ".")
    exact ⟨h1, Nat.succ_le_succ h2⟩
theorem canAll_app : ∀ {a b : List PyData} {n : Nat}, PyData.canLayAll0 a = true → PyData.canLayAll0 b = true → PyData.depthAll a ≤ n → PyData.depthAll b ≤ n → PyData.canLayAll0 (a ++ b) = true ∧ PyData.depthAll (a ++ b) ≤ n
  | [], _, _, _, h2, _, h4 => ⟨h2, h4⟩
  | d :: a, b, n, h1, h2, h3, h4 => by
    have h1' := Bool.and_eq_true_iff.mp (show (PyData.canLay0 d && PyData.canLayAll0 a) = true from h1)
    have h3' := Nat.max_le.mp (show max (PyData.depth d) (PyData.depthAll a) ≤ n from h3)
    obtain ⟨q1, q2⟩ := canAll_app h1'.2 h2 h3'.2 h4
    refine ⟨?_, Nat.max_le.mpr ⟨h3'.1, q2⟩⟩
    show (PyData.canLay0 d && PyData.canLayAll0 (a ++ b)) = true
    rw [h1'.1, q1] <;> rfl
theorem slot_sh : ∀ {ws : List Str}, (∀ w ∈ ws, Asc w) → SeqAt.shaped (slotWs ws) = true
  | [], _ => rfl
  | w :: ws, h => by
    obtain ⟨h1, h2⟩ := all_can (g := fun x => numD (numO x)) (n := 1) (fun x => ⟨(num_can _).1, by rw [(num_can _).2]; exact Nat.zero_le _⟩) (ws.take 3)
    obtain ⟨h3, h4⟩ := all_can (g := nextW) (n := 1) next_can (ws.drop 3)
    obtain ⟨h5, h6⟩ := canAll_app h1 h3 h2 h4
    have hc : PyData.canLay0 (slotWs (w :: ws)) = true := by
      show (PyData.canLay0 (.str w) && PyData.canLayAll0 _) = true
      rw [strOk_asc (h w List.mem_cons_self), h5] <;> rfl
    have hd : PyData.depth (slotWs (w :: ws)) ≤ 64 := by
      show max 0 (PyData.depthAll _) + 1 ≤ 64
      omega
    unfold SeqAt.shaped
    rw [hc, decide_eq_true hd] <;> rfl
end GX
set_option maxHeartbeats 2000000
/-! errors that carry fields: isinstance of them; super().__init__(..) in their making -/
namespace GX
open PySem PySem.Spec PySem.Calls PyProof.Rows L2 LamX
open PySem.W (Looks InstAt findObj findIn specialIn takesIn clsIn looks_findIn looks_find looks_subIn class_get KitX)
section
variable {prog : Program} {w : World} {A : Around} {E : Value → Shared → Prop} {s : Shared} {K : PySem.W.Frag} {x D : Addr} {ox : Obj} {od : Option Obj}
theorem excC_cls (c : ExcC K D) : ∃ cd, clsIn K D = some cd := by
  obtain ⟨cd, e, _⟩ := PySem.W.any_some c.hd
  exact ⟨cd, e⟩
theorem clsIn_at {cd : ClassData} (e : clsIn K D = some cd) : ∃ c' d' sl, K.lookup D = some ⟨c', d', .cls cd, sl⟩ := by
  unfold PySem.W.clsIn at e
  split at e
  · rename_i c' d' cd' sl' ho
    cases e
    exact ⟨_, _, _, ho⟩
  · cases e
theorem exc_clsObj (c : ExcC K D) : findObj K D od "__class__" = some (.bind (.builtin "getset_descriptor.__get__") (.builtin "object.__class__")) := by
  obtain ⟨cd, e⟩ := excC_cls c
  unfold PySem.W.findObj
  rw [e, Option.bind_some, c.ha, Option.bind_some]
  simp [c.hn, c.ht]
/-- e.__class__ of an error, whatever fields it carries -/
theorem exc_cls {Q : Option Value → Shared → Prop} (c : ExcC K D) (X : K.In s.heap) (J : InstAt s.heap x ox D od) (q : Q (some (.ref D)) { s with toks := s.toks + 1 }) : wpAny (model prog w) A (getAttr? (.ref x) "__class__") Q E s := by
  obtain ⟨hp, g, d, t, os⟩ := s
  have l0 := J.type (M := model prog w)
  have l1 := looks_findIn (M := model prog w) X c.hg
  have l2 := looks_findIn (M := model prog w) X c.hk
  have l3 := looks_find (M := model prog w) X J (exc_clsObj c)
  have lsub : Looks (model prog w) hp (isInstance (.ref x) (.type "BaseException")) true := l0.andThen (looks_subIn X c.hs)
  have nob : (Value.builtin "BaseException.__getattribute__" == Value.builtin "object.__getattribute__") = false := by decide +kernel
  unfold getAttr? getAttrBy? getAttrBy
  refine wpAny_bind (wpAny_mkText (wpAny_bind ?_))
  refine wpAny_attempt (wpAny_holding (wpAny_bind ?_))
  refine l0.at (wpAny_bind (l1.at ?_))
  show wpAny _ _ (if (onTheHeap (.ref D) && Value.builtin "BaseException.__getattribute__" == Value.builtin "object.__getattribute__") = true then _ else _) _ _ _
  rw [show (onTheHeap (.ref D) && Value.builtin "BaseException.__getattribute__" == Value.builtin "object.__getattribute__") = false by rw [nob]; rfl]
  rw [if_neg Bool.false_ne_true]
  unfold getAttrByItsOwn hookBefore
  refine wpAny_bind ?_
  rw [if_pos (show onTheHeap (.ref D) = true by rfl)]
  refine l2.at (wpAny_bind ?_)
  refine wpAny_attempt (wpAny_holding ?_)
  unfold callGetattribute
  rw [show (false && onTheHeap (Value.builtin "BaseException.__getattribute__")) = false by rfl]
  rw [if_neg Bool.false_ne_true]
  unfold boundAndCalled
  rw [PySem.F.excAttr_ValueError.ga.bind (.ref x)]
  refine wpAny_bind (wpAny_pure ?_)
  show wpAny (model prog w) A (call (.builtin "BaseException.__getattribute__") [.ref x, .str "__class__" t]) _ _ ⟨hp, g, d, t + 1, os⟩
  refine wpAny_call ?_
  refine codeAny_call_builtin PySem.F.excAttr_ValueError.ga.plain PySem.F.entry_bexc_ga ?_
  have args := PySem.F.args_bexc_ga (.ref x) (.str "__class__" t)
  refine @PySem.W.check_slot (model prog w) _ _ ⟨hp, g, d, t + 1, os⟩ "BaseException.__getattribute__"
    "BaseException" "__getattribute__" (.ref x) [.str "__class__" t] [] _ ?_ ?_ lsub args ?_
  · decide +kernel
  · decide +kernel
  unfold Builtin.«object.__getattribute__»
  refine wpAny_bind ?_
  refine wpAny_of_eq (a := ((Value.ref x : Value), [Value.str "__class__" t])) ?_ ?_
  · first | rfl | (simp only [slotArgs]; rfl)
  refine wpAny_bind (wpAny_pure (wpAny_bind ?_))
  refine l0.at (wpAny_bind (l3.at ?_))
  show wpAny (model prog w) _ (holding [Value.builtin "object.__class__"] (call (.builtin "getset_descriptor.__get__") [.builtin "object.__class__", .ref x, .ref D]) >>= ret) _ _ _
  refine wpAny_bind (wpAny_holding ?_)
  refine wpAny_call (class_get (s := ⟨hp, g, d, t + 1, os⟩) (ox := ox) (od := od) X J c.hm ?_)
  refine wpAny_pure ?_
  show wpAny _ _ (handedOut (.ref D)) _ _ _
  rw [PySem.W.handedOut_of (v := .ref D) rfl]
  first | exact wpAny_pure (wpAny_pure q) | exact wpAny_pure q | exact wpAny_pure (wpAny_bind (wpAny_pure (wpAny_pure q)))
theorem exc_kit (c : ExcC K D) : KitX K (.ref x) (.ref D) (fun h => InstAt h x ox D od) where
  ty := fun _ _ _ J => J.type
  it := fun _ _ X _ => by
    obtain ⟨cd, e⟩ := excC_cls c
    obtain ⟨c', d', sl, ho⟩ := clsIn_at e
    intro A' Q' E' s' k q
    unfold isType loadHead
    exact wpAny_bind (wpAny_loadPart (k _ _ (X _ _ ho)) (wpAny_pure q))
  ne := fun h tp dd its n sl X ht => by
    obtain ⟨cd, e⟩ := excC_cls c
    obtain ⟨c', d', sl', ho⟩ := clsIn_at e
    refine Bool.eq_false_iff.mpr fun q => ?_
    have e2 : D = tp := Value.ref.inj (beq_iff_eq.mp q)
    subst e2
    have z := (X _ _ ho).symm.trans ht
    cases z
  ca := fun X J k => exc_cls c X J k
end
/-- isinstance(e, c), e the error that the suite holds, its fields at dd -/
def rIsD (K : PySem.W.Frag) (D a dd : Addr) : List V → Hp → VK → Prop := fun xs H Q => ∃ (c : V) (cv : Value) (b : Bool) (fs : List (Str × V)), xs = [.ref a, c] ∧ (∀ u, RelV c u → u = cv) ∧ PySem.W.kitOne K (.ref D) cv = some b ∧ H dd = some (.xd fs) ∧ Q (.bl b) H
theorem call_isD {X : Cx} {a D dd : Addr} {oe : Obj} {pn : List (Addr × Obj)} (C : ExcC X.K D) (hz : Zc (.ref D) (some dd) oe) (hf : ∃ vs, oe.data = .fields vs) : CallR (X.suite a ((a, oe) :: pn)) (.builtin "isinstance") (rIsD X.K D a dd) := by
  intro pins s σ H xs us Q I r h
  obtain ⟨c, cv, b, fs, rfl, hcv, e, ed, q⟩ := h
  cases r with
  | cons rx rr =>
    cases rr with
    | cons rt rr =>
      cases rr
      cases rx
      have ec := hcv _ rt
      subst ec
      obtain ⟨ga, _⟩ := I.pin (a, oe) (List.mem_append.mpr (.inl List.mem_cons_self))
      obtain ⟨vs, hv⟩ := hf
      have hx : ObjOk X.prog X.w H s.heap dd (.xd fs) := I.hok dd _ ed
      obtain ⟨mA, hns, _⟩ := hx
      obtain ⟨od, ho, _⟩ := lookIn_ns hns
      have J : InstAt s.heap a oe D (some od) := by
        refine ⟨ga, hz.1, ?_, ?_⟩
        · unfold PySem.W.notCls; rw [hv] <;> rfl
        · rw [hz.2]; exact ho
      exact PySem.W.kia_one (exc_kit C) I.kIn J e (fun z => nomatch z) fun tk => ⟨.bl b, H, I.kept (t' := tk) fun _ _ z => z, rfl, q⟩
end GX
/-! BadText.__init__: super().__init__(a text), then a field -/
namespace GX
open PySem PySem.Spec PySem.Calls PyProof.Rows L2 LamX
open PySem.W (Looks InstAt findObj findIn specialIn takesIn clsIn looks_findIn looks_find looks_subIn class_get KitX fnX envX kxs_mw)
section
variable {prog : Program} {w : World} {A : Around} {E : Value → Shared → Prop} {h : Heap} {g : Array GenState} {d : Drawn} {t : Nat} {os : OsState}
variable {nm q : Str} {C N : Addr} {bs bm : List Value} {sn : List Str} {sub : List Value} {ab : Bool} {col : Option Bool} {dd : Option Addr} {k0 k1 k2 k3 k5 : Option Value}
/-- the built-in __init__ that super() bound, called -/
theorem call_mw {u x t0 : Addr} {rest : List Value} {Q : Value → Shared → Prop} (hC : h.get? C = some (excClassObj nm q C N bs bm true sn sub ab col dd k0 k1 k2 k3 k5 "ValueError.__new__"))
    (he : h.get? x = some (PySem.HandSPX.excO C t0)) (hu : h.get? u = some (kxs_mw "ValueError.__init__" x)) (hr : rest.length ≤ sizeLine)
    (hq : ∀ h' t1, (∀ b o, b ≠ x → h.get? b = some o → h'.get? b = some o) → h'.get? x = some (PySem.HandSPX.excO C t1) → Q .none ⟨h', g, d, t, os⟩) :
    wpAny (model prog w) A (call (.ref u) rest) Q E ⟨h, g, d, t, os⟩ := by
  have FB := PySem.F.excBase_ValueError
  refine wpAny_call (codeAny_of_tree ?_)
  show wpAny (model prog w) A.in1 (callAny (.ref u) ⟨rest, []⟩) _ _ ⟨h, g, d, t, os⟩
  unfold callAny
  refine wpAny_bind (wpAny_load hu ?_)
  simp only [kxs_mw]
  rw [show (Value.type "method-wrapper" == Value.type "method" || Value.type "method-wrapper" == Value.type "builtin_function_or_method" || Value.type "method-wrapper" == Value.type "method-wrapper") = true from by decide]
  simp only [if_true]
  refine PySem.W.KFB.if_so (by decide) ?_
  refine wpAny_bind (PySem.W.check_bound_init FB.toExcCallFacts hC he rfl ?_)
  refine wpAny_bind (wpAny_pure (wpAny_pure ⟨plainId_quiet FB.init.plain _, codeAny_builtin FB.initEntry ?_⟩))
  rw [Around.under_plainId FB.init.plain _]
  wp_walk
  refine hq _ h.objs.size (fun b o hb ho => ?_) ?_
  · rw [Heap.get?_update_other _ _ (Ne.symm hb)]
    exact Heap.get?_push_of_some _ ho
  · rw [Heap.get?_update_self _ (Heap.get?_push_of_some _ he) rfl]
    rfl
end

/-- what the written part says of an error's __init__ that calls super's -/
structure BtC (P : Program) (K : PySem.W.Frag) (mg : Str → Option Value) (D f : Addr) (fd : FuncData) (cc cda : Addr) : Prop where
  fn : ∃ (oc : Value) (od : Option Addr) (dV kV doc pm : Value) (an : Option Addr) (ct : Value) (osl : Array (Option Value)),
    fd = fnX "__init__" "BadText.__init__" (defArgs s_BtInit) (defBody s_BtInit) (defScope s_BtInit) [("__class__", cc)] dV kV doc pm an (.ref cda) ct ∧ K.lookup f = some ⟨oc, od, .func fd, osl⟩
  code : PySem.W.codeIn K (.ref cda) "BadText.__init__" = true
  file : ∃ (ccl : Value) (cdd : Option Addr) (vs : Array Value) (ccs : Array (Option Value)) (file : Str) (tf : Tok), K.lookup cda = some ⟨ccl, cdd, .fields vs, ccs⟩ ∧ vs[2]? = some (.str file tf) ∧ ((P.main.file : Str) == file) = true
  cell : ∃ (cl : Value) (cld : Option Addr) (csl : Array (Option Value)), K.lookup cc = some ⟨cl, cld, .cell (some (.ref D)), csl⟩
  cls : ∃ cd, clsIn K D = some cd
  sub : PySem.W.mroIn K D (.ref D) = some true
  sup : mg "super" = none
  top : (P.main.scope.names.lookup ("super" : Str)).isSome = false
  sin : PySem.W.ks_superIn K D D "__init__" = some (some (.builtin "ValueError.__init__"))
  isv : PySem.W.subIn K (.ref D) (.type "ValueError") = some true
  opq : PySem.W.nsIn K cStatics "thirdparty.any" = some none
  oex : OexC K D
  noat : findIn K (.ref D) "line" = some none
abbrev btN : List Str := ["self", "line"]
/-- BadText(line): the error has a dict of its own that holds line -/
def spBT (D : Addr) : Sp := fun vs H Q _ => ∃ (a : Addr) (n : Int), vs = [.ref a, .int n] ∧ n.natAbs.log2 < 1920 ∧ H a = some (exo a D none) ∧ ∀ dx, H dx = none → dx ≠ a → Q .non (upd (upd H dx (exd dx [("line", .int n)])) a (exo a D (some dx)))
def bCx (CX : CXT) (P : Program) (w : World) (K : PySem.W.Frag) (mg : Str → Option Value) (base : Heap) (f cda cc : Addr) (A : Around) (outer : List Env) (s : Shared) (H : Hp) (E : XK) : Cx where
  prog := P
  w := w
  K := K
  mg := mg
  base := base
  A := A.deeper (envX "BadText.__init__" (defScope s_BtInit) s.heap.objs.size f (.ref cda) [("__class__", cc)])
  N := btN
  s_0 := s
  H_0 := H
  env := envX "BadText.__init__" (defScope s_BtInit) s.heap.objs.size f (.ref cda) [("__class__", cc)]
  outer := outer
  stack := envX "BadText.__init__" (defScope s_BtInit) s.heap.objs.size f (.ref cda) [("__class__", cc)] :: outer
  ex := []
  fn := fun _ => false
  calm := true
  pn := []
  xe := fun e s' => wpAny (model P w) (A.deeper (envX "BadText.__init__" (defScope s_BtInit) s.heap.objs.size f (.ref cda) [("__class__", cc)])) (leaving (envX "BadText.__init__" (defScope s_BtInit) s.heap.objs.size f (.ref cda) [("__class__", cc)]) e)
    (fun _ s'' => CX outer H s E e s'') (fun e' s'' => CX outer H s E e' s'') s'
theorem bt_self : (defScope s_BtInit).names.lookup ("self" : Str) = some .local := by decide +kernel
theorem bt_line : (defScope s_BtInit).names.lookup ("line" : Str) = some .local := by decide +kernel
theorem bt_scope : ((defScope s_BtInit).names.all fun y => !decide (y.2 = .cell) && (!decide (y.2 = .free) || decide (y.1 = "__class__"))) = true := by decide +kernel
section
variable {P : Program} {w : World} {K : PySem.W.Frag} {mg : Str → Option Value} {base : Heap} {D f cc cda : Addr} {fd : FuncData} {CX : CXT}
theorem bt_inv (B : BtC P K mg D f fd cc cda) {A : Around} {outer : List Env} {s : Shared} {H : Hp} {E : XK} {a : Addr} {n : Int} {tn : Tok} {h₁ : Heap} {t : Nat} (hd : A.handled = none) (e0 : Env0 P w K mg base A outer s H)
    (hns : h₁.Ns s.heap.objs.size (fun x => ([("self", .ref a), ("line", .int n tn)] : List (Str × Value)).reverse.lookup x)) (kp : ∀ b o, s.heap.get? b = some o → h₁.get? b = some o) :
    Inv (bCx CX P w K mg base f cda cc A outer s H E) [] [some (.ref a), some (.int n)] H { s with heap := h₁, toks := t } := by
  obtain ⟨cl, cld, csl, hc⟩ := B.cell
  have hb : base.get? cc = some ⟨cl, cld, .cell (some (.ref D)), csl⟩ := e0.mod.kin _ _ hc
  have noA : ∀ b : Addr, b ∉ (bCx CX P w K mg base f cda cc A outer s H E).ex := fun b z => absurd (show b ∈ ([] : List Addr) from z) (by simp)
  have lk1 : ∀ {y c}, (([("__class__", cc)] : List (Str × Addr)).lookup y = some c) → y = "__class__" ∧ c = cc := fun {y c} e => by
    rw [List.lookup_cons] at e
    split at e
    · rename_i q
      exact ⟨eq_of_beq q, (Option.some.inj e).symm⟩
    · cases e
  refine ⟨⟨e0.mod, rfl, rfl, rfl, Nat.le_refl _, fun y z c q1 q2 => ?_, fun y hy => ?_, fun y c z _ => absurd (show false = true from z) Bool.false_ne_true, fun _ => hd, Around.frames_deeper e0.frames, .inr ⟨rfl, rfl⟩, fun b z => absurd z (noA b), e0.bs, e0.bsz, fun b _ _ => noA b,
      fun b z => absurd z (noA b), e0.funs, e0.frf⟩,
    rfl, e0.bare, Un.kept kp, ⟨_, hns, fun i y v q1 q2 q3 => ?_⟩, fun y c e => ?_, e0.hok.fresh (Nat.le_refl _), fun y c e => ?_, fun p hp => absurd (show p ∈ ([] : List (Addr × Obj)) from hp) (by simp), e0.hok.kept kp, rfl⟩
  · exact (lk1 q1).1.trans (lk1 q2).1.symm
  · have hy : (defScope s_BtInit).names.lookup y = some .cell ∨ (defScope s_BtInit).names.lookup y = some .free := hy
    have q := List.all_eq_true.mp bt_scope
    rcases hy with hy | hy
    · have z := q _ (PySem.mem_of_lookup hy)
      simp at z
    · have z := q _ (PySem.mem_of_lookup hy)
      simp at z
      rw [z]
      exact ⟨cc, rfl⟩
  · match i, q1, q2 with
    | 0, q1, q2 =>
      cases q1
      cases q2
      exact ⟨_, rfl, .inl ⟨bt_self, rfl⟩⟩
    | 1, q1, q2 =>
      cases q1
      cases q2
      exact ⟨_, ⟨tn, rfl⟩, .inl ⟨bt_line, rfl⟩⟩
  · obtain ⟨rfl, rfl⟩ := lk1 e
    exact ⟨_, _, kp _ _ (e0.bs _ _ hb).1, rfl⟩
  · obtain ⟨rfl, rfl⟩ := lk1 e
    exact (e0.bs _ _ hb).2
end
end GX
set_option maxHeartbeats 4000000
/-! BadText.__init__ keeps its promise -/
namespace GX
open PySem PySem.Spec PySem.Calls PyProof.Rows L2 LamX
open PySem.W (Looks InstAt findObj findIn specialIn takesIn clsIn looks_findIn looks_find looks_subIn class_get KitX fnX envX kxs_mw)
section
variable {P : Program} {w : World} {K : PySem.W.Frag} {mg : Str → Option Value} {base : Heap} {D f cc cda : Addr} {fd : FuncData} {CX : CXT} {k : Nat}
theorem bt_fits {n : Int} (hn : n.natAbs.log2 < 1920) : (("row " : Str) ++ (toString n : String)).length ≤ sizeLine ∧ (("row " : Str) ++ (toString n : String) ++ (" can't be read" : Str)).length ≤ sizeLine := by
  have e := int_text_length_le (k := 1920) (by decide) hn
  have e2 := PySem.ofString_length (toString n)
  have l1 : ("row " : Str).length = 4 := by decide +kernel
  have l2 : (" can't be read" : Str).length = 14 := by decide +kernel
  have ap : ∀ x y : Str, (x ++ y).length = x.length + y.length := fun x y => by rw [TL.len_tl, TL.tl_append, List.length_append, ← TL.len_tl, ← TL.len_tl]
  rw [ap, ap, ap, l1, l2, sizeLine_eq]
  omega
theorem bt_super : (defScope s_BtInit).names.lookup ("super" : Str) = some .globalImplicit := by decide +kernel
theorem bt_class : (defScope s_BtInit).names.lookup ("__class__" : Str) = some .free := by decide +kernel
theorem ok_btinit (B : BtC P K mg D f fd cc cda) : FnOk P w K mg base CX (k + 1) f fd btN (spBT D) := by
  refine ⟨fun vs H Q E h => by obtain ⟨a, n, rfl, _⟩ := h; rfl, fun A outer s H args us vs Q E hr e0 hb r hsp => ?_⟩
  obtain ⟨a, n, rfl, hn, ha, kk⟩ := hsp
  cases r with
  | cons r0 r =>
  rename_i u0 us
  cases r with
  | cons r1 r =>
  rename_i u1 us
  cases r
  obtain rfl : u0 = .ref a := r0
  obtain ⟨tn, rfl⟩ := r1
  obtain ⟨oc, od, dV, kV, doc, pm, an, ct, osl, rfl, lk⟩ := B.fn
  have KX : K.In s.heap := e0.mod.kin.keeps fun b o e => (e0.bs b o e).1
  have lim : s.heap.NoLimit := e0.mod.nolimit.keeps fun b o e => (e0.bs b o e).1
  obtain ⟨ccl, cdd, vs, ccs, file, tf, lc, hvs, hfile⟩ := B.file
  obtain ⟨cl, cld, csl, lcell⟩ := B.cell
  obtain ⟨cd, hcd⟩ := B.cls
  obtain ⟨c', d', sl, lD⟩ := clsIn_at hcd
  obtain ⟨nm, qq, N, bs, bm, sn, sub, ab, col, dd, k0, k1, k2, k3, k5, hC, hbm⟩ := B.oex.cls
  refine ks_codeAny_call_defAt (binds := [("self", .ref a), ("line", .int n tn)]) (body := defBody s_BtInit) hr.depth (KX _ _ lk) rfl lim (PySem.W.codeRec_of KX B.code) rfl hb (fun y hy => ?_) (fun y hy => ?_) (fun h₁ hns kp => ?_)
  · have q := List.all_eq_true.mp bt_scope y hy
    intro z
    rw [z] at q
    simp at q
  · rcases List.mem_cons.mp hy with e | hy
    · rw [e]; exact bt_self
    · rw [List.mem_singleton.mp hy]; exact bt_line
  have J : Inv (bCx CX P w K mg base f cda cc A outer s H E) [] [some (.ref a), some (.int n)] H { s with heap := h₁, toks := s.toks + 2 } := bt_inv B hr.hd e0 hns kp
  obtain ⟨hp, g, d, t, os⟩ := s
  have KX1 : K.In h₁ := KX.keeps kp
  show _root_.PySem.wpAt (model P w) (A.deeper (envX "BadText.__init__" (defScope s_BtInit) hp.objs.size f (.ref cda) [("__class__", cc)])) (.func (defBody s_BtInit) (envX "BadText.__init__" (defScope s_BtInit) hp.objs.size f (.ref cda) [("__class__", cc)])) (execs (defBody s_BtInit) (envX "BadText.__init__" (defScope s_BtInit) hp.objs.size f (.ref cda) [("__class__", cc)])) _ (bCx CX P w K mg base f cda cc A outer ⟨hp, g, d, t, os⟩ H E).xe ⟨h₁, g, d, t + 2, os⟩
  refine ks_wpAt_execs_cons (ks_wpAt_Expr_any (ks_wpAt_MethodCall ?_))
  refine ks_wpAt_super_base bt_super bt_class (by decide) rfl (KX1 _ _ lk) rfl rfl rfl (KX1 _ _ lc) rfl hvs hfile B.top ?_
  refine PySem.W.ks_loadName_global rfl bt_super ?_
  obtain ⟨mb, hb1, hb2⟩ := J.mod.blt
  refine loadGlobal_builtin (J.mod.glob.keeps J.bk) B.sup (hb1.keeps J.bk) ((hb2 _ (by decide)).trans (by decide +kernel : bootBuiltins "super" = some (.type "super"))) ⟨rfl, ?_⟩
  refine wpAny_loadName_free rfl bt_class rfl ⟨_, KX1 _ _ lcell, rfl⟩ ?_
  refine wpAny_loadName_local rfl bt_self hns rfl ?_
  refine ks_wpAny_isType_cls (KX1 _ _ lD) rfl ⟨rfl, ?_⟩
  obtain ⟨t0, ho⟩ := exo_at J.hok ha
  refine ks_wpAny_call_super (KX1 _ _ lD) rfl ho rfl (fun c z => by cases z) (PySem.W.looks_mroIn KX1 B.sub) (fun h2 e2 kp2 => ?_)
  have J2 := J.kept (t' := t + 2) (h' := h2) kp2
  have KX2 : K.In h2 := KX1.keeps kp2
  have hin : Looks (model P w) h2 (isInstance (.ref a) (.type "ValueError")) true := (InstAt.type (ox := PySem.HandSPX.excO D t0) (od := none) ⟨kp2 _ _ ho, rfl, rfl, trivial⟩).andThen (looks_subIn KX2 B.isv)
  have hmro : Looks (model P w) h2 (mroOf (.ref D)) cd.mro := (PySem.W.looks_clsIn KX2 hcd).andThen .now
  have hsin : PySem.W.alongIn K "__init__" ((cd.mro.dropWhile (· != .ref D)).drop 1) = some (some (.builtin "ValueError.__init__")) := by
    have z := B.sin
    unfold PySem.W.ks_superIn at z
    rw [hcd] at z
    exact z
  have naD : a ≠ D := fun z => by
    have q := kp2 _ _ ho
    rw [z, KX2 _ _ lD] at q
    cases q
  refine PySem.W.kxs_getMethod PySem.W.kxs_ValueError e2 (PySem.W.looks_opaque KX2 B.opq) hmro rfl KX2 hsin hin naD (by decide) ?_
  have kp3 : ∀ b o, h2.get? b = some o → (h2.push (kxs_mw "ValueError.__init__" a)).get? b = some o := fun b o e => Heap.get?_push_of_some _ e
  have J3 := J2.kept (t' := t + 3) (h' := h2.push (kxs_mw "ValueError.__init__" a)) kp3
  obtain ⟨q1, q2, q3, q4, q5⟩ := fresh_facts J2 (f := h2.objs.size) (Nat.le_refl _)
  have J4 : Inv (bCx CX P w K mg base f cda cc A outer ⟨hp, g, d, t, os⟩ H E) [(h2.objs.size, kxs_mw "ValueError.__init__" a)] [some (.ref a), some (.int n)] H ⟨h2.push (kxs_mw "ValueError.__init__" a), g, d, t + 3, os⟩ := J3.pins_of fun p hp => by
    rw [List.mem_singleton.mp hp]
    exact ⟨Heap.get?_push_size _ rfl, q1, q3, J2.nofs (Nat.le_refl _), fun v z => by cases z⟩
  refine PySem.W.kxs_callWith (i := "ValueError.__init__") (x := a) rfl ?_
  refine evalArgs_plain ?_
  refine thn (PA.run (X := bCx CX P w K mg base f cda cc A outer ⟨hp, g, d, t, os⟩ H E) (pa_cons (pe_joined (.cons pe_str (.cons (pe_fmt (pv 1 rfl (.inl bt_line))) (.cons pe_str .nil)))) pa_nil) _ [(h2.objs.size, kxs_mw "ValueError.__init__" a)] _ [some (.ref a), some (.int n)] H (fun vs H1 => (∃ m, vs = [.str m]) ∧ H1 = H) J4 ?_) fun us s1 hh => ?_
  · exact ⟨_, rfl, by decide +kernel, .int n, rfl, .inr ⟨n, rfl, hn, _, rfl, (bt_fits hn).1, _, rfl, (bt_fits hn).2, ⟨_, rfl⟩, rfl⟩⟩
  obtain ⟨vs1, H1, J5, r5, ⟨m, rfl⟩, rfl⟩ := hh
  have pin := J5.pin (h2.objs.size, kxs_mw "ValueError.__init__" a) (by simp)
  refine ⟨pin.1, ?_⟩
  obtain ⟨t1, ho1⟩ := exo_at J5.hok ha
  obtain ⟨h5, g5, d5, tk5, os5⟩ := s1
  refine call_mw (J5.kIn _ _ hC) ho1 pin.1 (by show us.length ≤ sizeLine; rw [← r5.length, sizeLine_eq]; exact (by decide : 1 ≤ 16777216)) (fun h6 t6 kp6 ho6 => ?_)
  have J6 := J5.write (t' := tk5) (h' := h6) (x := a) (e := a) (o := exo a D none) (by rw [ha]; exact True.intro) (.inl rfl) kp6 ⟨_, ho6⟩ (exo_ok ho6)
  have eu : upd H1 a (exo a D none) = H1 := by
    funext b
    by_cases hb : b = a
    · rw [hb, upd_same, ha]
    · rw [upd_ne hb]
  rw [eu] at J6
  refine wpAt_of_wpAny ?_
  refine wpAny_mono (PSs.run (X := bCx CX P w K mg base f cda cc A outer ⟨hp, g, d, t, os⟩ H1 E) (pss_one (ps_ost (pv 0 rfl (.inl bt_self)) (pv 1 rfl (.inl bt_line)))) [] _ [some (.ref a), some (.int n)] H1 { nx := fun _ H' => Q .non H', rt := Q } (J6.pins_of fun p hp => absurd hp (by simp)) ?_) (fun fl s' hs => ?_) fun e s' hs => hs
  · exact ⟨.int n, rfl, .ref a, rfl, a, D, rfl, B.oex, B.noat, .inl ⟨ha, fun dx q1 q2 => kk dx q1 q2⟩⟩
  · cases fl with
    | ret u =>
      obtain ⟨v, σ', H', J', rv, q⟩ := hs
      exact ⟨v, H', J'.os, J'.bare, J'.base, J'.hok, rv, q⟩
    | next =>
      obtain ⟨σ', H', J', q⟩ := hs
      exact ⟨.non, H', J'.os, J'.bare, J'.base, J'.hok, rfl, q⟩
    | brk =>
      obtain ⟨_, _, _, q⟩ := hs
      exact False.elim q
    | cont =>
      obtain ⟨_, _, _, q⟩ := hs
      exact False.elim q
end
end GX
set_option maxHeartbeats 2000000
namespace GX
open PySem PySem.Spec PyProof.Rows L2 LamX
section
variable {P : Program} {w : World} {K : PySem.W.Frag} {mg : Str → Option Value} {base : Heap} {T : List (Addr × Str)} {cE : Addr} {cs : Fin 9 → Addr}
theorem sc_told : FnScope ["_law_work", "e", "_law_kinds", "_law_words", "_law_word"] ["_law_work"] (defScope s_told) := ⟨rfl, rfl, rfl, by decide +kernel, rfl, by decide +kernel, by decide +kernel⟩
def suiteOf (st : Stmt) : List Stmt := match defBody st with
  | [.Try _ [.ExceptHandler _ _ su _] _ _ _] => su
  | _ => []
abbrev toldN : List Str := ["_law_work", "e", "_law_kinds", "_law_words", "_law_word"]
theorem t_isE {C a : Addr} {σ : L2.St} {H : Hp} {Q : VK} {i : Fin 9} (j : Fin 9) (hσ : σ[1]? = some (some (.ref a))) (hC : EIs K cE cs i C) (q : Q (.bl (decide (j = i))) H) : tCB (rIsE K C a) (tCons (tVar 1) (tCons (tC (.ref (cs j))) tNil)) σ H Q :=
  ⟨_, hσ, .ref (cs j), .ref (cs j), _, rfl, fun u r => r, hC.is_ j, q⟩
def kinds (i : Fin 9) : List V := [.bl (decide ((0 : Fin 9) = i)), .bl (decide ((1 : Fin 9) = i)), .bl (decide ((2 : Fin 9) = i)), .bl (decide ((3 : Fin 9) = i)), .bl (decide ((4 : Fin 9) = i)), .bl (decide ((5 : Fin 9) = i)), .bl (decide ((6 : Fin 9) = i)), .bl (decide ((7 : Fin 9) = i)), .bl (decide ((8 : Fin 9) = i))]
def wordsV : List V := [.str "BadCount", .str "BadDisk", .str "BadPage", .str "BadRow", .str "BadText", .str "Full", .str "NoPage", .str "NoRow", .str "Stopped"]
theorem kinds_flat : ∀ i : Fin 9, (kinds i).all flatV = true := by decide +kernel
theorem kinds_count : ∀ i : Fin 9, ((kinds i).countP fun z => eqV z (.bl true)) = 1 := by decide +kernel
theorem kinds_at : ∀ i : Fin 9, (kinds i)[i.1]? = some (.bl true) := by decide +kernel
theorem kinds_no0 : ∀ i m : Fin 9, m.1 < i.1 → (((kinds i)[m.1]?).all fun z => !eqV z (.bl true)) = true := by decide +kernel
theorem kinds_no (i : Fin 9) (m : Nat) (z : V) (h : m < i.1) (e : (kinds i)[m]? = some z) : eqV z (.bl true) = false := by
  have q := kinds_no0 i ⟨m, by omega⟩ h
  rw [show (kinds i)[(⟨m, by omega⟩ : Fin 9).1]? = some z from e] at q
  simpa using q
theorem words_at : ∀ i : Fin 9, wordsV[i.1]? = some (.str (wordsE.getD i.1 "")) := by decide +kernel
theorem words_no : ∀ i : Fin 9, i.1 ≠ 4 → decide (V.str (wordsE.getD i.1 "") = V.str "BadText") = false := by decide +kernel
/-- the suite of _law_told's except clause, by what it comes to -/
def tToldS (K : PySem.W.Frag) (T : List (Addr × Str)) (cE : Addr) (cs : Fin 9 → Addr) (a : Addr) (cls : Value) (d : Option Addr) : TS := fun D σ H => ∃ (i : Fin 9) (C : Addr) (g : Option V) (b2 b3 b4 : Option V), cls = .ref C ∧ d = none ∧ i.1 ≠ 4 ∧ EIs K cE cs i C ∧ σ = [g, some (.ref a), b2, b3, b4] ∧ H a = none ∧ ∀ H' v, XX T H H' → Dp K H' v (toldD i) → D.rt v H'
theorem told_suite {f : Addr} {cdv : Value} {A : Around} {outer : List Env} {s : Shared} {H : Hp} {E : XK} {a : Addr} {oe : Obj} {pn : List (Addr × Obj)} {cls : Value} {d : Option Addr} (B : Blt mg) (bv : mg "ValueError" = none) (G : ETab mg cE cs) (hz : Zc cls d oe) (hf : ∃ vs, oe.data = .fields vs) :
    PSs ((cxOf CX0 P w K mg base toldN "_law_told" (defScope s_told) f cdv A outer s H E).nox.suite a ((a, oe) :: pn)) (suiteOf s_told) (tToldS K T cE cs a cls d) := by
  have nd := sc_told.nd
  refine ⟨fun pins s σ H D I h => ?_⟩
  obtain ⟨i, C, g, b2, b3, b4, rfl, rfl, hn4, hC, rfl, ha, k⟩ := h
  refine PSs.run (
      pss_cons (ps_set (i := 2) nd rfl (Or.inl rfl) (pe_lst (pa_cons (pe_callB (call_isE hC.ex hz hf) (by rfl) B.isi k_isi (pa_cons (pv 1) (pa_cons (pe_glob (by rfl) G.g0 (v := .ref (cs 0)) rfl) pa_nil)))
        (pa_cons (pe_callB (call_isE hC.ex hz hf) (by rfl) B.isi k_isi (pa_cons (pv 1) (pa_cons (pe_glob (by rfl) G.g1 (v := .ref (cs 1)) rfl) pa_nil)))
        (pa_cons (pe_callB (call_isE hC.ex hz hf) (by rfl) B.isi k_isi (pa_cons (pv 1) (pa_cons (pe_glob (by rfl) G.g2 (v := .ref (cs 2)) rfl) pa_nil)))
        (pa_cons (pe_callB (call_isE hC.ex hz hf) (by rfl) B.isi k_isi (pa_cons (pv 1) (pa_cons (pe_glob (by rfl) G.g3 (v := .ref (cs 3)) rfl) pa_nil))) pa_nil))))))
      (pss_cons (ps_set (i := 2) nd rfl (Or.inl rfl) (pe_op op_cat (pv 2) (pe_lst (pa_cons (pe_callB (call_isE hC.ex hz hf) (by rfl) B.isi k_isi (pa_cons (pv 1) (pa_cons (pe_glob (by rfl) G.g4 (v := .ref (cs 4)) rfl) pa_nil)))
        (pa_cons (pe_callB (call_isE hC.ex hz hf) (by rfl) B.isi k_isi (pa_cons (pv 1) (pa_cons (pe_glob (by rfl) G.g5 (v := .ref (cs 5)) rfl) pa_nil)))
        (pa_cons (pe_callB (call_isE hC.ex hz hf) (by rfl) B.isi k_isi (pa_cons (pv 1) (pa_cons (pe_glob (by rfl) G.g6 (v := .ref (cs 6)) rfl) pa_nil)))
        (pa_cons (pe_callB (call_isE hC.ex hz hf) (by rfl) B.isi k_isi (pa_cons (pv 1) (pa_cons (pe_glob (by rfl) G.g7 (v := .ref (cs 7)) rfl) pa_nil))) pa_nil)))))))
      (pss_cons (ps_expr (pe_bm PySem.F.plainAttrs_list PySem.F.slot_list_append PySem.F.type_list_append mt_append (pv 2) (pa_cons (pe_callB (call_isE hC.ex hz hf) (by rfl) B.isi k_isi (pa_cons (pv 1) (pa_cons (pe_glob (by rfl) G.g8 (v := .ref (cs 8)) rfl) pa_nil))) pa_nil)))
      (pss_cons (ps_if (PW.pt (pw_or (pt_cmpR op_ne (pe_bm PySem.F.plainAttrs_list PySem.F.slot_list_count PySem.F.type_list_count mt_fcount (pv 2) (pa_cons pe_bl pa_nil)) pe_int (nomark _)) (pw_or1 (pt_not (pt_val (pe_callB (call_isE hC.ex hz hf) (by rfl) B.isi k_isi (pa_cons (pv 1) (pa_cons (pe_bltn (v := .ty "ValueError") (by rfl) bv (by decide +kernel) rfl) pa_nil))))))))
        (pss_one (ps_ret (pe_tup (pa_cons pe_str (pa_cons pe_int pa_nil))))) pss_nil)
      (pss_cons (ps_set (i := 3) nd rfl (Or.inl rfl) (pe_lst (pa_cons pe_str (pa_cons pe_str (pa_cons pe_str (pa_cons pe_str (pa_cons pe_str (pa_cons pe_str (pa_cons pe_str (pa_cons pe_str (pa_cons pe_str pa_nil)))))))))))
      (pss_cons (ps_set (i := 4) nd rfl (Or.inl rfl) (pe_ix ix_list (pv 3) (pe_bm PySem.F.plainAttrs_list PySem.F.slot_list_index PySem.F.type_list_index mt_index (pv 2) (pa_cons pe_bl pa_nil)) (fun _ _ => rfl)))
      (pss_one (ps_ret (pe_tup (pa_cons (pv 4) (pa_cons (pe_ifExp (pt_cmpR op_eq (pv 4) pe_str (nomark _)) pe_no pe_int) pa_nil))))))))))) pins s _ H D I ?_
  refine t_isE 0 rfl hC (t_isE 1 rfl hC (t_isE 2 rfl hC (t_isE 3 rfl hC ⟨(by show 4 ≤ sizeLine; decide), fun p1 h1 => ?_⟩)))
  refine ⟨_, rfl, t_isE 4 rfl hC (t_isE 5 rfl hC (t_isE 6 rfl hC (t_isE 7 rfl hC ⟨(by show 4 ≤ sizeLine; decide), fun p2 h2 => ?_⟩)))⟩
  have n12 : p1 ≠ p2 := fun z => by rw [← z, upd_same] at h2; cases h2
  refine ⟨p1, p2, _, _, rfl, rfl, (by rw [upd_ne n12]; exact upd_same), upd_same, (by show 8 ≤ sizeLine; decide), fun p3 h3 => ?_⟩
  refine ⟨_, rfl, .inl ⟨rfl, _, SqL.of upd_same⟩, t_isE 8 rfl hC ⟨p3, _, _, rfl, rfl, upd_same, (by show 8 < sizeLine; decide), ?_⟩⟩
  rw [upd_upd]
  have x1 := (((XX.new (T := T) h1).then_new h2).then_new (o := .lst (kinds i)) h3)
  refine ⟨_, rfl, .inl ⟨rfl, _, SqL.of upd_same⟩, p3, kinds i, .bl true, rfl, rfl, SqL.of upd_same, rfl, kinds_flat i, rfl, _, rfl, ?_⟩
  rw [kinds_count i, show (!decide (V.int ((1 : Nat) : Int) = V.int 1)) = false by decide]
  refine iteF ⟨_, rfl, .ty "ValueError", .type "ValueError", true, rfl, fun u r => r, hC.ve, _, rfl, iteF ?_⟩
  refine ⟨(by show 9 ≤ sizeLine; decide), fun p4 h4 => ?_⟩
  have x2 := x1.then_new (o := .lst wordsV) h4
  have n34 : p3 ≠ p4 := fun z => by rw [← z, upd_same] at h4; cases h4
  have g3 : ∀ {o : HO}, upd (upd (upd (upd H p1 (.lst [.bl (decide ((0 : Fin 9) = i)), .bl (decide ((1 : Fin 9) = i)), .bl (decide ((2 : Fin 9) = i)), .bl (decide ((3 : Fin 9) = i))])) p2 (.lst [.bl (decide ((4 : Fin 9) = i)), .bl (decide ((5 : Fin 9) = i)), .bl (decide ((6 : Fin 9) = i)), .bl (decide ((7 : Fin 9) = i))])) p3 (.lst (kinds i))) p4 o p3 = some (.lst (kinds i)) := fun {o} => by rw [upd_ne n34, upd_same]
  refine ⟨_, rfl, _, rfl, .inl ⟨rfl, _, SqL.of g3⟩, p3, kinds i, .bl true, i.1, .bl true, rfl, rfl, SqL.of g3, rfl, kinds_flat i, kinds_at i, rfl, kinds_no i, ?_⟩
  refine ⟨p4, wordsV, _, .str (wordsE.getD i.1 ""), rfl, rfl, SqL.of upd_same, atI_nat (words_at i), ?_⟩
  refine ⟨_, rfl, _, rfl, rfl, _, rfl, ?_⟩
  rw [words_no i hn4]
  refine iteF ⟨(by show 2 ≤ sizeLine; decide), fun p5 h5 => ?_⟩
  exact k _ _ (x2.then_new h5) (.tup (SqT.of upd_same) (.cons (.str _) (.cons (.int _) .nil)))
theorem ok_told {f : Addr} {fd : FuncData} {k : Nat} (F : Fun K "_law_told" "_law_told" s_told f fd) (B : Blt mg) (bv : mg "ValueError" = none) (G : ETab mg cE cs) : FnOk P w K mg base CX0 (k + 1) f fd ["_law_work"] (spTold P w K mg base T cE cs k) := by
  refine F.ok sc_told (fun vs H Q E h => by obtain ⟨g, ph, sp, rfl, _⟩ := h; rfl) (fun cdv A outer s H vs Q E hr h => ?_)
  obtain ⟨g, ph, sp, rfl, hf, hc, hph, h⟩ := h
  have nd := sc_told.nd
  refine ⟨_, pss_one (ps_try_as (X := (cxOf CX0 P w K mg base toldN "_law_told" (defScope s_told) f cdv A outer s H E).nox) (i := 1) (tb := fun W => tRet (tActS P w K mg base k 0 (WE W))) rfl rfl nd rfl rfl (x := "PageError") (c := .ref cE) ⟨rfl, by decide, .inl G.gE⟩ L2.takes0 (fun W pn xe tk _ => pss_one (ps_ret (pe_act0S (i := 0) hr (passAt tk) rfl (.inl rfl))))
    (fun a oe cls d pn hz hfl => told_suite (T := T) B bv G hz hfl)), ?_⟩
  refine ⟨g, ph, sp, rfl, hf, hc, hph, h _ fun H1 i C h4 hC k => ⟨true, hC.top, fun _ a ha => ?_, fun z => Bool.noConfusion z⟩⟩
  exact ⟨i, C, _, _, _, _, rfl, rfl, h4, hC, rfl, ha, k⟩
end
end GX
set_option maxHeartbeats 4000000
/-! BadText raised, and told -/
namespace GX
open PySem PySem.Spec PyProof.Rows L2 LamX
abbrev lnF (n : Int) : List (Str × V) := [("line", .int n)]
/-- BadText(n), made -/
theorem bt_made {D : Addr} {n : Int} {H1 : Hp} {Q : XK} (hn : n.natAbs.log2 < 1920) (h : ∀ d, H1 d = none → Q (.ref D) (some d) (upd H1 d (.xd (lnF n)))) :
    [V.int n].length ≤ 1000 ∧ ∀ a, H1 a = none → spBT D (.ref a :: ([V.int n] ++ [])) (upd H1 a (exo a D none))
      (fun v H2 => v = .non ∧ ∃ (d : Addr) (fs : List (Str × V)), H2 a = some (exo a D (some d)) ∧ H2 d = some (exd d fs) ∧ H1 d = none ∧ Q (.ref D) (some d) (upd (del H2 a) d (.xd fs))) (fun _ _ _ => False) := by
  refine ⟨(by show 1 ≤ 1000; decide), fun a na => ⟨a, n, rfl, hn, upd_same, fun dx ndx ne => ⟨rfl, dx, lnF n, upd_same, ?_, ?_, ?_⟩⟩⟩
  · rw [upd_ne ne, upd_same]
  · rw [upd_ne ne] at ndx; exact ndx
  · have n1 : H1 dx = none := by rw [upd_ne ne] at ndx; exact ndx
    have e : upd (del (upd (upd (upd H1 a (exo a D none)) dx (exd dx (lnF n))) a (exo a D (some dx))) a) dx (.xd (lnF n)) = upd H1 dx (.xd (lnF n)) := by
      funext b
      by_cases h1 : b = dx
      · rw [h1, upd_same, upd_same]
      · rw [upd_ne h1, upd_ne h1]
        by_cases h2 : b = a
        · rw [h2, del_same, na]
        · rw [del_ne h2, upd_ne h2, upd_ne h1, upd_ne h2]
    rw [e]
    exact h dx n1
/-- the class BadText -/
structure EBt (K : PySem.W.Frag) (cE : Addr) (cs : Fin 9 → Addr) (D : Addr) : Prop where
  i : EIs K cE cs 4 D
  xf : XfC K D
  no : PySem.W.findIn K (.ref D) "line" = some none
def toldB (n : Int) : PyData := .tuple [.str "BadText", .int n]
/-- _law_told: what the callee tells, or the line of its BadText -/
def spToldB (P : Program) (w : World) (K : PySem.W.Frag) (mg : Str → Option Value) (base : Heap) (T : List (Addr × Str)) (cE : Addr) (cs : Fin 9 → Addr) (k : Nat) : Sp := fun vs H Q _ => ∃ f ph sp, vs = [.ref f] ∧ FnObj H f ∧ CallOk P w K mg base k f ph sp ∧ ph H ∧
  ∀ E : XK, (∀ H1 D n d, EBt K cE cs D → H1 d = some (.xd (lnF n)) → (∀ H' v, XX T H1 H' → Dp K H' v (toldB n) → Q v H') → E (.ref D) (some d) H1) → sp H Q E
section
variable {P : Program} {w : World} {K : PySem.W.Frag} {mg : Str → Option Value} {base : Heap} {T : List (Addr × Str)} {cE : Addr} {cs : Fin 9 → Addr}
theorem t_isD {C a dd : Addr} {σ : L2.St} {H : Hp} {Q : VK} {n : Int} (j : Fin 9) (hσ : σ[1]? = some (some (.ref a))) (hC : EIs K cE cs 4 C) (hd : H dd = some (.xd (lnF n))) (q : Q (.bl (decide (j = 4))) H) : tCB (rIsD K C a dd) (tCons (tVar 1) (tCons (tC (.ref (cs j))) tNil)) σ H Q :=
  ⟨_, hσ, .ref (cs j), .ref (cs j), _, _, rfl, fun u r => r, hC.is_ j, hd, q⟩
/-- the suite of _law_told's except clause, of BadText -/
def tToldB (K : PySem.W.Frag) (T : List (Addr × Str)) (cE : Addr) (cs : Fin 9 → Addr) (a : Addr) (cls : Value) (d : Option Addr) : TS := fun D σ H => ∃ (C dd : Addr) (n : Int) (g : Option V) (b2 b3 b4 : Option V), cls = .ref C ∧ d = some dd ∧ EBt K cE cs C ∧ σ = [g, some (.ref a), b2, b3, b4] ∧ H a = none ∧ H dd = some (.xd (lnF n)) ∧ ∀ H' v, XX T H H' → Dp K H' v (toldB n) → D.rt v H'
theorem told_suiteB {f : Addr} {cdv : Value} {A : Around} {outer : List Env} {s : Shared} {H : Hp} {E : XK} {a : Addr} {oe : Obj} {pn : List (Addr × Obj)} {cls : Value} {d : Option Addr} (B : Blt mg) (bv : mg "ValueError" = none) (G : ETab mg cE cs) (hz : Zc cls d oe) (hf : ∃ vs, oe.data = .fields vs) :
    PSs ((cxOf CX0 P w K mg base toldN "_law_told" (defScope s_told) f cdv A outer s H E).nox.suite a ((a, oe) :: pn)) (suiteOf s_told) (tToldB K T cE cs a cls d) := by
  have nd := sc_told.nd
  refine ⟨fun pins s σ H D I h => ?_⟩
  obtain ⟨C, dd, n, g, b2, b3, b4, rfl, rfl, hC, rfl, ha, hdd, k⟩ := h
  refine PSs.run (
      pss_cons (ps_set (i := 2) nd rfl (Or.inl rfl) (pe_lst (pa_cons (pe_callB (call_isD hC.i.ex hz hf) (by rfl) B.isi k_isi (pa_cons (pv 1) (pa_cons (pe_glob (by rfl) G.g0 (v := .ref (cs 0)) rfl) pa_nil)))
        (pa_cons (pe_callB (call_isD hC.i.ex hz hf) (by rfl) B.isi k_isi (pa_cons (pv 1) (pa_cons (pe_glob (by rfl) G.g1 (v := .ref (cs 1)) rfl) pa_nil)))
        (pa_cons (pe_callB (call_isD hC.i.ex hz hf) (by rfl) B.isi k_isi (pa_cons (pv 1) (pa_cons (pe_glob (by rfl) G.g2 (v := .ref (cs 2)) rfl) pa_nil)))
        (pa_cons (pe_callB (call_isD hC.i.ex hz hf) (by rfl) B.isi k_isi (pa_cons (pv 1) (pa_cons (pe_glob (by rfl) G.g3 (v := .ref (cs 3)) rfl) pa_nil))) pa_nil))))))
      (pss_cons (ps_set (i := 2) nd rfl (Or.inl rfl) (pe_op op_cat (pv 2) (pe_lst (pa_cons (pe_callB (call_isD hC.i.ex hz hf) (by rfl) B.isi k_isi (pa_cons (pv 1) (pa_cons (pe_glob (by rfl) G.g4 (v := .ref (cs 4)) rfl) pa_nil)))
        (pa_cons (pe_callB (call_isD hC.i.ex hz hf) (by rfl) B.isi k_isi (pa_cons (pv 1) (pa_cons (pe_glob (by rfl) G.g5 (v := .ref (cs 5)) rfl) pa_nil)))
        (pa_cons (pe_callB (call_isD hC.i.ex hz hf) (by rfl) B.isi k_isi (pa_cons (pv 1) (pa_cons (pe_glob (by rfl) G.g6 (v := .ref (cs 6)) rfl) pa_nil)))
        (pa_cons (pe_callB (call_isD hC.i.ex hz hf) (by rfl) B.isi k_isi (pa_cons (pv 1) (pa_cons (pe_glob (by rfl) G.g7 (v := .ref (cs 7)) rfl) pa_nil))) pa_nil)))))))
      (pss_cons (ps_expr (pe_bm PySem.F.plainAttrs_list PySem.F.slot_list_append PySem.F.type_list_append mt_append (pv 2) (pa_cons (pe_callB (call_isD hC.i.ex hz hf) (by rfl) B.isi k_isi (pa_cons (pv 1) (pa_cons (pe_glob (by rfl) G.g8 (v := .ref (cs 8)) rfl) pa_nil))) pa_nil)))
      (pss_cons (ps_if (PW.pt (pw_or (pt_cmpR op_ne (pe_bm PySem.F.plainAttrs_list PySem.F.slot_list_count PySem.F.type_list_count mt_fcount (pv 2) (pa_cons pe_bl pa_nil)) pe_int (nomark _)) (pw_or1 (pt_not (pt_val (pe_callB (call_isD hC.i.ex hz hf) (by rfl) B.isi k_isi (pa_cons (pv 1) (pa_cons (pe_bltn (v := .ty "ValueError") (by rfl) bv (by decide +kernel) rfl) pa_nil))))))))
        (pss_one (ps_ret (pe_tup (pa_cons pe_str (pa_cons pe_int pa_nil))))) pss_nil)
      (pss_cons (ps_set (i := 3) nd rfl (Or.inl rfl) (pe_lst (pa_cons pe_str (pa_cons pe_str (pa_cons pe_str (pa_cons pe_str (pa_cons pe_str (pa_cons pe_str (pa_cons pe_str (pa_cons pe_str (pa_cons pe_str pa_nil)))))))))))
      (pss_cons (ps_set (i := 4) nd rfl (Or.inl rfl) (pe_ix ix_list (pv 3) (pe_bm PySem.F.plainAttrs_list PySem.F.slot_list_index PySem.F.type_list_index mt_index (pv 2) (pa_cons pe_bl pa_nil)) (fun _ _ => rfl)))
      (pss_one (ps_ret (pe_tup (pa_cons (pv 4) (pa_cons (pe_ifExp (pt_cmpR op_eq (pv 4) pe_str (nomark _)) (pe_xf hC.xf hC.no hz hf (pv 1)) pe_int) pa_nil))))))))))) pins s _ H D I ?_
  refine t_isD 0 rfl hC.i hdd (t_isD 1 rfl hC.i hdd (t_isD 2 rfl hC.i hdd (t_isD 3 rfl hC.i hdd ⟨(by show 4 ≤ sizeLine; decide), fun p1 h1 => ?_⟩)))
  have d1 : ∀ {o : HO}, upd H p1 o dd = some (.xd (lnF n)) := fun {o} => by rw [upd_ne (ne_of_none hdd h1)]; exact hdd
  refine ⟨_, rfl, t_isD 4 rfl hC.i d1 (t_isD 5 rfl hC.i d1 (t_isD 6 rfl hC.i d1 (t_isD 7 rfl hC.i d1 ⟨(by show 4 ≤ sizeLine; decide), fun p2 h2 => ?_⟩)))⟩
  have n12 : p1 ≠ p2 := fun z => by rw [← z, upd_same] at h2; cases h2
  refine ⟨p1, p2, _, _, rfl, rfl, (by rw [upd_ne n12]; exact upd_same), upd_same, (by show 8 ≤ sizeLine; decide), fun p3 h3 => ?_⟩
  have x3 := (((XX.new (T := T) h1).then_new h2).then_new (o := .lst ((kinds 4).take 8)) h3)
  have d3 : ∀ {o : HO}, upd (upd (upd H p1 (.lst [.bl (decide ((0 : Fin 9) = 4)), .bl (decide ((1 : Fin 9) = 4)), .bl (decide ((2 : Fin 9) = 4)), .bl (decide ((3 : Fin 9) = 4))])) p2 (.lst [.bl (decide ((4 : Fin 9) = 4)), .bl (decide ((5 : Fin 9) = 4)), .bl (decide ((6 : Fin 9) = 4)), .bl (decide ((7 : Fin 9) = 4))])) p3 o dd = some (.xd (lnF n)) := fun {o} => by
    rw [upd_ne (fun z => by rw [← z] at h3; rw [upd_ne (fun z2 => by rw [← z2] at h2; rw [d1] at h2; cases h2)] at h3; rw [d1] at h3; cases h3), upd_ne (fun z2 => by rw [← z2] at h2; rw [d1] at h2; cases h2)]; exact d1
  refine ⟨_, rfl, .inl ⟨rfl, _, SqL.of upd_same⟩, t_isD 8 rfl hC.i d3 ⟨p3, _, _, rfl, rfl, upd_same, (by show 8 < sizeLine; decide), ?_⟩⟩
  rw [upd_upd]
  have x1 := (((XX.new (T := T) h1).then_new h2).then_new (o := .lst (kinds 4)) h3)
  refine ⟨_, rfl, .inl ⟨rfl, _, SqL.of upd_same⟩, p3, kinds 4, .bl true, rfl, rfl, SqL.of upd_same, rfl, kinds_flat 4, rfl, _, rfl, ?_⟩
  rw [kinds_count 4, show (!decide (V.int ((1 : Nat) : Int) = V.int 1)) = false by decide]
  refine iteF ⟨_, rfl, .ty "ValueError", .type "ValueError", true, _, rfl, fun u r => r, hC.i.ve, d3, _, rfl, iteF ?_⟩
  refine ⟨(by show 9 ≤ sizeLine; decide), fun p4 h4 => ?_⟩
  have x2 := x1.then_new (o := .lst wordsV) h4
  have n34 : p3 ≠ p4 := fun z => by rw [← z, upd_same] at h4; cases h4
  have g3 : ∀ {o : HO}, upd (upd (upd (upd H p1 (.lst [.bl (decide ((0 : Fin 9) = 4)), .bl (decide ((1 : Fin 9) = 4)), .bl (decide ((2 : Fin 9) = 4)), .bl (decide ((3 : Fin 9) = 4))])) p2 (.lst [.bl (decide ((4 : Fin 9) = 4)), .bl (decide ((5 : Fin 9) = 4)), .bl (decide ((6 : Fin 9) = 4)), .bl (decide ((7 : Fin 9) = 4))])) p3 (.lst (kinds 4))) p4 o p3 = some (.lst (kinds 4)) := fun {o} => by rw [upd_ne n34, upd_same]
  refine ⟨_, rfl, _, rfl, .inl ⟨rfl, _, SqL.of g3⟩, p3, kinds 4, .bl true, 4, .bl true, rfl, rfl, SqL.of g3, rfl, kinds_flat 4, kinds_at 4, rfl, kinds_no 4, ?_⟩
  refine ⟨p4, wordsV, _, .str "BadText", rfl, rfl, SqL.of upd_same, atI_nat (words_at 4), ?_⟩
  refine ⟨_, rfl, _, rfl, rfl, _, rfl, ?_⟩
  rw [show decide (V.str "BadText" = V.str "BadText") = true by decide +kernel]
  have d4 : ∀ {o : HO}, upd (upd (upd (upd H p1 (.lst [.bl (decide ((0 : Fin 9) = 4)), .bl (decide ((1 : Fin 9) = 4)), .bl (decide ((2 : Fin 9) = 4)), .bl (decide ((3 : Fin 9) = 4))])) p2 (.lst [.bl (decide ((4 : Fin 9) = 4)), .bl (decide ((5 : Fin 9) = 4)), .bl (decide ((6 : Fin 9) = 4)), .bl (decide ((7 : Fin 9) = 4))])) p3 (.lst (kinds 4))) p4 o dd = some (.xd (lnF n)) := fun {o} => by
    rw [upd_ne (fun z => by rw [← z] at h4; rw [d3] at h4; cases h4)]; exact d3
  refine iteT ⟨_, rfl, rfl, rfl, dd, lnF n, .int n, rfl, d4, rfl, ⟨(by show 2 ≤ sizeLine; decide), fun p5 h5 => ?_⟩⟩
  exact k _ _ (x2.then_new h5) (.tup (SqT.of upd_same) (.cons (.str _) (.cons (.int _) .nil)))
theorem ok_toldB {f : Addr} {fd : FuncData} {k : Nat} (F : Fun K "_law_told" "_law_told" s_told f fd) (B : Blt mg) (bv : mg "ValueError" = none) (G : ETab mg cE cs) : FnOk P w K mg base CX0 (k + 1) f fd ["_law_work"] (spToldB P w K mg base T cE cs k) := by
  refine F.ok sc_told (fun vs H Q E h => by obtain ⟨g, ph, sp, rfl, _⟩ := h; rfl) (fun cdv A outer s H vs Q E hr h => ?_)
  obtain ⟨g, ph, sp, rfl, hf, hc, hph, h⟩ := h
  have nd := sc_told.nd
  refine ⟨_, pss_one (ps_try_as (X := (cxOf CX0 P w K mg base toldN "_law_told" (defScope s_told) f cdv A outer s H E).nox) (i := 1) (tb := fun W => tRet (tActS P w K mg base k 0 (WE W))) rfl rfl nd rfl rfl (x := "PageError") (c := .ref cE) ⟨rfl, by decide, .inl G.gE⟩ L2.takes0 (fun W pn xe tk _ => pss_one (ps_ret (pe_act0S (i := 0) hr (passAt tk) rfl (.inl rfl))))
    (fun a oe cls d pn hz hfl => told_suiteB (T := T) B bv G hz hfl)), ?_⟩
  refine ⟨g, ph, sp, rfl, hf, hc, hph, h _ fun H1 C n d hC hd k => ⟨true, hC.i.top, fun _ a ha => ?_, fun z => Bool.noConfusion z⟩⟩
  exact ⟨C, d, n, _, _, _, _, rfl, rfl, hC, rfl, ha, hd, k⟩
end
end GX
set_option maxHeartbeats 8000000
/-! slotpages.notes.read -/
namespace GX
open PySem PySem.Spec PyProof.Rows L2 LamX
/-- read(text) -/
def spRead (K : PySem.W.Frag) (T : List (Addr × Str)) (Pc D : Addr) : Sp := fun vs H Q E => ∃ t : Str, vs = [.str t] ∧ t.length ≤ 15000 ∧ Asc t ∧ GxR.TabG H Pc ∧
  (∀ ds, readW t = .ok ds → ∀ H' v, XX T H H' → Dp K H' v (.list ds) → Q v H') ∧ (∀ n : Nat, readW t = .error n → ∀ H' d, XX T H H' → H' d = some (.xd (lnF n)) → E (.ref D) (some d) H')
/-- what the program has of BadText -/
structure BtF (P : Program) (w : World) (K : PySem.W.Frag) (mg : Str → Option Value) (base : Heap) (D fI : Addr) (fd : FuncData) : Prop where
  m : mg "BadText" = some (.ref D)
  oex : OexC K D
  iC : PySem.W.findIn K (.ref D) "__init__" = some (some (.ref fI))
  tI : PySem.W.typeIn K (.ref fI) = some (.type "function")
  F : FnOk P w K mg base CX0 1 fI fd btN (spBT D)
  b : Binds K fd btN []
theorem small_log {n : Nat} (h : n ≤ 20000) : ((n : Int)).natAbs.log2 < 1920 := by
  have : ((n : Nat) : Int).natAbs = n := by omega
  rw [this]
  by_cases h0 : n = 0
  · subst h0; decide
  · have : n < 2 ^ 20 := by omega
    have := (Nat.log2_lt h0).mpr this
    omega
theorem rows_len {t : Str} (h : t.length ≤ 15000) : (rowsW t).length ≤ 15001 := by
  unfold rowsW
  by_cases h0 : t.length = 0
  · rw [if_pos h0]; exact Nat.zero_le _
  · rw [if_neg h0]
    have := (line_bounds t).2.1
    omega
theorem rows_each {t : Str} (h : t.length ≤ 15000) (ha : Asc t) : ∀ r ∈ rowsW t, r.length ≤ 15000 ∧ Asc r := by
  unfold rowsW
  by_cases h0 : t.length = 0
  · rw [if_pos h0]; exact fun r hr => absurd hr (by simp)
  · rw [if_neg h0]
    exact fun r hr => ⟨Nat.le_trans ((line_bounds t).2.2 r hr) h, line_asc ha r hr⟩
theorem page_fl {slots : List PyData} {c : PyData} (h1 : ∀ d ∈ slots, flatD d = true) (h2 : flatD c = true) : flatD (.tuple [.tuple slots, c]) = true := by
  show (flatAll slots && (flatD c && true)) = true
  rw [flatAll_of h1, h2] <;> rfl
/-- the things of a turn of read -/
structure RdInv (K : PySem.W.Frag) (T : List (Addr × Str)) (H : Hp) (RS : List Str) (t : Str) (sh rw : Addr) (i : Nat) (H' : Hp) (sl : Addr) (slots sheets : List PyData) : Prop where
  x : XX T H H'
  hsh : ∃ xs, H' sh = some (.lst xs) ∧ DpAll K H' xs sheets
  hsl : ∃ ys, H' sl = some (.lst ys) ∧ DpAll K H' ys slots
  n1 : H sh = none
  n2 : H sl = none
  n12 : sl ≠ sh
  nr1 : rw ≠ sh
  nr2 : rw ≠ sl
  f1 : ∀ d ∈ sheets, flatD d = true
  f2 : ∀ d ∈ slots, flatD d = true
  l1 : slots.length ≤ 8
  l2 : sheets.length ≤ i
  go : readGo (RS.drop i) i slots sheets = readW t
  rows : H' rw = some (.lst (RS.map V.str))
theorem RdInv.xx {K : PySem.W.Frag} {T : List (Addr × Str)} {H : Hp} {RS : List Str} {t : Str} {sh rw : Addr} {i : Nat} {H' H2 : Hp} {sl : Addr} {slots sheets : List PyData} (r : RdInv K T H RS t sh rw i H' sl slots sheets) (a : XX T H' H2) : RdInv K T H RS t sh rw i H2 sl slots sheets := by
  obtain ⟨xs, e1, d1⟩ := r.hsh
  obtain ⟨ys, e2, d2⟩ := r.hsl
  exact ⟨r.x.trans a, ⟨xs, a.lst e1, Dp.xxAll a _ _ d1⟩, ⟨ys, a.lst e2, Dp.xxAll a _ _ d2⟩, r.n1, r.n2, r.n12, r.nr1, r.nr2, r.f1, r.f2, r.l1, r.l2, r.go, a.lst r.rows⟩
section
variable {P : Program} {w : World} {K : PySem.W.Frag} {mg : Str → Option Value} {base : Heap} {T : List (Addr × Str)} {D fI Pc : Addr} {fdI : FuncData}
abbrev rdN : List Str := ["text", "sheets", "slots", "rows", "line", "row", "slot", "cells"]
theorem sc_read : FnScope rdN ["text"] (defScope s_read) := ⟨rfl, rfl, rfl, by decide +kernel, rfl, by decide +kernel, by decide +kernel⟩
theorem ok_read {f : Addr} {fd : FuncData} (F : L2.Fun K "read" "read" s_read f fd) (B : Blt mg) (C : CoF mg) (he : mg "enumerate" = none) (U : BtF P w K mg base D fI fdI)
    (cR : Cal P w K mg base CX0 "rows_of" ["text"] 1 (spRows K T)) (cS : Cal P w K mg base CX0 "_slot_of" ["row"] 4 (spSlotOf K T)) (cC : Cal P w K mg base CX0 "_cells_of" ["row"] 3 (spCellsOf2 K T))
    (cI : Cal P w K mg base CX0 "is_slot" ["thing"] 4 (spSlot K)) (cA : Cal P w K mg base CX0 "are_cells" ["thing"] 4 (spCells K T Pc)) : FnOk P w K mg base (L2.CX P w) 5 f fd ["text"] (spRead K T Pc D) := by
  refine F.okX sc_read (fun vs H Q E h => by obtain ⟨x, rfl, _⟩ := h; rfl) (fun cdv A outer s H vs Q E hr h => ?_)
  obtain ⟨t, rfl, ht, hasc, hG, kq, ke⟩ := h
  have nd := sc_read.nd
  refine ⟨_, pss_cons (ps_set (i := 1) nd rfl (.inl rfl) (pe_lst pa_nil))
    (pss_cons (ps_set (i := 2) nd rfl (.inl rfl) (pe_lst pa_nil))
    (pss_cons (ps_set (i := 3) nd rfl (.inl rfl) (pe_cal cR (hr.mono (by decide)) (pa_cons (pv 0) pa_nil)))
    (pss_cons (ps_for (passes_of rfl) rfl (pi_enum (by rfl) he (pa_cons (pv 3) pa_nil)) (pg_tup (by rfl) (pgs_cons (pg_name (i := 4) nd rfl (.inl rfl)) (pgs_cons (pg_name (i := 5) nd rfl (.inl rfl)) pgs_nil)))
      (pss_one (ps_if (pt_cmpR op_lt (pe_callB call_len_seq (by rfl) B.len PySem.boot_len (pa_cons (pv 2) pa_nil)) (pe_const C.slots) (nomark _))
        (pss_cons (ps_set (i := 6) nd rfl (.inl rfl) (pe_cal cS hr (pa_cons (pv 5) pa_nil)))
        (pss_cons (ps_if (pt_not (pt_val (pe_cal cI hr (pa_cons (pv 6) pa_nil)))) (pss_one (ps_raise rfl (takes_of rfl rfl rfl rfl) (pmk_oex (ds := []) (dvs := []) U.oex U.iC U.tI U.F (hr.mono (by decide)) U.b .nil pass0 (by rfl) U.m (pa_cons (pv 4) pa_nil)))) pss_nil)
        (pss_one (ps_expr (pe_bm PySem.F.plainAttrs_list PySem.F.slot_list_append PySem.F.type_list_append mt_append (pv 2) (pa_cons (pv 6) pa_nil))))))
        (pss_cons (ps_set (i := 7) nd rfl (.inl rfl) (pe_cal cC (hr.mono (by decide)) (pa_cons (pv 5) pa_nil)))
        (pss_cons (ps_if (pt_not (pt_val (pe_cal cA hr (pa_cons (pv 7) pa_nil)))) (pss_one (ps_raise rfl (takes_of rfl rfl rfl rfl) (pmk_oex (ds := []) (dvs := []) U.oex U.iC U.tI U.F (hr.mono (by decide)) U.b .nil pass0 (by rfl) U.m (pa_cons (pv 4) pa_nil)))) pss_nil)
        (pss_cons (ps_expr (pe_bm PySem.F.plainAttrs_list PySem.F.slot_list_append PySem.F.type_list_append mt_append (pv 1) (pa_cons (pe_tup (pa_cons (pe_callTy call_tuple_of (by rfl) B.tuple boot_tuple (pa_cons (pv 2) pa_nil)) (pa_cons (pv 7) pa_nil))) pa_nil)))
        (pss_one (ps_set (i := 2) nd rfl (.inl rfl) (pe_lst pa_nil)))))))))
    (pss_cons (ps_if (pt_truth (pv 2) (by intro _; rfl)) (pss_one (ps_raise rfl (takes_of rfl rfl rfl rfl) (pmk_oex (ds := []) (dvs := []) U.oex U.iC U.tI U.F (hr.mono (by decide)) U.b .nil pass0 (by rfl) U.m (pa_cons (pe_callB call_len_seq (by rfl) B.len PySem.boot_len (pa_cons (pv 3) pa_nil)) pa_nil)))) pss_nil)
    (pss_one (ps_ret (pv 1))))))), ?_⟩
  refine ⟨Nat.zero_le _, fun sh hsh => ⟨Nat.zero_le _, fun sl hsl => ?_⟩⟩
  have x1 := (XX.new (T := T) (o := .lst []) hsh)
  have x2 := x1.then_new (o := .lst []) hsl
  have nsl0 : H sl = none := x1.free hsl
  have n12 : sl ≠ sh := fun z => by rw [z, upd_same] at hsl; cases hsl
  refine ⟨_, rfl, t, rfl, by rw [sizeLine_eq]; omega, fun H3 rw x3 nrw hrw => ?_⟩
  have esh : upd (upd H sh (.lst [])) sl (.lst []) sh = some (.lst []) := by rw [upd_ne (Ne.symm n12)]; exact upd_same
  have nr1 : rw ≠ sh := fun z => by rw [z, esh] at nrw; cases nrw
  have nr2 : rw ≠ sl := fun z => by rw [z, upd_same] at nrw; cases nrw
  have hlen := rows_len ht
  have hrows := rows_each ht hasc
  have hlm : ((rowsW t).map V.str).length = (rowsW t).length := List.length_map ..
  refine ⟨_, rfl, rw, _, rfl, SqL.of hrw, ?_⟩
  refine for_it (walk_enum (K := K) (a := rw) (xs := (rowsW t).map V.str)) (fun i σ' H' => ∃ sl slots sheets u4 u5 u6 u7, σ' = [some (.str t), some (.ref sh), some (.ref sl), some (.ref rw), u4, u5, u6, u7] ∧ RdInv K T H (rowsW t) t sh rw i H' sl slots sheets)
    ⟨sl, [], [], _, _, _, _, rfl, x2.trans x3, ⟨[], x3.lst esh, .nil⟩, ⟨[], x3.lst upd_same, .nil⟩, hsh, nsl0, n12, nr1, nr2, fun d hd => absurd hd (by simp), fun d hd => absurd hd (by simp), Nat.zero_le _, Nat.zero_le _, rfl, hrw⟩
    (fun i σ' H' _ pv => by obtain ⟨_, _, _, _, _, _, _, _, r⟩ := pv; exact SqL.of r.rows) (fun i v σ' H' H'' hi pv yy => ?_) (fun σ' H' pv => ?_)
  · obtain ⟨sl, slots, sheets, u4, u5, u6, u7, rfl, r⟩ := pv
    obtain ⟨Tt, a, b, rfl, nT, rfl, ea, eb⟩ := yy
    cases ea
    rw [hlm] at hi
    have eb : ((rowsW t).map V.str)[i]? = some b := eb
    rw [List.getElem?_map, List.getElem?_eq_getElem hi] at eb
    cases eb
    have r2 := r.xx (XX.new (T := T) (o := .tup [V.int (i : Nat), V.str (rowsW t)[i]]) nT)
    have hrow := hrows _ (List.getElem_mem hi)
    have hgo := r.go
    rw [List.drop_eq_getElem_cons hi] at hgo
    obtain ⟨ys, e2, d2⟩ := r2.hsl
    refine ⟨Tt, _, rfl, SqT.of upd_same, rfl, _, _, rfl, _, _, rfl, rfl, ?_⟩
    refine ⟨_, rfl, sl, ys, rfl, .inl (SqL.of e2), _, _, rfl, rfl, _, rfl, ?_⟩
    have ely : ys.length = slots.length := dpAll_len d2
    by_cases h8 : slots.length < 8
    · rw [decide_eq_true (by omega)]
      refine iteT ⟨_, rfl, (rowsW t)[i], rfl, hrow.1, fun H4 v4 x4 d4 => ?_⟩
      have r4 := r2.xx x4
      refine ⟨_, rfl, v4, _, rfl, d4, slot_sh (blank_asc hrow.2), _, rfl, ?_⟩
      unfold readGo at hgo
      rw [if_pos h8] at hgo
      by_cases hs : isSlot (slotWs (Txt.split (rowsW t)[i] " ")) = true
      · rw [hs]
        rw [if_pos hs] at hgo
        obtain ⟨xs, e1, d1⟩ := r4.hsh
        obtain ⟨ys4, e4, d4y⟩ := r4.hsl
        have ely4 : ys4.length = slots.length := dpAll_len d4y
        have xm : XM T (fun c => c = sl) H4 (upd H4 sl (.lst (ys4 ++ [v4]))) := XM.upd e4 rfl True.intro
        refine iteF ⟨_, rfl, .inl ⟨rfl, _, SqL.of e4⟩, _, rfl, sl, ys4, v4, rfl, rfl, e4, by rw [sizeLine_eq]; omega, ?_⟩
        refine ⟨sl, slots ++ [slotWs (Txt.split (rowsW t)[i] " ")], sheets, _, _, _, _, rfl, r4.x.fillD r4.n2 e4, ⟨xs, by rw [upd_ne (Ne.symm r4.n12)]; exact e1, dpAll_xm xm r4.f1 d1⟩, ⟨_, upd_same, dpAll_snoc (dpAll_xm xm r4.f2 d4y) (Dp.xm xm _ _ (slot_fl _) d4)⟩, r4.n1, r4.n2, r4.n12, r4.nr1, r4.nr2, r4.f1, ?_, ?_, Nat.le_succ_of_le r4.l2, hgo, by rw [upd_ne r4.nr2]; exact r4.rows⟩
        · intro d hd
          rcases List.mem_append.mp hd with hd | hd
          · exact r4.f2 d hd
          · rw [List.mem_singleton.mp hd]; exact slot_fl _
        · rw [List.length_append, List.length_singleton]; omega
      · have hs' : isSlot (slotWs (Txt.split (rowsW t)[i] " ")) = false := by simpa using hs
        rw [hs']
        rw [if_neg hs] at hgo
        refine iteT ⟨_, rfl, bt_made (small_log (by omega)) fun d hd => ke i hgo.symm _ d (r4.x.then_new hd) upd_same⟩
    · rw [decide_eq_false (by omega)]
      refine iteF ⟨_, rfl, (rowsW t)[i], rfl, hrow.1, fun H4 v4 x4 d4 => ?_⟩
      have r4 := r2.xx x4
      have hG4 : GxR.TabG H4 Pc := r4.x.tabG _ hG
      unfold readGo at hgo
      rw [if_neg h8] at hgo
      refine ⟨_, rfl, v4, _, rfl, d4, hG4, fun H5 x5 => ⟨_, rfl, ?_⟩⟩
      have r5 := r4.xx x5
      have d5 := Dp.xx x5 _ _ d4
      by_cases hs : isCells (cellWs (Txt.split (rowsW t)[i] " ")) = true
      · rw [hs]
        rw [if_pos hs] at hgo
        obtain ⟨xs, e1, d1⟩ := r5.hsh
        obtain ⟨ys4, e4, d4y⟩ := r5.hsl
        have elx : xs.length = sheets.length := dpAll_len d1
        have l2 := r5.l2
        refine iteF ⟨_, rfl, .inl ⟨rfl, _, SqL.of e1⟩, _, rfl, sl, ys4, rfl, .inl ⟨SqL.of e4, fun p6 h6 => ⟨_, rfl, (by show 2 ≤ sizeLine; decide), fun p7 h7 => ?_⟩⟩⟩
        have x7 := (XX.new (T := T) (o := .tup ys4) h6).then_new (o := .tup [.ref p6, v4]) h7
        have r7 := r5.xx x7
        have e6 : upd (upd H5 p6 (.tup ys4)) p7 (.tup [.ref p6, v4]) p6 = some (.tup ys4) := (XX.new (T := T) h7).tup upd_same
        have dpg : Dp K (upd (upd H5 p6 (.tup ys4)) p7 (.tup [.ref p6, v4])) (.ref p7) (.tuple [.tuple slots, cellWs (Txt.split (rowsW t)[i] " ")]) :=
          .tup (SqT.of upd_same) (.cons (.tup (SqT.of e6) (Dp.xxAll x7 _ _ d4y)) (.cons (Dp.xx x7 _ _ d5) .nil))
        have pfl := page_fl r5.f2 (cell_fl (Txt.split (rowsW t)[i] " "))
        have e1' := x7.lst e1
        refine ⟨sh, xs, .ref p7, rfl, rfl, e1', by rw [elx, sizeLine_eq]; omega, ?_⟩
        have xm : XM T (fun c => c = sh) (upd (upd H5 p6 (.tup ys4)) p7 (.tup [.ref p6, v4])) (upd (upd (upd H5 p6 (.tup ys4)) p7 (.tup [.ref p6, v4])) sh (.lst (xs ++ [.ref p7]))) := XM.upd e1' rfl True.intro
        refine ⟨Nat.zero_le _, fun sn hsn => ?_⟩
        have xn := XX.new (T := T) (o := .lst []) hsn
        have x8 := r7.x.fillD (o := .lst (xs ++ [.ref p7])) r7.n1 e1'
        have nsn : sn ≠ sh := fun z => by rw [z, upd_same] at hsn; cases hsn
        have erw : upd (upd (upd H5 p6 (.tup ys4)) p7 (.tup [.ref p6, v4])) sh (.lst (xs ++ [.ref p7])) rw = some (.lst ((rowsW t).map V.str)) := by rw [upd_ne r7.nr1]; exact r7.rows
        refine ⟨sn, [], sheets ++ [.tuple [.tuple slots, cellWs (Txt.split (rowsW t)[i] " ")]], _, _, _, _, rfl, x8.trans xn, ⟨xs ++ [.ref p7], xn.lst upd_same, Dp.xxAll xn _ _ (dpAll_snoc (dpAll_xm xm r7.f1 (Dp.xxAll x7 _ _ d1)) (Dp.xm xm _ _ pfl dpg))⟩, ⟨[], upd_same, .nil⟩, r7.n1, x8.free hsn, nsn, r7.nr1, fun z => by (rw [← z, erw] at hsn; cases hsn), ?_, fun d hd => absurd hd (by simp), Nat.zero_le _, ?_, hgo, xn.lst erw⟩
        · intro d hd
          rcases List.mem_append.mp hd with hd | hd
          · exact r4.f1 d hd
          · rw [List.mem_singleton.mp hd]; exact pfl
        · rw [List.length_append, List.length_singleton]; omega
      · have hs' : isCells (cellWs (Txt.split (rowsW t)[i] " ")) = false := by simpa using hs
        rw [hs']
        rw [if_neg hs] at hgo
        refine iteT ⟨_, rfl, bt_made (small_log (by omega)) fun d hd => ke i hgo.symm _ d (r5.x.then_new hd) upd_same⟩
  · obtain ⟨sl, slots, sheets, u4, u5, u6, u7, rfl, r⟩ := pv
    obtain ⟨xs, e1, d1⟩ := r.hsh
    obtain ⟨ys, e2, d2⟩ := r.hsl
    have hgo := r.go
    rw [hlm, List.drop_length] at hgo
    unfold readGo at hgo
    refine ⟨_, rfl, _, .inl ⟨ys, SqL.of e2, rfl⟩, ?_⟩
    cases slots with
    | nil =>
      obtain rfl := dpAll0 d2
      rw [if_pos rfl] at hgo
      exact iteF ⟨_, rfl, kq sheets hgo.symm _ _ r.x (.lst (SqL.of e1) d1)⟩
    | cons d0 dr =>
      obtain ⟨v0, vr, rfl, _, _⟩ := dpAllC d2
      rw [if_neg (by simp)] at hgo
      refine iteT ⟨_, rfl, rw, _, rfl, .inl (SqL.of r.rows), ?_⟩
      rw [hlm]
      exact bt_made (small_log (by omega)) fun d hd => ke _ hgo.symm _ d (r.x.then_new hd) upd_same
end
end GX
set_option maxHeartbeats 0
/-! what the program's top leaves: facts by names, BadText's __init__ with its cell, one run -/
namespace GX
open PySem PySem.Spec PyProof.Rows L2 LamX
/-! ### BadText -/
abbrev LP : Program := (PySem.Challenge.rw_slotpages_k18_texts_of_no_pages).prog
def oexB (K : PySem.W.Frag) (C : Addr) : Bool := (match K.lookup C with
  | some ⟨.type t, _, .cls cd, sl⟩ => (match cd.mro, sl.toList with
    | .ref C' :: bm, [_, _, _, _, some (.builtin n), _] => decide (t = "type") && (decide (C' = C) && (decide (n = "ValueError.__new__") && (cd.hasDict && (!cd.hasDel && PySem.HandSPX.refsVE bm))))
    | _, _ => false)
  | _ => false) && (decide (PySem.W.findIn K (.ref C) "__setattr__" = some (some (.builtin "object.__setattr__"))) && (decide (PySem.W.subIn K (.ref C) (.type "BaseException") = some true) && (decide (PySem.W.typeIn K (.ref C) = some (.type "type")) && PySem.W.keepIn K (.ref C))))
theorem oexB_ok {K : PySem.W.Frag} {C : Addr} (h : oexB K C = true) : OexC K C := by
  obtain ⟨h0, h⟩ := He.ba h
  obtain ⟨h1, h⟩ := He.ba h
  obtain ⟨h2, h⟩ := He.ba h
  obtain ⟨h3, h4⟩ := He.ba h
  refine ⟨?_, of_decide_eq_true h1, of_decide_eq_true h2, of_decide_eq_true h3, h4⟩
  split at h0
  · rename_i t dd cd sl ho
    split at h0
    · rename_i C' bm k0 k1 k2 k3 n k5 hm hs
      obtain ⟨g0, h0⟩ := He.ba h0
      obtain ⟨g1, h0⟩ := He.ba h0
      obtain ⟨g2, h0⟩ := He.ba h0
      obtain ⟨g3, h0⟩ := He.ba h0
      obtain ⟨g4, g5⟩ := He.ba h0
      have g0 := of_decide_eq_true g0
      have g1 := of_decide_eq_true g1
      have g2 := of_decide_eq_true g2
      have q4 : cd.hasDel = false := by simpa using g4
      subst g0 g1 g2
      obtain ⟨nm, bs, mro, ns, qn, hd, sn, sub, ab, col, del⟩ := cd
      dsimp only at hm g3 q4
      subst hm g3 q4
      have hsl : sl = #[k0, k1, k2, k3, some (.builtin "ValueError.__new__"), k5] := by
        obtain ⟨l⟩ := sl
        simp only at hs
        rw [hs]
      subst hsl
      exact ⟨nm, qn, ns, bs, bm, sn, sub, ab, col, dd, k0, k1, k2, k3, k5, ho, g5⟩
    · cases h0
  · cases h0
abbrev BtW : Type := Option (Str × Str × Arguments × FuncBody × Scope × Addr × List Str × Addr)
abbrev btP : He.Defn := ("BadText", some "__init__")
def btW (K : PySem.W.Frag) : BtW := match K.lookup (He.fAd K btP) with
  | some ⟨_, _, .func fd, _⟩ => some (fd.name, fd.qualname, fd.params, fd.body, fd.scope, fd.globals, fd.closure.map (·.1), fd.builtins)
  | _ => none
def btV : BtW := some ("__init__", "BadText.__init__", defArgs s_BtInit, .stmts (defBody s_BtInit), defScope s_BtInit, mainGlobals, ["__class__"], builtinsNs)
def celB (K : PySem.W.Frag) (cc D : Addr) : Bool := match K.lookup cc with
  | some ⟨_, _, .cell (some (.ref d)), _⟩ => decide (d = D)
  | _ => false
def filB (K : PySem.W.Frag) (v : Value) : Bool := match v with
  | .ref c => (match K.lookup c with
    | some ⟨_, _, .fields vs, _⟩ => (match (vs[2]? : Option Value) with
      | some (.str f _) => ((LP.main.file : Str) == f)
      | _ => false)
    | _ => false)
  | _ => false
def bfB (K : PySem.W.Frag) (D : Addr) : Bool := match K.lookup (He.fAd K btP) with
  | some ⟨_, _, .func fd, _⟩ => (match fd.closure, fd.defaults with
    | [(_, cc)], .none => celB K cc D && (filB K fd.code && PySem.W.codeIn K fd.code "BadText.__init__")
    | _, _ => false)
  | _ => false
def btB (K : PySem.W.Frag) (D : Addr) : Bool := oexB K D && (xfB K D && (bfB K D && (decide (PySem.W.mroIn K D (.ref D) = some true) && (decide (PySem.W.ks_superIn K D D "__init__" = some (some (.builtin "ValueError.__init__"))) && (decide (PySem.W.subIn K (.ref D) (.type "ValueError") = some true) &&
  (decide (PySem.W.nsIn K cStatics "thirdparty.any" = some none) && (decide (PySem.W.findIn K (.ref D) "line" = some none) && (decide (PySem.W.findIn K (.ref D) "__init__" = some (some (.ref (He.fAd K btP)))) && decide (PySem.W.typeIn K (.ref (He.fAd K btP)) = some (.type "function"))))))))))
theorem btB_ok {K : PySem.W.Frag} {mg : Str → Option Value} {D : Addr} (hs : mg "super" = none) (e : btW K = btV) (h : btB K D = true) : XfC K D ∧ OexC K D ∧ PySem.W.findIn K (.ref D) "line" = some none ∧ PySem.W.findIn K (.ref D) "__init__" = some (some (.ref (He.fAd K btP))) ∧ PySem.W.typeIn K (.ref (He.fAd K btP)) = some (.type "function") ∧
    ∃ fd cc cda, BtC LP K mg D (He.fAd K btP) fd cc cda ∧ Binds K fd btN [] := by
  obtain ⟨h1, h⟩ := He.ba h
  obtain ⟨h2, h⟩ := He.ba h
  obtain ⟨h3, h⟩ := He.ba h
  obtain ⟨h4, h⟩ := He.ba h
  obtain ⟨h5, h⟩ := He.ba h
  obtain ⟨h6, h⟩ := He.ba h
  obtain ⟨h7, h⟩ := He.ba h
  obtain ⟨h8, h⟩ := He.ba h
  obtain ⟨h9, h10⟩ := He.ba h
  have ox := oexB_ok h1
  have no := of_decide_eq_true h8
  refine ⟨xfB_ok h2, ox, no, of_decide_eq_true h9, of_decide_eq_true h10, ?_⟩
  unfold bfB at h3
  unfold btW at e
  cases q : K.lookup (He.fAd K btP) with
  | none => rw [q] at h3; cases h3
  | some o =>
    obtain ⟨oc, od, dt, osl⟩ := o
    rw [q] at h3 e
    cases dt with
    | func fd =>
      obtain ⟨n1, n2, n3, n4, n5, n6, n7, n8, n9, n10, n11, n12, n13, n14, n15⟩ := fd
      have e2 : (some (n1, n2, n3, n4, n5, n6, n7.map (·.1), n15) : BtW) = btV := e
      unfold btV at e2
      simp only [Option.some.injEq, Prod.mk.injEq] at e2
      obtain ⟨g1, g2, g3, g4, g5, g6, g7, g8⟩ := e2
      subst g1 g2 g3 g4 g5 g6 g8
      dsimp only at h3
      split at h3
      · rename_i y cc
        obtain ⟨c1, h3⟩ := He.ba h3
        obtain ⟨c2, c3⟩ := He.ba h3
        have g7' : y = ("__class__" : Str) := by simpa using g7
        subst g7'
        obtain ⟨cda, ec⟩ := He.codeIn_ref c3
        subst ec
        refine ⟨_, cc, cda, ⟨⟨oc, od, .none, n9, n10, n11, n12, n14, osl, rfl, q⟩, c3, ?_, ?_, ?_, of_decide_eq_true h4, hs, by decide +kernel, of_decide_eq_true h5, of_decide_eq_true h6, of_decide_eq_true h7, ox, no⟩, .all fun us hl => match us, hl with | [_, _], _ => rfl⟩
        · unfold filB at c2
          dsimp only at c2
          split at c2
          · rename_i ccl cdd vs ccs lc
            split at c2
            · rename_i f t hv
              exact ⟨ccl, cdd, vs, ccs, f, t, lc, hv, c2⟩
            · cases c2
          · cases c2
        · unfold celB at c1
          split at c1
          · rename_i cl cld d csl lc
            rw [of_decide_eq_true c1] at lc
            exact ⟨cl, cld, csl, lc⟩
          · cases c1
        · have z := of_decide_eq_true h5
          unfold PySem.W.ks_superIn at z
          cases q2 : PySem.W.clsIn K D with
          | none => rw [q2] at z; cases z
          | some cd => exact ⟨cd, rfl⟩
      · cases h3
    | _ => cases h3
def wordsH : List Str := ["BadCount", "BadDisk", "BadPage", "BadRow", "BadText", "Full", "NoPage", "NoRow", "Stopped"]
def dG (x : Str) (st : Stmt) : He.DefD := ⟨(x, none), x, x, defArgs st, defBody st, defScope st, [], []⟩
def fnH : List He.DefD := ([dG "is_number" s_is_number, dG "is_tuple" s_is_tuple, dG "is_next" s_is_next, dG "_holds" s_holds, dG "is_slot" s_is_slot, dG "are_values" s_are_values, dG "are_cells" s_are_cells, dG "rows_of" s_rows_of, dG "number_of" s_number_of, dG "numbers_of" s_numbers_of] : List He.DefD) ++
  ([dG "read" s_read, dG "_cells_of" s_cells_of, dG "_slot_of" s_slot_of, dG "_next_of" s_next_of, dG "_law_begun" s_begun, dG "_law_take" s_take, dG "_law_alike" s_alike, dG "_law_told" s_told, dG "_law_page" s_lpage, dG "_law_number" s_lnumber] : List He.DefD) ++
  ([dG "_law_slot" s_lslot, dG "_law_read" s_lread, dG "_law_spoilt" s_lspoilt, dG "law" s_law] : List He.DefD)
def faH : List He.Fa := ([.glo "is_number", .glo "is_tuple", .glo "is_next", .glo "_holds", .glo "is_slot", .glo "are_values", .glo "are_cells", .glo "rows_of", .glo "number_of", .glo "numbers_of", .glo "read", .glo "_cells_of", .glo "_slot_of", .glo "_next_of"] : List He.Fa) ++
  ([.glo "_law_begun", .glo "_law_take", .glo "_law_alike", .glo "_law_told", .glo "_law_page", .glo "_law_number", .glo "_law_slot", .glo "_law_read", .glo "_law_spoilt", .glo "law", .glo "PageError", .glo "BadCount", .glo "BadDisk", .glo "BadPage"] : List He.Fa) ++
  ([.glo "BadRow", .glo "BadText", .glo "Full", .glo "NoPage", .glo "NoRow", .glo "Stopped", .free "isinstance", .free "len", .free "all", .free "int", .free "bool", .free "tuple", .free "list", .free "range"] : List He.Fa) ++
  ([.free "str", .free "enumerate", .free "ValueError", .free "super", .int "SLOTS" 8, .int "CELLS" 24, .int "MOST_PAGES" 12, .int "GREATEST_CELL" 99, .int "GREATEST_TURN" 99, .int "SPENT_TURN" 100, .int "MOST_FIGURES" 3, .str "NOTHING" "-", .str "CELLS_WORD" "cells", .exm "BadText" "PageError" true] : List He.Fa)
def tfH : List He.Defn := [("are_values", none), ("law", none)]
def excB (K : PySem.W.Frag) (D : Addr) : Bool :=
  decide (PySem.W.findIn K (.ref D) "__getattribute__" = some (some (.builtin "BaseException.__getattribute__"))) && (decide (PySem.W.findIn K (.ref D) "__getattr__" = some none) && (decide (PySem.W.subIn K (.ref D) (.type "BaseException") = some true) &&
  (PySem.W.hasDictIn K D && (decide (PySem.W.findIn K (.ref D) "__class__" = some (some (.builtin "object.__class__"))) && (decide (PySem.W.specialIn K (.builtin "object.__class__") "__get__" = some (some (.builtin "getset_descriptor.__get__"))) &&
  (decide (PySem.W.takesIn K (.builtin "object.__class__") = some true) && decide (PySem.W.mroIn K D (.type "object") = some true)))))))
theorem excB_ok {K : PySem.W.Frag} {D : Addr} (h : excB K D = true) : ExcC K D := by
  obtain ⟨h1, h⟩ := He.ba h
  obtain ⟨h2, h⟩ := He.ba h
  obtain ⟨h3, h⟩ := He.ba h
  obtain ⟨h4, h⟩ := He.ba h
  obtain ⟨h5, h⟩ := He.ba h
  obtain ⟨h6, h⟩ := He.ba h
  obtain ⟨h7, h8⟩ := He.ba h
  exact ⟨of_decide_eq_true h1, of_decide_eq_true h2, of_decide_eq_true h3, h4, of_decide_eq_true h5, of_decide_eq_true h6, of_decide_eq_true h7, of_decide_eq_true h8⟩
/-- an error's class among the nine -/
def kitB9 (K : PySem.W.Frag) (i : Nat) : Bool := (List.range 9).all fun j => decide (PySem.W.kitOne K (.ref (He.ga K (wordsH.getD i ""))) (.ref (He.ga K (wordsH.getD j ""))) = some (decide (j = i)))
def exH (K : PySem.W.Frag) : Bool := (excB K (He.ga K "BadText") && (kitB9 K 4 && decide (PySem.W.kitOne K (.ref (He.ga K "BadText")) (.type "ValueError") = some true))) && (btB K (He.ga K "BadText") && decide ((tfH.map fun p => (He.cT K p).2).Nodup))
/-! ### the Hook: what the names reach, and the interpreter's statics -/
def asW (g : Addr → Option Obj) : List Addr := He.asD g 5 ++ [cStatics]
def frW (g : Addr → Option Obj) : PySem.W.Frag := He.frT g (asW g)
def obsH (g : Addr → Option Obj) : He.AlX × BtW := ((He.obsT faH fnH [] (frW g), exH (frW g) && He.tabsB g tfH (frW g)), btW (frW g))
def valH (w : World) : He.AlX × BtW := (He.valX fnH [] w, btV)
theorem saysW_of {w : World} {h : Heap} (e : obsH h.get? = valH w) : He.SaysX faH fnH [] tfH exH w h (frW h.get?) ∧ btW (frW h.get?) = btV := by
  have e1 : He.obsT faH fnH [] (frW h.get?) = He.valT fnH [] w := congrArg (fun z : He.AlX × BtW => z.1.1) e
  have e2 : (exH (frW h.get?) && He.tabsB h.get? tfH (frW h.get?)) = true := congrArg (fun z : He.AlX × BtW => z.1.2) e
  have e3 : btW (frW h.get?) = btV := congrArg (fun z : He.AlX × BtW => z.2) e
  obtain ⟨h1, h2⟩ := He.ba e2
  have row : ∀ p ∈ tfH, PySem.W.codeHdIn (frW h.get?) (He.cT (frW h.get?) p).1 (He.cT (frW h.get?) p).2 = true ∧ ∃ o, h.get? (He.cT (frW h.get?) p).2 = some o ∧ He.emptyTab o = true := fun p hp => by
    obtain ⟨q1, q2⟩ := He.ba (List.all_eq_true.mp h2 p hp)
    cases q : h.get? (He.cT (frW h.get?) p).2 with
    | none => rw [q] at q2; cases q2
    | some o => rw [q] at q2; exact ⟨q1, o, rfl, q2⟩
  refine ⟨⟨e1, h1, fun p hp => (row p hp).1, fun p hp => ?_, fun p hp => ?_⟩, e3⟩
  · obtain ⟨_, o, q, z⟩ := row p hp
    exact He.frT_none q z
  · obtain ⟨_, o, q, z⟩ := row p hp
    rw [q, He.emptyTab_eq z]
abbrev RH : PySem.W.OpenRow := PySem.W.OpenLaw.row PySem.Challenge.rw_slotpages_k18_texts_of_no_pages
def hkH : PySem.W.Hook where
  α := He.AlX × BtW
  obs := fun s => obsH s.heap.get?
  val := valH
  says := fun w h => ∃ K : PySem.W.Frag, K.In h ∧ He.SaysX faH fnH [] tfH exH w h K ∧ btW K = btV
  of := fun _ _ e => ⟨_, He.frT_in, saysW_of e⟩
  keeps := fun _ _ _ ⟨K, hK, c, b⟩ k => ⟨K, PySem.W.Frag.In.keeps hK k, ⟨c.t, c.more, c.hd, c.out, fun p hp => k _ _ (c.empty p hp)⟩, b⟩
def obH (s : PySem.W.SharedT) : He.AlX × BtW := obsH (HandSHeadRun.getT s)
theorem obH_eq (s : PySem.W.SharedT) : obH s = hkH.obs s.abs := by
  have e : HandSHeadRun.getT s = s.abs.heap.get? := funext (HandSHeadRun.getT_eq s)
  show obsH (HandSHeadRun.getT s) = obsH s.abs.heap.get?
  rw [e]
def looseH : List Str := (["PageError", "BadCount", "BadDisk", "BadPage", "BadRow", "BadText", "Full", "NoPage", "NoRow", "Stopped", "SLOTS", "CELLS", "MOST_PAGES", "GREATEST_CELL", "GREATEST_TURN", "SPENT_TURN"] : List Str) ++
  (["MOST_FIGURES", "NOTHING", "CELLS_WORD", "is_number", "is_tuple", "is_next", "_holds", "is_slot", "are_values", "are_cells", "rows_of", "number_of", "numbers_of", "read", "_cells_of", "_slot_of"] : List Str) ++
  (["_next_of", "_law_begun", "_law_take", "_law_alike", "_law_told", "_law_page", "_law_number", "_law_slot", "_law_read", "_law_spoilt", "_law_all"] : List Str)
theorem runH (w : World) : HandSHeadRun.RunEq RH (PySem.W.view RH.prog [48]) hkH obH 60000 looseH w := by
  intro os
  kernel_rfl
end GX
set_option maxHeartbeats 4000000
/-! the law's own reader as plain functions -/
namespace GX
open PySem PySem.Spec PyProof.Rows L2 LamX
def lnO (w : Str) (m : Nat) : Option Nat := match numO w with
  | some n => if n ≤ m then some n else none
  | none => none
theorem isNum_lnO (w : Str) (m : Nat) : isNum (numD (numO w)) 0 (m : Int) = (lnO w m).isSome := by
  unfold lnO
  cases e : numO w with
  | none => rfl
  | some n =>
    show (decide ((0 : Int) ≤ (n : Int)) && decide ((n : Int) ≤ (m : Int))) = (if n ≤ m then some n else none).isSome
    by_cases h : n ≤ m
    · rw [if_pos h, decide_eq_true (by omega), decide_eq_true (by omega)] <;> rfl
    · rw [if_neg h, decide_eq_false (p := (n : Int) ≤ (m : Int)) (by omega), Bool.and_false] <;> rfl
theorem lnO_num {w : Str} {m n : Nat} (h : lnO w m = some n) : numO w = some n ∧ n ≤ m := by
  unfold lnO at h
  cases e : numO w with
  | none => rw [e] at h; cases h
  | some k =>
    rw [e] at h
    by_cases hk : k ≤ m
    · have h : some k = some n := by rw [← h]; exact (if_pos hk).symm
      cases h
      exact ⟨rfl, hk⟩
    · have h : (none : Option Nat) = some n := by rw [← h]; exact (if_neg hk).symm
      cases h
/-- where the next stands; none: it can't be -/
def lbeh (d : Str) : Option PyData := if d = "-" then some .none else match (Txt.split d ".").map fun x => lnO x 11 with
  | [some x, some y] => if y ≤ 7 then some (.tuple [.int (x : Int), .int (y : Int)]) else none
  | _ => none
def lfive (w a b c d : Str) : PyData := match lbeh d, lnO a 99, lnO b 24, lnO c 24 with
  | some bh, some x, some y, some z => if y + z ≤ 24 ∧ ¬ (w = "part" ∧ z = 0) then .tuple [.str w, .int (x : Int), .int (y : Int), .int (z : Int), bh] else .none
  | _, _, _, _ => .none
def lfree (a : Str) : PyData := match lnO a 100 with
  | some n => .tuple [.str "free", .int (n : Int)]
  | none => .none
def lslot : List Str → PyData
  | [w, a] => if w = "free" then lfree a else .none
  | [w, a, b, c, d] => if w = "row" ∨ w = "part" then lfive w a b c d else .none
  | _ => .none
/-- what stands there, if it is a slot -/
def okSlot (ws : List Str) : PyData := if isSlot (slotWs ws) = true then slotWs ws else .none
theorem next_beh (d : Str) : lbeh d = if isNext (nextW d) = true then some (nextW d) else none := by
  unfold lbeh nextW
  by_cases h : d = "-"
  · rw [if_pos h, if_pos h]; rfl
  · rw [if_neg h, if_neg h]
    have key : ∀ l : List Str, (match l.map (fun x => lnO x 11) with
        | [some x, some y] => if y ≤ 7 then some (PyData.tuple [.int (x : Int), .int (y : Int)]) else none
        | _ => none) = if isNext (.tuple (l.map fun x => numD (numO x))) = true then some (.tuple (l.map fun x => numD (numO x))) else none := by
      intro l
      match l with
      | [] => rfl
      | [x] => cases e : lnO x 11 <;> simp [isNext, e]
      | [x, y] =>
        have hx : isNum (numD (numO x)) 0 11 = (lnO x 11).isSome := isNum_lnO x 11
        have hy : isNum (numD (numO y)) 0 7 = (lnO y 7).isSome := isNum_lnO y 7
        have hn : isNext (.tuple ([x, y].map fun x => numD (numO x))) = ((lnO x 11).isSome && (lnO y 7).isSome) := by
          show (isNum (numD (numO x)) 0 11 && isNum (numD (numO y)) 0 7) = _
          rw [hx, hy]
        rw [hn]
        cases ex : lnO x 11 with
        | none => simp [ex]
        | some a =>
          obtain ⟨nx, _⟩ := lnO_num ex
          cases ey : lnO y 11 with
          | none =>
            have e7 : lnO y 7 = none := by
              unfold lnO at ey ⊢
              cases q : numO y with
              | none => rfl
              | some k =>
                rw [q] at ey
                by_cases hk : k ≤ 7
                · have : (some k : Option Nat) = none := by rw [← ey]; exact (if_pos (by omega)).symm
                  cases this
                · exact if_neg hk
            simp [ex, ey, e7]
          | some b =>
            obtain ⟨ny, _⟩ := lnO_num ey
            have e7 : lnO y 7 = if b ≤ 7 then some b else none := by unfold lnO; rw [ny]
            by_cases hb : b ≤ 7
            · simp [ex, ey, e7, hb, nx, ny, numD]
            · simp [ex, ey, e7, hb]
      | x :: y :: z :: l =>
        have : isNext (.tuple ((x :: y :: z :: l).map fun x => numD (numO x))) = false := rfl
        rw [this]
        cases lnO x 11 <;> cases lnO y 11 <;> simp
    exact key _
theorem eqv_word (w x : Str) : PyData.eqv (.str w) (.str x) = decide (w = x) := by
  show (w == x) = _
  by_cases h : w = x
  · rw [h]; simp
  · rw [decide_eq_false h]; exact beq_eq_false_iff_ne.mpr h
theorem five_eq (w a b c d : Str) : (if w = "row" ∨ w = "part" then lfive w a b c d else .none) = if isSlot (slotWs [w, a, b, c, d]) = true then slotWs [w, a, b, c, d] else .none := by
  have es : slotWs [w, a, b, c, d] = .tuple [.str w, numD (numO a), numD (numO b), numD (numO c), nextW d] := rfl
  rw [es, isSlot_cons, eqv_word, eqv_word, eqv_word, holds_4, holds_4]
  have ha : isNum (numD (numO a)) 0 99 = (lnO a 99).isSome := isNum_lnO a 99
  have hb : isNum (numD (numO b)) 0 24 = (lnO b 24).isSome := isNum_lnO b 24
  rw [ha, hb]
  by_cases hf : w = "free"
  · have h1 : ¬ (w = "row" ∨ w = "part") := by
      rw [hf]
      intro z
      rcases z with z | z
      · exact absurd z (by decide +kernel)
      · exact absurd z (by decide +kernel)
    rw [if_neg h1, decide_eq_true hf, if_pos rfl]
    rfl
  rw [decide_eq_false hf, if_neg Bool.false_ne_true]
  unfold lfive
  rw [next_beh d]
  cases qa : lnO a 99 with
  | none =>
    have e1 : ∀ x y : Option PyData, (match x, (none : Option Nat), lnO b 24, lnO c 24 with
        | some bh, some x, some y, some z => if y + z ≤ 24 ∧ ¬ (w = "part" ∧ z = 0) then PyData.tuple [.str w, .int (x : Int), .int (y : Int), .int (z : Int), bh] else .none
        | _, _, _, _ => .none) = .none := fun x _ => by cases x <;> rfl
    rw [e1 _ none]
    simp
  | some x =>
    obtain ⟨na, _⟩ := lnO_num qa
    cases qb : lnO b 24 with
    | none =>
      have e1 : ∀ x2 : Option PyData, (match x2, some x, (none : Option Nat), lnO c 24 with
          | some bh, some x, some y, some z => if y + z ≤ 24 ∧ ¬ (w = "part" ∧ z = 0) then PyData.tuple [.str w, .int (x : Int), .int (y : Int), .int (z : Int), bh] else .none
          | _, _, _, _ => .none) = .none := fun x => by cases x <;> rfl
      rw [e1]
      simp
    | some y =>
      obtain ⟨nb, hy⟩ := lnO_num qb
      rw [nb]
      show _ = if (if decide (w = "row") = true then ((some x).isSome && (some y).isSome && isNum (numD (numO c)) 0 (24 - (y : Int)) && isNext (nextW d)) else decide (w = "part") && ((some x).isSome && (some y).isSome && isNum (numD (numO c)) 1 (24 - (y : Int)) && isNext (nextW d))) = true then PyData.tuple [.str w, numD (numO a), .int (y : Int), numD (numO c), nextW d] else .none
      rw [na]
      cases nc : numO c with
      | none =>
        have qc : lnO c 24 = none := by unfold lnO; rw [nc]
        rw [qc]
        have e1 : ∀ x2 : Option PyData, (match x2, some x, some y, (none : Option Nat) with
            | some bh, some x, some y, some z => if y + z ≤ 24 ∧ ¬ (w = "part" ∧ z = 0) then PyData.tuple [.str w, .int (x : Int), .int (y : Int), .int (z : Int), bh] else .none
            | _, _, _, _ => .none) = .none := fun x => by cases x <;> rfl
        rw [e1]
        simp [numD, isNum]
      | some z =>
        have qc : lnO c 24 = if z ≤ 24 then some z else none := by unfold lnO; rw [nc]
        rw [qc]
        have i0 : isNum (numD (some z)) 0 (24 - (y : Int)) = decide (y + z ≤ 24) := by
          show (decide ((0 : Int) ≤ (z : Int)) && decide ((z : Int) ≤ 24 - (y : Int))) = _
          rw [decide_eq_true (p := (0 : Int) ≤ (z : Int)) (by omega), Bool.true_and]
          by_cases h : y + z ≤ 24
          · rw [decide_eq_true h, decide_eq_true (by omega)]
          · rw [decide_eq_false h, decide_eq_false (by omega)]
        have i1 : isNum (numD (some z)) 1 (24 - (y : Int)) = (decide (y + z ≤ 24) && decide (¬ z = 0)) := by
          show (decide ((1 : Int) ≤ (z : Int)) && decide ((z : Int) ≤ 24 - (y : Int))) = _
          by_cases h : y + z ≤ 24
          · rw [decide_eq_true h, decide_eq_true (p := (z : Int) ≤ 24 - (y : Int)) (by omega), Bool.and_true, Bool.true_and]
            by_cases h0 : z = 0
            · rw [decide_eq_false (by omega), decide_eq_false (by omega)]
            · rw [decide_eq_true (by omega), decide_eq_true h0]
          · rw [decide_eq_false h, decide_eq_false (p := (z : Int) ≤ 24 - (y : Int)) (by omega), Bool.and_false, Bool.false_and]
        rw [i0, i1]
        have rp : ¬ (("row" : Str) = "part") := by decide +kernel
        by_cases hz : z ≤ 24
        · rw [if_pos hz]
          by_cases hn : isNext (nextW d) = true
          · rw [hn, if_pos rfl]
            by_cases hr : w = "row"
            · subst hr
              by_cases h : y + z ≤ 24 <;> simp [h, rp, numD]
            · by_cases hp : w = "part"
              · subst hp
                by_cases h : y + z ≤ 24 <;> by_cases h0 : z = 0 <;> simp [h, h0, hr, numD]
              · simp [hr, hp]
          · have hn' : isNext (nextW d) = false := by simpa using hn
            rw [hn', if_neg Bool.false_ne_true]
            simp
        · rw [if_neg hz]
          have h : ¬ y + z ≤ 24 := by omega
          cases (if isNext (nextW d) = true then some (nextW d) else none) <;> simp [h]
theorem lslot_eq (ws : List Str) : lslot ws = okSlot ws := by
  unfold okSlot
  match ws with
  | [] => rfl
  | [w] =>
    have : isSlot (slotWs [w]) = false := by
      show isSlot (.tuple [.str w]) = false
      unfold isSlot
      simp [holds]
    rw [this]
    rfl
  | [w, a] =>
    have e : isSlot (slotWs [w, a]) = (decide (w = "free") && (lnO a 100).isSome) := by
      show isSlot (.tuple [.str w, numD (numO a)]) = _
      rw [isSlot_cons, eqv_word]
      by_cases h : w = "free"
      · rw [decide_eq_true h, if_pos rfl, Bool.true_and]
        exact isNum_lnO a 100
      · rw [decide_eq_false h]
        simp [holds]
    rw [e]
    show (if w = "free" then lfree a else .none) = _
    by_cases h : w = "free"
    · rw [if_pos h, decide_eq_true h, Bool.true_and]
      unfold lfree
      cases q : lnO a 100 with
      | none => rfl
      | some n =>
        obtain ⟨q2, _⟩ := lnO_num q
        show PyData.tuple [.str "free", .int (n : Int)] = .tuple [.str w, numD (numO a)]
        rw [h, q2] <;> rfl
    · rw [if_neg h, decide_eq_false h]
      rfl
  | [w, a, b] =>
    have : isSlot (slotWs [w, a, b]) = false := by
      show isSlot (.tuple [.str w, numD (numO a), numD (numO b)]) = false
      unfold isSlot
      simp [holds]
    rw [this]
    rfl
  | [w, a, b, c] =>
    have : isSlot (slotWs [w, a, b, c]) = false := by
      show isSlot (.tuple [.str w, numD (numO a), numD (numO b), numD (numO c)]) = false
      unfold isSlot
      simp [holds]
    rw [this]
    rfl
  | [w, a, b, c, d] => exact five_eq w a b c d
  | w :: a :: b :: c :: d :: e :: r =>
    have : isSlot (slotWs (w :: a :: b :: c :: d :: e :: r)) = false := by
      show isSlot (.tuple (.str w :: numD (numO a) :: numD (numO b) :: numD (numO c) :: nextW d :: nextW e :: r.map nextW)) = false
      unfold isSlot
      simp [holds]
    rw [this]
    rfl
end GX
/-! the law's _law_number -/
namespace GX
open PySem PySem.Spec PyProof.Rows L2 LamX
def spLNum (T : List (Addr × Str)) : Sp := fun vs H Q _ => ∃ (w : Str) (m : Nat), vs = [.str w, .int (m : Int)] ∧ w.length ≤ 15000 ∧ Asc w ∧ ∀ H', XX T H H' → Q (numV (lnO w m)) H'
/-- the signs that are no figures -/
def oddL (l : List Nat) : List Nat := l.filter fun c => !(decide (48 ≤ c) && decide (c ≤ 57))
theorem figs (c : Nat) : decide (c ∈ ("0123456789" : Str).cps.toList) = (decide (48 ≤ c) && decide (c ≤ 57)) := by
  have e : ("0123456789" : Str).cps.toList = [48, 49, 50, 51, 52, 53, 54, 55, 56, 57] := by decide +kernel
  rw [e, Bool.eq_iff_iff]
  simp
  omega
def signD (c : Nat) : PyData := .str ⟨#[c]⟩
theorem sign_sh {l : List Nat} (h : ∀ c ∈ l, c < 128) : SeqAt.shaped (.list (l.map signD)) = true := by
  have h1 : PyData.canLayAll0 (l.map signD) = true ∧ PyData.depthAll (l.map signD) = 0 := by
    induction l with
    | nil => exact ⟨rfl, rfl⟩
    | cons c l ih =>
      obtain ⟨q1, q2⟩ := ih fun d hd => h d (List.mem_cons_of_mem _ hd)
      refine ⟨?_, ?_⟩
      · show (PyData.canLay0 (signD c) && PyData.canLayAll0 (l.map signD)) = true
        rw [q1, Bool.and_true]
        refine strOk_asc (x := ⟨#[c]⟩) fun d hd => ?_
        have : d = c := by simpa [TL.tl] using hd
        rw [this]
        exact h c List.mem_cons_self
      · show max 0 (PyData.depthAll (l.map signD)) = 0
        rw [q2] <;> rfl
  unfold SeqAt.shaped
  have hc : PyData.canLay0 (.list (l.map signD)) = true := h1.1
  have hd : PyData.depth (.list (l.map signD)) ≤ 64 := by
    show PyData.depthAll (l.map signD) + 1 ≤ 64
    rw [h1.2]; decide
  rw [hc, decide_eq_true hd] <;> rfl
section
variable {P : Program} {w : World} {K : PySem.W.Frag} {mg : Str → Option Value} {base : Heap} {T : List (Addr × Str)}
abbrev lnN : List Str := ["_law_word", "_law_most", "_law_number_here", "_law_sign"]
theorem sc_lnumber : FnScope lnN ["_law_word", "_law_most"] (defScope s_lnumber) := ⟨rfl, rfl, rfl, by decide +kernel, rfl, by decide +kernel, by decide +kernel⟩
theorem ok_lnumber {f : Addr} {fd : FuncData} (F : L2.Fun K "_law_number" "_law_number" s_lnumber f fd) (B : Blt mg) (bs : mg "str" = none) : FnOk P w K mg base CX0 1 f fd ["_law_word", "_law_most"] (spLNum T) := by
  refine F.ok sc_lnumber (fun vs H Q E h => by obtain ⟨x, m, rfl, _⟩ := h; rfl) (fun cdv A outer s H vs Q E hr h => ?_)
  obtain ⟨x, m, rfl, hx, hasc, k⟩ := h
  have nd := sc_lnumber.nd
  refine ⟨_, pss_cons (ps_if (PW.pt (pw_or (pt_not (pt_chain op_le op_le pe_int (pe_callB call_len_str (by rfl) B.len PySem.boot_len (pa_cons (pv 0) pa_nil)) pe_int))
      (pw_or1 (pt_cmpR (op_neD hr.units) (pe_lc (own := [("_law_sign", 3)]) (g := gName 3) (tt := _) (by rfl) nd (pi_str (pv 0)) (blkOk_by (own := [("_law_sign", 3)]) (N := lnN) (sc := defScope s_lnumber) (by decide +kernel))
        (fun _ _ _ _ _ => pg_name (i := 3) nd rfl (Or.inl rfl)) (fun _ _ _ _ _ => pts_one (pt_cmpR op_notIn_sign (pv 3) pe_str (by rfl))) (fun _ _ _ _ _ => pv 3)) (pe_lst pa_nil) (nomark _))))) (pss_one (ps_ret pe_non)) pss_nil)
    (pss_cons (ps_set (i := 2) nd rfl (Or.inl rfl) (pe_callTy call_int_str (by rfl) B.int (by decide +kernel) (pa_cons (pv 0) pa_nil)))
    (pss_one (ps_ret (pe_ifExp (PW.pt (pw_and (pt_cmpR op_eq (pe_callTy call_str_int (by rfl) bs (by decide +kernel) (pa_cons (pv 2) pa_nil)) (pv 0) (nomark _)) (pw_and1 (pt_cmpR op_le (pv 2) (pv 1) (nomark _))))) (pv 2) pe_non)))), ?_⟩
  have tail : ∀ (L : L2.St) (H2 : Hp), L[0]? = some (some (.str x)) → L[1]? = some (some (.int (m : Int))) → L.length = 4 → XX T H H2 → okW x = true →
      tSeq (tAsg (tCB (fun xs H Q => ∃ a n, xs = [.str a] ∧ PySem.intText? a = some n ∧ a.length ≤ 640 ∧ Q (.int n) H) (tCons (tVar 0) tNil)) (gName 2))
        (tRet (tIf (tAnd (tTest (tOp rEq (tCB (fun xs H Q => ∃ i, xs = [.int i] ∧ i.natAbs.log2 < 1920 ∧ Q (.str (toString i)) H) (tCons (tVar 2) tNil)) (tVar 0))) (tTest (tOp (rI0 fun i j => .bl (decide (i ≤ j))) (tVar 2) (tVar 1)))) (tVar 2) (tC .non)))
        { nx := fun _ H' => Q .non H', rt := Q } L H2 := by
    intro L H2 l0 l1 ll x2 ok
    have lt := valW_lt ok
    have hle : x.length ≤ 3 := by
      unfold okW at ok
      have q := Bool.and_eq_true_iff.mp ok
      exact of_decide_eq_true (Bool.and_eq_true_iff.mp q.2).2
    have s0 : ∀ u, (L.set 2 u)[0]? = some (some (.str x)) := fun u => by rw [List.getElem?_set_ne (by decide)]; exact l0
    have s1 : ∀ u, (L.set 2 u)[1]? = some (some (.int (m : Int))) := fun u => by rw [List.getElem?_set_ne (by decide)]; exact l1
    have s2 : ∀ u, (L.set 2 u)[2]? = some u := fun u => by rw [List.getElem?_set_self (by omega)]
    refine ⟨_, l0, x, _, rfl, okW_int ok, by omega, ?_⟩
    dsimp only [gName]
    refine ⟨_, s2 _, _, rfl, ?_, _, s0 _, rfl, _, rfl, ?_⟩
    · have : ((valW x : Nat) : Int).natAbs = valW x := by omega
      rw [this]
      exact Nat.lt_of_le_of_lt (Nat.log2_le_self _) (by omega)
    · by_cases h4 : Str.ofString (toString ((valW x : Nat) : Int)) = x
      · have e : numO x = some (valW x) := by unfold numO; rw [if_pos ⟨ok, h4⟩]
        rw [decide_eq_true (by rw [h4])]
        refine iteT ⟨_, s2 _, _, s1 _, _, _, rfl, rfl, _, rfl, ?_⟩
        by_cases hm : valW x ≤ m
        · have e2 : lnO x m = some (valW x) := by unfold lnO; rw [e]; exact if_pos hm
          have kk := k H2 x2
          rw [e2] at kk
          rw [decide_eq_true (by omega)]
          exact iteT ⟨_, s2 _, kk⟩
        · have e2 : lnO x m = none := by unfold lnO; rw [e]; exact if_neg hm
          have kk := k H2 x2
          rw [e2] at kk
          rw [decide_eq_false (by omega)]
          exact iteF kk
      · have e : lnO x m = none := by unfold lnO numO; rw [if_neg fun z => h4 z.2]
        have kk := k H2 x2
        rw [e] at kk
        rw [decide_eq_false (fun z => h4 (V.str.inj z))]
        exact iteF (iteF kk)
  have none_of : okW x = false → ∀ H2, XX T H H2 → Q .non H2 := fun h H2 x2 => by
    have kk := k H2 x2
    have e : lnO x m = none := by unfold lnO numO; rw [if_neg fun z => by rw [h] at z; cases z.1]
    rw [e] at kk
    exact kk
  refine ⟨_, rfl, x, rfl, by rw [sizeLine_eq]; omega, _, _, rfl, rfl, _, rfl, ?_⟩
  by_cases h1 : 1 ≤ x.length
  · rw [decide_eq_true (by omega)]
    refine iteT ⟨_, _, rfl, rfl, _, rfl, ?_⟩
    by_cases h3 : x.length ≤ 3
    · rw [decide_eq_true (by omega)]
      refine iteF ⟨_, rfl, x, rfl, fun D hD => ?_⟩
      have hsz : x.cps.size = (TL.tl x).length := by simp [TL.tl]
      have tk : ∀ n, n ≤ (TL.tl x).length → (oddL ((TL.tl x).take n)).length ≤ 3 := fun n _ => by
        have q1 : (oddL ((TL.tl x).take n)).length ≤ ((TL.tl x).take n).length := List.length_filter_le _ _
        rw [List.length_take] at q1
        rw [TL.len_tl] at h3
        omega
      refine lc_it walk_str (fun j H' => XX T H H' ∧ ∃ acc, H' D = some (.lst acc) ∧ acc = (oddL ((TL.tl x).take j)).map fun c => V.str ⟨#[c]⟩) ⟨XX.new hD, [], upd_same, rfl⟩ (fun j H' _ _ => True.intro) (fun j u H' H'' hj pv yy => ⟨rfl, ?_⟩) (fun H' pv => ?_)
      · obtain ⟨rfl, c, hc, rfl⟩ := yy
        obtain ⟨x1, acc, e1, ea⟩ := pv
        have hj2 : j < (TL.tl x).length := by rw [← hsz]; exact hj
        have ec : (TL.tl x)[j] = c := by
          have : (TL.tl x)[j]? = some c := by simpa [TL.tl] using hc
          rw [List.getElem?_eq_getElem hj2] at this
          exact Option.some.inj this
        have et : (TL.tl x).take (j + 1) = (TL.tl x).take j ++ [c] := by
          rw [List.take_succ, List.getElem?_eq_getElem hj2, ec] <;> rfl
        refine ⟨_, rfl, c, _, rfl, rfl, _, rfl, ?_⟩
        rw [figs]
        have eo : oddL ((TL.tl x).take (j + 1)) = oddL ((TL.tl x).take j) ++ (if (!(decide (48 ≤ c) && decide (c ≤ 57))) = true then [c] else []) := by
          rw [et]
          unfold oddL
          rw [List.filter_append]
          congr 1
          by_cases q : (!(decide (48 ≤ c) && decide (c ≤ 57))) = true
          · rw [if_pos q, List.filter_cons, if_pos q]; rfl
          · rw [if_neg q, List.filter_cons, if_neg q]; rfl
        have t3 := tk j (by omega)
        by_cases q : (!(decide (48 ≤ c) && decide (c ≤ 57))) = true
        · rw [q]
          rw [if_pos q] at eo
          refine iteT ⟨_, rfl, acc, e1, by rw [ea, List.length_map, sizeLine_eq]; omega, x1.fillD hD e1, _, upd_same, ?_⟩
          rw [eo, List.map_append, ea] <;> rfl
        · rw [show (!(decide (48 ≤ c) && decide (c ≤ 57))) = false by simpa using q]
          rw [if_neg q, List.append_nil] at eo
          exact iteF ⟨x1, acc, e1, by rw [eo]; exact ea⟩
      · obtain ⟨x1, acc, e1, ea⟩ := pv
        rw [hsz, List.take_length] at ea
        refine ⟨Nat.zero_le _, fun p hp => ?_⟩
        have e2 : upd H' p (.lst []) D = some (.lst acc) := by rw [upd_ne (ne_of_none e1 hp)]; exact e1
        have hm : ∀ c ∈ oddL (TL.tl x), c < 128 := fun c hc => hasc c (List.mem_filter.mp hc).1
        have da : ∀ l : List Nat, DpAll K (upd H' p (.lst [])) (l.map fun c => V.str ⟨#[c]⟩) (l.map signD) := by
          intro l
          induction l with
          | nil => exact .nil
          | cons c l ih => exact .cons (.str _) ih
        have x2 := x1.then_new (o := .lst []) hp
        refine ⟨.list ((oddL (TL.tl x)).map signD), .list [], .lst (SqL.of (by rw [e2, ea])) (da _), .lst (SqL.of upd_same) .nil, sign_sh hm, shaped_nil, _, rfl, ?_⟩
        have ok : okW x = (oddL (TL.tl x)).isEmpty := by
          unfold okW digW oddL
          rw [decide_eq_true h1, decide_eq_true h3, Bool.and_true, Bool.and_true, Bool.eq_iff_iff, List.isEmpty_iff, List.filter_eq_nil_iff, List.all_eq_true]
          constructor
          · intro h c hc; simp only [h c hc]; simp
          · intro h c hc; have := h c hc; simpa using this
        cases q : oddL (TL.tl x) with
        | nil =>
          rw [q] at ok
          rw [show (!PyData.eqv (.list (([] : List Nat).map signD)) (.list [])) = false from rfl]
          exact iteF (tail _ _ rfl rfl rfl x2 ok)
        | cons c l =>
          rw [q] at ok
          rw [show (!PyData.eqv (.list ((c :: l).map signD)) (.list [])) = true from rfl]
          exact iteT (none_of ok _ x2)
    · rw [decide_eq_false (by omega)]
      have ok : okW x = false := by unfold okW; rw [decide_eq_false h3] <;> simp
      exact iteT (none_of ok _ (XX.refl H))
  · rw [decide_eq_false (by omega)]
    have ok : okW x = false := by unfold okW; rw [decide_eq_false h1] <;> simp
    exact iteF ⟨_, rfl, iteT (none_of ok _ (XX.refl H))⟩
end
end GX
/-! expressions that tell texts, with draws between -/
namespace GX
open PySem PySem.Spec PyProof.Rows L2 LamX
/-! ### texts and their lengths -/
theorem len_app (x y : Str) : (x ++ y).length = x.length + y.length := by rw [TL.len_tl, TL.tl_append, List.length_append, ← TL.len_tl, ← TL.len_tl]
theorem Asc.app {x y : Str} (h1 : Asc x) (h2 : Asc y) : Asc (x ++ y) := fun c hc => by
  rw [TL.tl_append] at hc
  exact (List.mem_append.mp hc).elim (h1 c) (h2 c)
def szL (ws : List Str) : Nat := (ws.map fun w => w.length + 1).sum
theorem szL_cons (w : Str) (ws : List Str) : szL (w :: ws) = (w.length + 1) + szL ws := by unfold szL; rw [List.map_cons, List.sum_cons]
theorem szL_app (a b : List Str) : szL (a ++ b) = szL a + szL b := by unfold szL; rw [List.map_append, List.sum_append]
theorem szL_mem {w : Str} : ∀ {ws : List Str}, w ∈ ws → w.length + 1 ≤ szL ws
  | x :: ws, h => by
    rw [szL_cons]
    rcases List.mem_cons.mp h with e | h
    · rw [e]; omega
    · have := szL_mem h
      omega
theorem szL_take (ws : List Str) (k : Nat) : szL (ws.take k) + szL (ws.drop k) = szL ws := by rw [← szL_app, List.take_append_drop]
theorem szL_le {n : Nat} : ∀ {ws : List Str}, (∀ w ∈ ws, w.length ≤ n) → szL ws ≤ ws.length * (n + 1)
  | [], _ => Nat.zero_le _
  | w :: ws, h => by
    rw [szL_cons, List.length_cons, Nat.succ_mul]
    have := szL_le fun x hx => h x (List.mem_cons_of_mem w hx)
    have := h w List.mem_cons_self
    omega
theorem szL_sum (ws : List Str) : (ws.map (·.length)).sum + ws.length = szL ws := by
  induction ws with
  | nil => rfl
  | cons w ws ih =>
    rw [szL_cons, List.map_cons, List.sum_cons, List.length_cons]
    omega
theorem szL_len (ws : List Str) : ws.length ≤ szL ws := by rw [← szL_sum]; omega
theorem join_len {s : Str} (hs : s.length = 1) (ws : List Str) : (Txt.join s ws).length ≤ szL ws := by
  rw [TL.join_eq]
  have := StrLaws.join_length_le s ws
  rw [hs, Nat.mul_one, szL_sum] at this
  exact this
theorem joinL_mem {S : List Nat} {c : Nat} : ∀ {l : List (List Nat)}, c ∈ TL.joinL S l → c ∈ S ∨ ∃ p ∈ l, c ∈ p
  | [], h => absurd h (by simp [TL.joinL])
  | [p], h => .inr ⟨p, by simp, h⟩
  | p :: q :: r, h => by
    have h : c ∈ p ++ (S ++ TL.joinL S (q :: r)) := h
    rcases List.mem_append.mp h with h | h
    · exact .inr ⟨p, by simp, h⟩
    · rcases List.mem_append.mp h with h | h
      · exact .inl h
      · rcases joinL_mem h with h | ⟨x, hx, h⟩
        · exact .inl h
        · exact .inr ⟨x, List.mem_cons_of_mem _ hx, h⟩
theorem join_asc {s : Str} {ws : List Str} (h1 : Asc s) (h2 : ∀ w ∈ ws, Asc w) : Asc (Txt.join s ws) := fun c hc => by
  rw [TL.join_eq, TL.tl_join] at hc
  rcases joinL_mem hc with h | ⟨p, hp, h⟩
  · exact h1 c h
  · obtain ⟨w, hw, rfl⟩ := List.mem_map.mp hp
    exact h2 w hw c h
theorem num_len {n : Nat} (h : n < 1000) : (Str.ofString (toString ((n : Nat) : Int))).length ≤ 3 := by
  rw [TL.len_tl, TL.tl_num]
  by_cases h1 : n < 10
  · rw [TL.numL_lt h1]; show 1 ≤ 3; decide
  · rw [TL.numL_step (by omega), List.length_append, List.length_singleton]
    by_cases h2 : n / 10 < 10
    · rw [TL.numL_lt h2]; show 1 + 1 ≤ 3; decide
    · rw [TL.numL_step (by omega), List.length_append, List.length_singleton, TL.numL_lt (by omega)]
      show 1 + 1 + 1 ≤ 3; decide
theorem num_asc (n : Nat) : Asc (Str.ofString (toString ((n : Nat) : Int))) := fun c hc => by
  rw [TL.tl_num] at hc
  have := TL.numL_digits n c hc
  omega
def ascB (w : Str) : Bool := (TL.tl w).all fun c => decide (c < 128)
theorem asc_by {w : Str} (h : ascB w = true) : Asc w := fun c hc => of_decide_eq_true (List.all_eq_true.mp h c hc)
/-- a text of at most n signs -/
def Txo (n : Nat) (w : Str) : Prop := w.length ≤ n ∧ Asc w
theorem Txo.mono {n m : Nat} {w : Str} (h : Txo n w) (hm : n ≤ m) : Txo m w := ⟨Nat.le_trans h.1 hm, h.2⟩
theorem txo_by {n : Nat} {w : Str} (h : (decide (w.length ≤ n) && ascB w) = true) : Txo n w := by
  have q := Bool.and_eq_true_iff.mp h
  exact ⟨of_decide_eq_true q.1, asc_by q.2⟩
theorem txo_num {n : Nat} (h : n < 1000) : Txo 3 (Str.ofString (toString ((n : Nat) : Int))) := ⟨num_len h, num_asc n⟩
theorem txo_int {i : Int} (h0 : 0 ≤ i) (h1 : i < 1000) : Txo 3 (Str.ofString (toString i)) := by
  obtain ⟨n, rfl⟩ := Int.eq_ofNat_of_zero_le h0
  exact txo_num (by omega)
/-! ### readings -/
abbrev SB2 (b l : Addr) : Addr → Prop := fun c => c = b ∨ c = l
/-- te tells a text -/
def TxE (T : List (Addr × Str)) (b l : Addr) (te : TE) (n : Nat) (σ : L2.St) : Prop := ∀ H ns z (Q : VK), BoxAt H b l ns z → (∀ H' ns' z' w, XM T (SB2 b l) H H' → BoxAt H' b l ns' z' → Txo n w → Q (.str w) H') → te σ H Q
/-- ta tells k texts -/
def TxA (T : List (Addr × Str)) (b l : Addr) (ta : TA) (k n : Nat) (σ : L2.St) : Prop := ∀ H ns z (Q : List V → Hp → Prop), BoxAt H b l ns z → (∀ H' ns' z' (ws : List Str), XM T (SB2 b l) H H' → BoxAt H' b l ns' z' → ws.length = k → (∀ w ∈ ws, Txo n w) → Q (ws.map V.str) H') → ta σ H Q
def rStrI : List V → Hp → VK → Prop := fun xs H Q => ∃ i : Int, xs = [.int i] ∧ i.natAbs.log2 < 1920 ∧ Q (.str (toString i)) H
def rAddT : R2 := fun x y H Q => ∃ i j : Str, x = .str i ∧ y = .str j ∧ i.length + j.length ≤ sizeLine ∧ Q (.str (i ++ j)) H
def rJoinT (K : PySem.W.Frag) : V → List V → Hp → VK → Prop := fun x xs H Q => ∃ a p, ∃ ys : List Str, x = .str a ∧ xs = [.ref p] ∧ (SqL K H p (ys.map V.str) ∨ SqT K H p (ys.map V.str)) ∧ (ys.map (·.length)).sum + ys.length * a.length ≤ 16777216 ∧ Q (.str (Txt.join a ys)) H
section
variable {X : Cx}
theorem call_strI : CallR X (.type "str") rStrI := call_str_int
theorem op_addT : OpR X (binaryOp .Add) rAddT := op_add_str
theorem pe_joinT {o e : Expr} {to te : TE} {apos pos : Pos} (ho : PE X o to) (he : PE X e te) (hs : starEach [e] X.env = [(false, eval e X.env)] := by rfl) (hbase : attributeBase o "join" X.env (eval o X.env) = eval o X.env := by rfl) (hline : (apos.endLine == pos.line) = true := by rfl) :
    PE X (.Call (.Attribute o "join" apos) [e] [] pos) (tM1 (rJoinT X.K) to te) := pe_join ho he hs hbase hline
end
section
variable {T : List (Addr × Str)} {b l : Addr} {K : PySem.W.Frag} {σ : L2.St} {n m k : Nat} {ta tb : TE} {tA : TA}
theorem XM.box {H H' : Hp} (x : XX T H H') : XM T (SB2 b l) H H' := x.xm
theorem TxE.mono (h : TxE T b l ta n σ) (hm : n ≤ m) : TxE T b l ta m σ := fun H ns z Q bx q => h H ns z Q bx fun H' ns' z' w a bx' t => q H' ns' z' w a bx' (t.mono hm)
theorem txe_str {w : Str} (h : Txo n w) : TxE T b l (tC (.str w)) n σ := fun H ns z Q bx q => q H ns z w (XM.refl H) bx h
theorem txe_var {i : Nat} {w : Str} (e : σ[i]? = some (some (.str w))) (h : Txo n w) : TxE T b l (tVar i) n σ := fun H ns z Q bx q => ⟨_, e, q H ns z w (XM.refl H) bx h⟩
theorem small_int {i : Int} (h0 : 0 ≤ i) (h1 : i < 1000) : i.natAbs.log2 < 1920 := by
  obtain ⟨n, rfl⟩ := Int.eq_ofNat_of_zero_le h0
  exact small_log (by omega)
/-- str(take(box, m)) -/
theorem txe_draw {m : Int} (hσ : σ[0]? = some (some (.ref b))) (h0 : 0 < m) (h1 : m ≤ 1000) : TxE T b l (tCB rStrI (tCons (tCall (spTake T) [] E0 (tCons (tVar 0) (tCons (tC (.int m)) tNil))) tNil)) 3 σ := fun H ns z Q bx q =>
  ⟨_, hσ, b, l, ns, z, m, rfl, bx, h0, by omega, fun H' ns' z' r a bx' r0 r1 => ⟨r, rfl, small_int r0 (by omega), q H' ns' z' _ a bx' (txo_int r0 (by omega))⟩⟩
/-- str(x) -/
theorem txe_num {i : Nat} {r : Int} (e : σ[i]? = some (some (.int r))) (h0 : 0 ≤ r) (h1 : r < 1000) : TxE T b l (tCB rStrI (tCons (tVar i) tNil)) 3 σ := fun H ns z Q bx q =>
  ⟨_, e, r, rfl, small_int h0 h1, q H ns z _ (XM.refl H) bx (txo_int h0 h1)⟩
theorem txe_add (h1 : TxE T b l ta n σ) (h2 : TxE T b l tb m σ) (hb : n + m ≤ 1000) : TxE T b l (tOp rAddT ta tb) (n + m) σ := fun H ns z Q bx q =>
  h1 H ns z _ bx fun H1 ns1 z1 w1 a1 bx1 t1 => h2 H1 ns1 z1 _ bx1 fun H2 ns2 z2 w2 a2 bx2 t2 => ⟨w1, w2, rfl, rfl, by rw [sizeLine_eq]; have := t1.1; have := t2.1; omega, q H2 ns2 z2 _ (a1.trans a2) bx2 ⟨by rw [len_app]; have := t1.1; have := t2.1; omega, t1.2.app t2.2⟩⟩
theorem txa_nil : TxA T b l tNil 0 n σ := fun H ns z Q bx q => q H ns z [] (XM.refl H) bx rfl fun w hw => absurd hw (by simp)
theorem txa_cons (h1 : TxE T b l ta n σ) (h2 : TxA T b l tA k n σ) : TxA T b l (tCons ta tA) (k + 1) n σ := fun H ns z Q bx q =>
  h1 H ns z _ bx fun H1 ns1 z1 w1 a1 bx1 t1 => h2 H1 ns1 z1 _ bx1 fun H2 ns2 z2 ws a2 bx2 hl hw => q H2 ns2 z2 (w1 :: ws) (a1.trans a2) bx2 (by rw [List.length_cons, hl]) fun w hm => by
    rcases List.mem_cons.mp hm with e | hm
    · rw [e]; exact t1
    · exact hw w hm
/-- [..][take(box, m)] -/
theorem txe_pick {m : Int} (h : TxA T b l tA k n σ) (hσ : σ[0]? = some (some (.ref b))) (hm : (k : Int) = m) (h0 : 0 < k) (h1 : k ≤ 1000) : TxE T b l (tOp (rIxL K) (tLst tA) (tCall (spTake T) [] E0 (tCons (tVar 0) (tCons (tC (.int m)) tNil)))) n σ := fun H ns z Q bx q =>
  h H ns z _ bx fun H1 ns1 z1 ws a1 bx1 hl hw => ⟨by rw [List.length_map, hl, sizeLine_eq]; omega, fun p hp => ⟨_, hσ, b, l, ns1, z1, m, rfl, bx1.xx (XX.new (T := T) hp), by omega, by omega, fun H2 ns2 z2 r a2 bx2 r0 r1 => by
    obtain ⟨j, rfl⟩ := Int.eq_ofNat_of_zero_le r0
    have hj : j < ws.length := by omega
    have nb : ¬ (p = b ∨ p = l) := fun q => by
      rcases q with q | q
      · rw [q, bx1.hb] at hp; cases hp
      · rw [q, bx1.hl] at hp; cases hp
    exact ⟨p, ws.map V.str, _, .str ws[j], rfl, rfl, SqL.of (a2.lst upd_same nb), atI_nat (by rw [List.getElem?_map, List.getElem?_eq_getElem hj]; rfl), q H2 ns2 z2 _ ((a1.then_new hp).trans a2) bx2 (hw _ (List.getElem_mem hj))⟩⟩⟩
/-- " ".join([..]) -/
theorem txe_join {s : Str} (hs : s.length = 1) (ha : Asc s) (h : TxA T b l tA k n σ) (hb : k * (n + 1) ≤ 10000) (hk : k ≤ 1000) : TxE T b l (tM1 (rJoinT K) (tC (.str s)) (tLst tA)) (k * (n + 1)) σ := fun H ns z Q bx q =>
  ⟨⟨s, rfl⟩, h H ns z _ bx fun H1 ns1 z1 ws a1 bx1 hl hw => ⟨by rw [List.length_map, hl, sizeLine_eq]; omega, fun p hp => by
    have h2 : szL ws ≤ k * (n + 1) := by rw [← hl]; exact szL_le fun w hm => (hw w hm).1
    refine ⟨s, p, ws, rfl, rfl, .inl (SqL.of upd_same), by rw [hs, Nat.mul_one, szL_sum]; omega, q _ ns1 z1 _ (a1.then_new hp) (bx1.xx (XX.new (T := T) hp)) ⟨Nat.le_trans (join_len hs ws) h2, join_asc ha fun w hm => (hw w hm).2⟩⟩⟩⟩
end
end GX
set_option maxHeartbeats 8000000
/-! law_k18: _law_page -/
namespace GX
open PySem PySem.Spec PyProof.Rows L2 LamX
theorem XM.fillM {T : List (Addr × Str)} {S : Addr → Prop} {H H' : Hp} {D : Addr} {o : HO} {xs : List V} (x : XM T S H H') (hD : H D = none) (e : H' D = some (.lst xs)) : XM T S H (L2.upd H' D o) := by
  have x2 := (x.mono (S' := fun c => S c ∨ c = D) fun b h => .inl h).trans (XM.upd (o' := o) e (.inr rfl) True.intro)
  exact x2.drop (S0 := S) fun b h n => by
    rcases h with h | h
    · exact absurd h n
    · rw [h]; exact hD
theorem box_ne {H : Hp} {b l D : Addr} {ns : List Int} {z : Int} (bx : BoxAt H b l ns z) (hD : H D = none) : ¬ SB2 b l D := fun q => by
  rcases q with q | q
  · rw [q, bx.hb] at hD; cases hD
  · rw [q, bx.hl] at hD; cases hD
def spPg (T : List (Addr × Str)) : Sp := fun vs H Q _ => ∃ b l ns z, vs = [.ref b] ∧ BoxAt H b l ns z ∧ ∀ H' ns' z' p (ws : List Str), XM T (SB2 b l) H H' → BoxAt H' b l ns' z' → H p = none → H' p = some (.lst (ws.map V.str)) → szL ws ≤ 460 → (∀ w ∈ ws, Asc w) → Q (.ref p) H'
section
variable {P : Program} {w : World} {K : PySem.W.Frag} {mg : Str → Option Value} {base : Heap} {T : List (Addr × Str)}
abbrev pgN : List Str := ["_law_box", "_law_rows", "_law_k", "_law_begin", "_law_size", "_law_behind", "_law_numbers"]
theorem sc_lpage : FnScope pgN ["_law_box"] (defScope s_lpage) := ⟨rfl, rfl, rfl, by decide +kernel, rfl, by decide +kernel, by decide +kernel⟩
theorem ok_lpage {f : Addr} {fd : FuncData} (F : L2.Fun K "_law_page" "_law_page" s_lpage f fd) (B : Blt mg) (bs : mg "str" = none) (cT : Cal P w K mg base CX0 "_law_take" ["_law_box", "_law_many"] 1 (spTake T)) :
    FnOk P w K mg base CX0 2 f fd ["_law_box"] (spPg T) := by
  refine F.ok sc_lpage (fun vs H Q E h => by obtain ⟨b, l, ns, z, rfl, _⟩ := h; rfl) (fun cdv A outer s H vs Q E hr h => ?_)
  obtain ⟨b, l, ns, z, rfl, bx, k⟩ := h
  have nd := sc_lpage.nd
  refine ⟨_, pss_cons (ps_set (i := 1) nd rfl (.inl rfl) (pe_lst pa_nil))
    (pss_cons (ps_for PassesOwn.never rfl (pi_range1 (by rfl) B.range (pa_cons pe_int pa_nil)) (pg_name (i := 2) nd rfl (.inl rfl))
      (pss_cons (ps_set (i := 3) nd rfl (.inl rfl) (pe_cal cT hr (pa_cons (pv 0) (pa_cons pe_int pa_nil))))
      (pss_cons (ps_set (i := 4) nd rfl (.inl rfl) (pe_op op_add pe_int (pe_cal cT hr (pa_cons (pv 0) (pa_cons (pe_op op_sub pe_int (pv 3)) pa_nil)))))
      (pss_cons (ps_set (i := 5) nd rfl (.inl rfl) (pe_ix ix_list (pe_lst (pa_cons pe_str (pa_cons (pe_op op_addT (pe_op op_addT (pe_callTy call_strI (by rfl) bs (by decide +kernel) (pa_cons (pe_cal cT hr (pa_cons (pv 0) (pa_cons pe_int pa_nil))) pa_nil)) pe_str) (pe_callTy call_strI (by rfl) bs (by decide +kernel) (pa_cons (pe_cal cT hr (pa_cons (pv 0) (pa_cons pe_int pa_nil))) pa_nil))) pa_nil))) (pe_cal cT hr (pa_cons (pv 0) (pa_cons pe_int pa_nil))) (fun _ _ => rfl)))
      (pss_cons (ps_set (i := 6) nd rfl (.inl rfl) (pe_joinT pe_str (pe_lst (pa_cons (pe_callTy call_strI (by rfl) bs (by decide +kernel) (pa_cons (pe_cal cT hr (pa_cons (pv 0) (pa_cons pe_int pa_nil))) pa_nil)) (pa_cons (pe_callTy call_strI (by rfl) bs (by decide +kernel) (pa_cons (pv 3) pa_nil)) (pa_cons (pe_callTy call_strI (by rfl) bs (by decide +kernel) (pa_cons (pv 4) pa_nil)) (pa_cons (pv 5) pa_nil)))))))
      (pss_one (ps_expr (pe_bm PySem.F.plainAttrs_list PySem.F.slot_list_append PySem.F.type_list_append mt_append (pv 1) (pa_cons (pe_ix ix_list (pe_lst (pa_cons (pe_op op_addT pe_str (pe_callTy call_strI (by rfl) bs (by decide +kernel) (pa_cons (pe_cal cT hr (pa_cons (pv 0) (pa_cons pe_int pa_nil))) pa_nil))) (pa_cons (pe_op op_addT pe_str (pv 6)) (pa_cons (pe_op op_addT pe_str (pv 6)) pa_nil)))) (pe_cal cT hr (pa_cons (pv 0) (pa_cons pe_int pa_nil))) (fun _ _ => rfl)) pa_nil)))))))))
    (pss_one (ps_ret (pe_op op_cat (pv 1) (pe_lst (pa_cons (pe_joinT pe_str (pe_op op_cat (pe_lst (pa_cons pe_str pa_nil)) (pe_lc (own := [("_law_k", 2)]) (g := gName 2) (tt := tYes) (te := tCB rStrI (tCons (tCall (spTake T) [] E0 (tCons (tVar 0) (tCons (tC (.int 100)) tNil))) tNil)) (by rfl) nd (pi_range1 (by rfl) B.range (pa_cons pe_int pa_nil)) (blkOk_by (own := [("_law_k", 2)]) (N := pgN) (sc := defScope s_lpage) (by decide +kernel))
      (fun _ _ _ _ _ => pg_name (i := 2) nd rfl (Or.inl rfl)) (fun _ _ _ _ _ => pts_nil) (fun _ _ _ _ _ => pe_callTy call_strI (by rfl) bs (by decide +kernel) (pa_cons (pe_cal cT hr (pa_cons (pv 0) (pa_cons pe_int pa_nil))) pa_nil))))) pa_nil)))))), ?_⟩
  refine ⟨Nat.zero_le _, fun D hD => ?_⟩
  have nb := box_ne bx hD
  refine ⟨8, rfl, by decide, by decide, ?_⟩
  refine for_it (walk_range (lo := 0)) (fun i σ' H' => ∃ u2 u3 u4 u5 u6 ns' z' ws, σ' = [some (.ref b), some (.ref D), u2, u3, u4, u5, u6] ∧ XM T (SB2 b l) H H' ∧ BoxAt H' b l ns' z' ∧ H' D = some (.lst (ws.map V.str)) ∧ ws.length = i ∧ ∀ w ∈ ws, Txo 37 w)
    ⟨_, _, _, _, _, ns, z, [], rfl, (XX.new hD).xm, bx.xx (XX.new (T := T) hD), upd_same, rfl, fun w hw => absurd hw (by simp)⟩ (fun i σ' H' _ _ => True.intro) (fun i v σ' H' H'' hi pv yy => ?_) (fun σ' H' pv => ?_)
  · obtain ⟨u2, u3, u4, u5, u6, ns0, z0, ws, rfl, a0, bx0, eD, el, hw⟩ := pv
    obtain ⟨rfl, rfl⟩ := yy
    dsimp only [gName]
    refine ⟨_, rfl, b, l, ns0, z0, 24, rfl, bx0, by decide, by decide, fun H1 ns1 z1 r1 a1 bx1 r10 r11 => ?_⟩
    refine ⟨_, rfl, _, rfl, _, _, rfl, rfl, b, l, ns1, z1, 24 - r1, rfl, bx1, by omega, by omega, fun H2 ns2 z2 r2 a2 bx2 r20 r21 => ⟨_, _, rfl, rfl, ?_⟩⟩
    dsimp only [gName]
    refine txe_pick (T := T) (b := b) (l := l) (k := 2) (n := 7) (txa_cons (txe_str (txo_by (by decide +kernel))) (txa_cons ((txe_add (txe_add (txe_draw rfl (by decide) (by decide)) (txe_str (n := 1) (txo_by (by decide +kernel))) (by decide)) (txe_draw rfl (by decide) (by decide)) (by decide))) txa_nil)) rfl rfl (by decide) (by decide) H2 ns2 z2 _ bx2 fun H3 ns3 z3 wb a3 bx3 tb => ?_
    dsimp only [gName]
    refine txe_join (T := T) (b := b) (l := l) (k := 4) (n := 7) rfl (asc_by (by decide +kernel)) (txa_cons ((txe_draw rfl (by decide) (by decide)).mono (by decide)) (txa_cons ((txe_num rfl r10 (by omega)).mono (by decide)) (txa_cons ((txe_num rfl (by omega) (by omega)).mono (by decide)) (txa_cons (txe_var rfl tb) txa_nil)))) (by decide) (by decide) H3 ns3 z3 _ bx3 fun H4 ns4 z4 wn a4 bx4 tn => ?_
    dsimp only [gName]
    have a04 := (((a0.trans a1).trans a2).trans a3).trans a4
    have eD4 : H4 D = some (.lst (ws.map V.str)) := (((a1.trans a2).trans a3).trans a4).lst eD nb
    refine ⟨_, rfl, .inl ⟨rfl, _, SqL.of eD4⟩, ?_⟩
    refine txe_pick (T := T) (b := b) (l := l) (k := 3) (n := 37) (txa_cons ((txe_add (n := 5) (txe_str (txo_by (by decide +kernel))) (txe_draw rfl (by decide) (by decide)) (by decide)).mono (by decide)) (txa_cons ((txe_add (n := 4) (txe_str (txo_by (by decide +kernel))) (txe_var rfl tn) (by decide)).mono (by decide)) (txa_cons ((txe_add (n := 5) (txe_str (txo_by (by decide +kernel))) (txe_var rfl tn) (by decide)).mono (by decide)) txa_nil))) rfl rfl (by decide) (by decide) H4 ns4 z4 _ bx4 fun H5 ns5 z5 wr a5 bx5 tr => ?_
    have eD5 := a5.lst eD4 nb
    refine ⟨D, ws.map V.str, .str wr, rfl, rfl, eD5, by rw [List.length_map, el, sizeLine_eq]; omega, ?_⟩
    have a05 := a04.trans a5
    refine ⟨_, _, _, _, _, ns5, z5, ws ++ [wr], rfl, a05.fillM hD eD5, ?_, ?_, by rw [List.length_append, el, List.length_singleton], fun w hm => ?_⟩
    · exact bx5.xm (S := fun c => c = D) (XM.upd (T := T) eD5 rfl True.intro) (fun q => nb (.inl q.symm)) (fun q => nb (.inr q.symm))
    · rw [List.map_append]; exact upd_same
    · rcases List.mem_append.mp hm with hm | hm
      · exact hw w hm
      · rw [List.mem_singleton.mp hm]; exact tr
  · obtain ⟨u2, u3, u4, u5, u6, ns0, z0, ws, rfl, a0, bx0, eD, el, hw⟩ := pv
    have el : ws.length = 8 := el
    refine ⟨_, rfl, ⟨_, rfl⟩, (by show 1 ≤ sizeLine; decide), fun p1 h1 => ⟨24, rfl, by decide, by decide, fun D2 hD2 => ?_⟩⟩
    have x1 := XX.new (T := T) (o := .lst [V.str "cells"]) h1
    have bx1 := bx0.xx x1
    have nb2 := box_ne bx1 hD2
    refine lc_range (lo := 0) (fun j H' => ∃ ns' z' cs, XM T (SB2 b l) (upd _ p1 (.lst [V.str "cells"])) H' ∧ BoxAt H' b l ns' z' ∧ H' D2 = some (.lst (cs.map V.str)) ∧ cs.length = j ∧ ∀ w ∈ cs, Txo 3 w) ⟨ns0, z0, [], (XX.new hD2).xm, bx1.xx (XX.new (T := T) hD2), upd_same, rfl, fun w hw => absurd hw (by simp)⟩ (fun j H' hj pv => ⟨rfl, ?_⟩) (fun H' pv => ?_)
    · obtain ⟨ns2, z2, cs, a2, bx2, e2, l2, hc⟩ := pv
      refine txe_draw (T := T) (b := b) (l := l) rfl (by decide) (by decide) H' ns2 z2 _ bx2 fun H3 ns3 z3 wc a3 bx3 tc => ?_
      have e3 := a3.lst e2 nb2
      refine ⟨cs.map V.str, e3, by rw [List.length_map, l2, sizeLine_eq]; omega, ns3, z3, cs ++ [wc], (a2.trans a3).fillM hD2 e3, bx3.xm (S := fun c => c = D2) (XM.upd (T := T) e3 rfl True.intro) (fun q => nb2 (.inl q.symm)) (fun q => nb2 (.inr q.symm)), by rw [List.map_append]; exact upd_same, by rw [List.length_append, l2, List.length_singleton], fun w hm => ?_⟩
      rcases List.mem_append.mp hm with hm | hm
      · exact hc w hm
      · rw [List.mem_singleton.mp hm]; exact tc
    · obtain ⟨ns2, z2, cs, a2, bx2, e2, l2, hc⟩ := pv
      have np1 := box_ne bx0 h1
      have ep1 := a2.lst (p := p1) upd_same np1
      refine ⟨p1, D2, _, cs.map V.str, rfl, rfl, ep1, e2, by rw [List.length_map, l2, sizeLine_eq]; decide, fun p3 h3 => ?_⟩
      have hall : ∀ w ∈ ("cells" : Str) :: cs, Txo 5 w := fun w hm => by
        rcases List.mem_cons.mp hm with e | hm
        · rw [e]; exact txo_by (by decide +kernel)
        · exact (hc w hm).mono (by decide)
      have s5 : szL (("cells" : Str) :: cs) ≤ 150 := by
        have q := szL_le fun w hm => (hall w hm).1
        rw [List.length_cons, l2] at q
        exact q
      refine ⟨" ", p3, ("cells" : Str) :: cs, rfl, rfl, .inl (SqL.of upd_same), ?_, ⟨(by show 1 ≤ sizeLine; decide), fun p4 h4 => ?_⟩⟩
      · rw [show (" " : Str).length = 1 from rfl, Nat.mul_one, szL_sum]; omega
      have x3 := (XX.new (T := T) (o := .lst ([V.str "cells"] ++ cs.map V.str)) h3).then_new (o := .lst [V.str (Txt.join " " (("cells" : Str) :: cs))]) h4
      have eD4 := x3.lst (a2.lst (x1.lst eD) nb)
      refine ⟨D, p4, _, _, rfl, rfl, eD4, upd_same, by rw [List.length_map, el, sizeLine_eq]; show 8 + 1 ≤ 16777216; decide, fun p5 h5 => ?_⟩
      have x5 := x3.then_new (o := .lst (ws.map V.str ++ [V.str (Txt.join " " (("cells" : Str) :: cs))])) h5
      refine k _ ns2 z2 p5 (ws ++ [Txt.join " " (("cells" : Str) :: cs)]) (((a0.trans x1.xm).trans a2).trans x5.xm) (bx2.xx x5) ?_ ?_ ?_ ?_
      · exact (((a0.trans x1.xm).trans a2).trans x3.xm).free h5
      · rw [List.map_append]; exact upd_same
      · rw [szL_app, szL_cons]
        have q1 := szL_le fun w hm => (hw w hm).1
        rw [el] at q1
        have q2 := join_len (s := " ") rfl (("cells" : Str) :: cs)
        show szL ws + ((Txt.join " " (("cells" : Str) :: cs)).length + 1 + 0) ≤ 460
        omega
      · intro w hm
        rcases List.mem_append.mp hm with hm | hm
        · exact (hw w hm).2
        · rw [List.mem_singleton.mp hm]; exact join_asc (asc_by (by decide +kernel)) fun w hm => (hall w hm).2
end
end GX
/-! the law's _law_slot -/
namespace GX
open PySem PySem.Spec PyProof.Rows L2 LamX
section
variable {T : List (Addr × Str)} {H H1 H' : Hp} {K : PySem.W.Frag}
/-- [te for i in things that are walked] of data without lists -/
theorem lc_dpW {J : It} {n : Nat} {G : Hp → Prop} {D : Addr} {xs : List V} {i : Nat} {te : TE} {σ : L2.St} {Qd : Hp → Prop} (wk : Walk J n G (YAt xs)) (hn : n = xs.length) (hG : ∀ H', XX T H1 H' → G H') (gd : Nat → PyData) (hD : H1 D = none) (hz : xs.length < sizeLine) (fl : ∀ j, j < xs.length → flatD (gd j) = true)
    (step : ∀ j x H' (Qe : VK), xs[j]? = some x → XX T H1 H' → (∀ H'' v, XX T H' H'' → Dp K H'' v (gd j) → Qe v H'') → te ((wipe σ [i]).set i (some x)) H' Qe)
    (fin : ∀ H' acc, XX T H1 H' → H' D = some (.lst acc) → DpAll K H' acc ((List.range xs.length).map gd) → Qd H') :
    ∃ W : Nat → Nat → Hp → Prop, (∃ m, W 0 m (upd H1 D (.lst []))) ∧ ∀ j m H, W j m H →
      (J.stop j H ∧ Qd H) ∨ (J.go j H ∧ ∃ Nx : Hp → Prop, (∀ H', Nx H' → ∃ m', m' < m ∧ W (j + 1) m' H') ∧ ∀ x H', J.yld j H x H' → gName i x (wipe σ [i]) H' fun σ2 H2 => wipe σ2 [i] = wipe σ [i] ∧ tYes σ2 H2 fun b H3 =>
        if b = true then te σ2 H3 fun y H4 => ∃ acc, H4 D = some (.lst acc) ∧ acc.length < sizeLine ∧ Nx (upd H4 D (.lst (acc ++ [y]))) else Nx H3) := by
  subst hn
  refine lc_it wk (fun j H' => XX T H1 H' ∧ ∃ acc, H' D = some (.lst acc) ∧ acc.length = j ∧ DpAll K H' acc ((List.range j).map gd)) ⟨XX.new hD, [], upd_same, rfl, .nil⟩ (fun j H' _ pv => hG H' pv.1) (fun j x H' H'' hj pv yy => ⟨wipe1, ?_⟩) (fun H' pv => ?_)
  · obtain ⟨rfl, ex⟩ := yy
    obtain ⟨x1, acc, e1, el, da⟩ := pv
    refine step j x _ _ ex x1 fun H2 v x2 dv => ⟨acc, x2.lst e1, by omega, (x1.trans x2).fillD hD (x2.lst e1), acc ++ [v], upd_same, by simp [el], ?_⟩
    have x3 : XM T (fun c => c = D) H2 (upd H2 D (.lst (acc ++ [v]))) := XM.upd (x2.lst e1) rfl True.intro
    have fa : ∀ d ∈ (List.range j).map gd, flatD d = true := fun d hd => by
      obtain ⟨m, hm, e⟩ := List.mem_map.mp hd
      rw [← e]
      exact fl m (Nat.lt_trans (List.mem_range.mp hm) hj)
    rw [List.range_succ, List.map_append]
    exact dpAll_snoc (dpAll_xm x3 fa (Dp.xxAll x2 _ _ da)) (Dp.xm x3 _ _ (fl j hj) dv)
  · obtain ⟨x1, acc, e1, _, da⟩ := pv
    exact fin H' acc x1 e1 da
theorem dp_num {v : V} {o : Option Nat} (h : Dp K H v (numD o)) : v = numV o := by
  cases o with
  | none => cases h; rfl
  | some n => cases h; rfl
theorem dpAll_num : ∀ {os : List (Option Nat)} {vs : List V}, DpAll K H vs (os.map numD) → vs = os.map numV
  | [], _, h => dpAll0 h
  | o :: os, _, h => by
    obtain ⟨v, r, rfl, h1, h2⟩ := dpAllC h
    rw [dp_num h1, dpAll_num h2] <;> rfl
theorem num_flatV (os : List (Option Nat)) : (os.map numV).all flatV = true := by
  rw [List.all_eq_true]
  intro v hv
  obtain ⟨o, _, rfl⟩ := List.mem_map.mp hv
  cases o <;> rfl
theorem in_num (os : List (Option Nat)) : inV .non (os.map numV) = os.any Option.isNone := by
  unfold inV
  rw [List.any_map]
  congr 1
  funext o
  cases o <;> rfl
end
section
variable {T : List (Addr × Str)} {H : Hp}
theorem tAndX_of {t1 t2 : TT} {σ : L2.St} {Kt : Bool → Hp → Prop} (c1 c2 : Bool) (h1 : ∀ K' : Bool → Hp → Prop, (∀ H1, XX T H H1 → K' c1 H1) → t1 σ H K') (h2 : c1 = true → ∀ H1, XX T H H1 → ∀ K' : Bool → Hp → Prop, (∀ H2, XX T H1 H2 → K' c2 H2) → t2 σ H1 K') (k : ∀ H2, XX T H H2 → Kt (c1 && c2) H2) : tAnd t1 t2 σ H Kt := by
  refine h1 _ fun H1 x1 => ?_
  cases c1 with
  | false => exact k H1 x1
  | true => exact h2 rfl H1 x1 _ fun H2 x2 => k H2 (x1.trans x2)
theorem tOrX_of {t1 t2 : TT} {σ : L2.St} {Kt : Bool → Hp → Prop} (c1 c2 : Bool) (h1 : ∀ K' : Bool → Hp → Prop, (∀ H1, XX T H H1 → K' c1 H1) → t1 σ H K') (h2 : c1 = false → ∀ H1, XX T H H1 → ∀ K' : Bool → Hp → Prop, (∀ H2, XX T H1 H2 → K' c2 H2) → t2 σ H1 K') (k : ∀ H2, XX T H H2 → Kt (c1 || c2) H2) : tOr t1 t2 σ H Kt := by
  refine h1 _ fun H1 x1 => ?_
  cases c1 with
  | true => exact k H1 x1
  | false => exact h2 rfl H1 x1 _ fun H2 x2 => k H2 (x1.trans x2)
theorem ifs_keyR {c : Bool} {sA sB : TS} {D : Ends} {σ : L2.St} (R : L2.St → Hp → Prop) (key : ∀ σ' H', R σ' H' → D.nx σ' H') (h1 : c = true → ∀ D' : Ends, (∀ σ' H', R σ' H' → D'.nx σ' H') → (∀ v H', D.rt v H' → D'.rt v H') → sA D' σ H) (h2 : c = false → ∀ D' : Ends, (∀ σ' H', R σ' H' → D'.nx σ' H') → (∀ v H', D.rt v H' → D'.rt v H') → sB D' σ H) :
    if c = true then sA D σ H else sB D σ H := by
  cases c with
  | true => rw [if_pos rfl]; exact h1 rfl D key fun _ _ q => q
  | false => rw [if_neg (by decide)]; exact h2 rfl D key fun _ _ q => q
end
theorem dec_str (x y : Str) : decide (V.str x = V.str y) = decide (x = y) := by
  by_cases h : x = y
  · rw [decide_eq_true h, decide_eq_true (by rw [h])]
  · rw [decide_eq_false h, decide_eq_false fun z => h (V.str.inj z)]
theorem lfive_none {w a b c d : Str} (h : [lnO a 99, lnO b 24, lnO c 24].any Option.isNone = true) : lfive w a b c d = .none := by
  unfold lfive
  cases lbeh d <;> cases qa : lnO a 99 <;> cases qb : lnO b 24 <;> cases qc : lnO c 24 <;> first | rfl | (rw [qa, qb, qc] at h; simp at h)
theorem lfive_beh {w a b c d : Str} (h : lbeh d = none) : lfive w a b c d = .none := by
  unfold lfive
  rw [h] <;> rfl
theorem lslot_no : ∀ {w : Str} {ws : List Str}, ¬ (w = "free" ∧ (w :: ws).length = 2) → ¬ ((w = "row" ∨ w = "part") ∧ (w :: ws).length = 5) → lslot (w :: ws) = .none
  | _, [], _, _ => rfl
  | w, [a], h, _ => if_neg fun z => h ⟨z, rfl⟩
  | _, [_, _], _, _ => rfl
  | _, [_, _, _], _, _ => rfl
  | w, [a, b, c, d], _, h => if_neg fun z => h ⟨z, rfl⟩
  | _, _ :: _ :: _ :: _ :: _ :: _, _, _ => rfl
def spLSlot (K : PySem.W.Frag) (T : List (Addr × Str)) : Sp := fun vs H Q _ => ∃ (p : Addr) (ws : List Str), vs = [.ref p] ∧ SqL K H p (ws.map V.str) ∧ ws ≠ [] ∧ (∀ w ∈ ws, w.length ≤ 15000 ∧ Asc w) ∧ ∀ H' v, XX T H H' → Dp K H' v (lslot ws) → Q v H'
section
variable {P : Program} {w : World} {K : PySem.W.Frag} {mg : Str → Option Value} {base : Heap} {T : List (Addr × Str)}
abbrev lsN : List Str := ["_law_words", "_law_turn", "_law_numbers", "_law_behind", "_law_k", "_law_word"]
theorem sc_lslot : FnScope lsN ["_law_words"] (defScope s_lslot) := ⟨rfl, rfl, rfl, by decide +kernel, rfl, by decide +kernel, by decide +kernel⟩
theorem ok_lslot {f : Addr} {fd : FuncData} (F : L2.Fun K "_law_slot" "_law_slot" s_lslot f fd) (B : Blt mg) (cN : Cal P w K mg base CX0 "_law_number" ["_law_word", "_law_most"] 1 (spLNum T)) : FnOk P w K mg base CX0 2 f fd ["_law_words"] (spLSlot K T) := by
  refine F.ok sc_lslot (fun vs H Q E h => by obtain ⟨x, m, rfl, _⟩ := h; rfl) (fun cdv A outer s H vs Q E hr h => ?_)
  obtain ⟨p, ws, rfl, hs, hne, hw, k⟩ := h
  have nd := sc_lslot.nd
  refine ⟨_, pss_cons (ps_if (PW.pt (pw_and (pt_cmpR op_eq (pe_ix ix_list (pv 0) pe_int (fun _ _ => rfl)) pe_str (nomark _)) (pw_and1 (pt_cmpR op_eq (pe_callB call_len_seq (by rfl) B.len PySem.boot_len (pa_cons (pv 0) pa_nil)) pe_int (nomark _)))))
      (pss_cons (ps_set (i := 1) nd rfl (.inl rfl) (pe_cal cN hr (pa_cons (pe_ix ix_list (pv 0) pe_int (fun _ _ => rfl)) (pa_cons pe_int pa_nil))))
        (pss_one (ps_ret (pe_ifExp (pt_cmpR op_isN (pv 1) pe_non (nomark _)) pe_non (pe_tup (pa_cons pe_str (pa_cons (pv 1) pa_nil))))))) pss_nil)
    (pss_cons (ps_if (PW.pt (pw_or (pt_cmpR op_notIn_seq (pe_ix ix_list (pv 0) pe_int (fun _ _ => rfl)) (pe_tup (pa_cons pe_str (pa_cons pe_str pa_nil))) (by rfl)) (pw_or1 (pt_cmpR op_ne (pe_callB call_len_seq (by rfl) B.len PySem.boot_len (pa_cons (pv 0) pa_nil)) pe_int (nomark _))))) (pss_one (ps_ret pe_non)) pss_nil)
    (pss_cons (ps_setLc (i := 2) (own := [("_law_k", 4)]) (g := gName 4) (tt := tYes) (te := tCall (spLNum T) [] E0 (tCons (tOp (rIxL K) (tVar 0) (tVar 4)) (tCons (tOp (rIxL K) (tLst (tCons (tC (.int 99)) (tCons (tC (.int 24)) (tCons (tC (.int 24)) tNil)))) (tOp (rI0 fun i j => .int (i - j)) (tVar 4) (tC (.int 1)))) tNil))) (by rfl) nd rfl rfl (sw_true rfl rfl rfl (by decide +kernel)) (pi_tup (pe_tup (pa_cons pe_int (pa_cons pe_int (pa_cons pe_int pa_nil))))) (blkOk_by (own := [("_law_k", 4)]) (N := lsN) (sc := defScope s_lslot) (by decide +kernel))
      (fun _ _ _ _ _ => pg_name (i := 4) nd rfl (.inl rfl)) (fun _ _ _ _ _ => pts_nil) (fun _ _ _ _ _ => pe_cal cN hr (pa_cons (pe_ix ix_list (pv 0) (pv 4) (fun _ _ => rfl)) (pa_cons (pe_ix ix_list (pe_lst (pa_cons pe_int (pa_cons pe_int (pa_cons pe_int pa_nil)))) (pe_op op_sub (pv 4) pe_int) (fun _ _ => rfl)) pa_nil))))
    (pss_cons (ps_set (i := 3) nd rfl (.inl rfl) (pe_lst (pa_cons pe_non pa_nil)))
    (pss_cons (ps_if (pt_cmpR op_ne (pe_ix ix_list (pv 0) pe_int (fun _ _ => rfl)) pe_str (nomark _))
      (pss_cons (ps_setLc (i := 3) (own := [("_law_word", 5)]) (g := gName 5) (tt := tYes) (te := tCall (spLNum T) [] E0 (tCons (tVar 5) (tCons (tC (.int 11)) tNil))) (by rfl) nd rfl rfl (sw_true rfl rfl rfl (by decide +kernel)) (pi_list (pe_split (pe_ix ix_list (pv 0) pe_int (fun _ _ => rfl)) pe_str)) (blkOk_by (own := [("_law_word", 5)]) (N := lsN) (sc := defScope s_lslot) (by decide +kernel))
        (fun _ _ _ _ _ => pg_name (i := 5) nd rfl (.inl rfl)) (fun _ _ _ _ _ => pts_nil) (fun _ _ _ _ _ => pe_cal cN hr (pa_cons (pv 5) (pa_cons pe_int pa_nil))))
      (pss_cons (ps_if (PW.pt (pw_or (pt_cmpR op_ne (pe_callB call_len_seq (by rfl) B.len PySem.boot_len (pa_cons (pv 3) pa_nil)) pe_int (nomark _)) (pw_or (pt_cmpR op_in_seq pe_non (pv 3) (by rfl)) (pw_or1 (pt_cmpR op_gt (pe_ix ix_list (pv 3) pe_int (fun _ _ => rfl)) pe_int (nomark _)))))) (pss_one (ps_ret pe_non)) pss_nil)
      (pss_one (ps_set (i := 3) nd rfl (.inl rfl) (pe_lst (pa_cons (pe_callTy call_tuple_of (by rfl) B.tuple boot_tuple (pa_cons (pv 3) pa_nil)) pa_nil)))))) pss_nil)
    (pss_cons (ps_if (PW.pt (pw_or (pt_cmpR op_in_seq pe_non (pv 2) (by rfl)) (pw_or (pt_cmpR op_gt (pe_op op_add (pe_ix ix_list (pv 2) pe_int (fun _ _ => rfl)) (pe_ix ix_list (pv 2) pe_int (fun _ _ => rfl))) pe_int (nomark _))
        (pw_or1 (PW.pt (pw_and (pt_cmpR op_eq (pe_ix ix_list (pv 0) pe_int (fun _ _ => rfl)) pe_str (nomark _)) (pw_and1 (pt_cmpR op_eq (pe_ix ix_list (pv 2) pe_int (fun _ _ => rfl)) pe_int (nomark _))))))))) (pss_one (ps_ret pe_non)) pss_nil)
    (pss_one (ps_ret (pe_callTy call_tuple_of (by rfl) B.tuple boot_tuple (pa_cons (pe_op op_cat (pe_op op_cat (pe_lst (pa_cons (pe_ix ix_list (pv 0) pe_int (fun _ _ => rfl)) pa_nil)) (pv 2)) (pv 3)) pa_nil))))))))), ?_⟩
  cases ws with
  | nil => exact absurd rfl hne
  | cons w0 rest =>
  have lm : ((w0 :: rest).map V.str).length = rest.length + 1 := by simp
  have b0 := hw w0 List.mem_cons_self
  refine tAndX_of (T := T) (decide (w0 = "free")) (decide (rest.length = 1)) (fun K' q => ⟨_, rfl, p, _, 0, .str w0, rfl, rfl, hs, atI0, rfl, _, rfl, by rw [dec_str]; exact q H (XX.refl H)⟩) (fun _ H1 x1 K' q => ⟨_, rfl, p, _, rfl, .inl (x1.sqL hs), rfl, _, rfl, ?_⟩) (fun H1 x1 => ?_)
  · have e : decide (V.int (((w0 :: rest).map V.str).length : Int) = V.int 2) = decide (rest.length = 1) := by
      rw [lm]
      by_cases h : rest.length = 1
      · rw [decide_eq_true h, h]; rfl
      · rw [decide_eq_false h]
        exact decide_eq_false fun z => h (by have z2 := V.int.inj z; omega)
    rw [e]
    exact q H1 (XX.refl H1)
  by_cases hf : w0 = "free" ∧ rest.length = 1
  · obtain ⟨hf, h1⟩ := hf
    rw [decide_eq_true hf, decide_eq_true h1]
    obtain ⟨a, rfl⟩ : ∃ a, rest = [a] := by
      match rest, h1 with
      | [a], _ => exact ⟨a, rfl⟩
    have ba := hw a (by simp)
    refine iteT ⟨_, rfl, p, _, 1, .str a, rfl, rfl, x1.sqL hs, atI_nat (j := 1) rfl, a, 100, rfl, ba.1, ba.2, fun H2 x2 => ?_⟩
    refine ⟨_, rfl, rfl, _, rfl, ?_⟩
    have ks : lslot [w0, a] = lfree a := if_pos hf
    cases q : lnO a 100 with
    | none =>
      refine iteT (k _ _ (x1.trans x2) ?_)
      rw [ks]
      unfold lfree
      rw [q]
      exact .non
    | some n =>
      refine iteF ⟨_, rfl, (by show 2 ≤ sizeLine; decide), fun t ht => k _ _ ((x1.trans x2).then_new ht) ?_⟩
      rw [ks]
      unfold lfree
      rw [q]
      exact .tup (SqT.of upd_same) (.cons (.str _) (.cons (.int _) .nil))
  have e1 : (decide (w0 = "free") && decide (rest.length = 1)) = false := by
    rw [← Bool.decide_and]; exact decide_eq_false hf
  rw [e1]
  refine iteF ?_
  dsimp only [gName, tNext]
  have hs1 := x1.sqL hs
  refine tOrX_of (T := T) (decide (¬ (w0 = "row" ∨ w0 = "part"))) (decide (¬ rest.length = 4)) (fun K' q => ⟨_, rfl, p, _, 0, .str w0, rfl, rfl, hs1, atI0, (by show 2 ≤ sizeLine; decide), fun t ht => ⟨t, _, rfl, .inr (SqT.of upd_same), rfl, rfl, _, rfl, ?_⟩⟩) (fun _ H2 x2 K' q => ⟨_, rfl, p, _, rfl, .inl (x2.sqL hs1), rfl, _, rfl, ?_⟩) (fun H2 x2 => ?_)
  · have e : (if true = true then !inV (V.str w0) [V.str "row", V.str "part"] else inV (V.str w0) [V.str "row", V.str "part"]) = decide (¬ (w0 = "row" ∨ w0 = "part")) := by
      have i1 : inV (V.str w0) [V.str "row", V.str "part"] = (decide (w0 = "row") || decide (w0 = "part")) := by
        show ((("row" : Str) == w0) || ((("part" : Str) == w0) || false)) = _
        have eb : ∀ x : Str, (x == w0) = decide (w0 = x) := fun x => by
          by_cases h : w0 = x
          · rw [h]; simp
          · rw [decide_eq_false h]; exact beq_eq_false_iff_ne.mpr (Ne.symm h)
        rw [eb, eb, Bool.or_false]
      rw [if_pos rfl, i1, ← Bool.decide_or, decide_not]
    rw [e]
    exact q _ (XX.new ht)
  · have e : (!decide (V.int (((w0 :: rest).map V.str).length : Int) = V.int 5)) = decide (¬ rest.length = 4) := by
      rw [lm, decide_not]
      by_cases h : rest.length = 4
      · rw [decide_eq_true h, h]; rfl
      · rw [decide_eq_false h]
        rw [decide_eq_false fun z => h (by have z2 := V.int.inj z; omega)]
    rw [e]
    exact q H2 (XX.refl H2)
  have x02 := x1.trans x2
  by_cases hrp : (w0 = "row" ∨ w0 = "part") ∧ rest.length = 4
  case neg =>
    have e2 : (decide (¬ (w0 = "row" ∨ w0 = "part")) || decide (¬ rest.length = 4)) = true := by
      rw [← Bool.decide_or]
      exact decide_eq_true (by
        by_cases h : w0 = "row" ∨ w0 = "part"
        · exact .inr fun z => hrp ⟨h, z⟩
        · exact .inl h)
    rw [e2]
    refine iteT (k _ _ x02 ?_)
    rw [lslot_no (fun z => hf ⟨z.1, by simpa using z.2⟩) (fun z => hrp ⟨z.1, by simpa using z.2⟩)]
    exact .non
  obtain ⟨hrp, h4⟩ := hrp
  rw [decide_eq_false (p := ¬ (w0 = "row" ∨ w0 = "part")) (fun z => z hrp), decide_eq_false (p := ¬ rest.length = 4) (fun z => z h4)]
  obtain ⟨a, b, c, d, rfl⟩ : ∃ a b c d, rest = [a, b, c, d] := by
    match rest, h4 with
    | [a, b, c, d], _ => exact ⟨a, b, c, d, rfl⟩
  have ks : lslot [w0, a, b, c, d] = lfive w0 a b c d := if_pos hrp
  rw [ks] at k
  have ba := hw a (by simp)
  have bb := hw b (by simp)
  have bc := hw c (by simp)
  have bd := hw d (by simp)
  have hs2 := x02.sqL hs
  -- the numbers
  refine iteF ⟨(by show 3 ≤ sizeLine; decide), fun t ht => ⟨t, rfl, ⟨_, SqT.of upd_same⟩, fun D hD => ?_⟩⟩
  have xt := XX.new (T := T) (o := .tup [V.int 1, V.int 2, V.int 3]) ht
  have step : ∀ (j : Nat) (u : Str) (m : Nat) (H' : Hp) (Qe : VK) (z : Option V), ([w0, a, b, c, d])[j + 1]? = some u → ([V.int 99, V.int 24, V.int 24] : List V)[j]? = some (.int (m : Int)) → XX T (upd H2 t (.tup [V.int 1, V.int 2, V.int 3])) H' →
      (∀ H'' v, XX T H' H'' → Dp K H'' v (numD (lnO u m)) → Qe v H'') →
      tCall (spLNum T) [] E0 (tCons (tOp (rIxL K) (tVar 0) (tVar 4)) (tCons (tOp (rIxL K) (tLst (tCons (tC (.int 99)) (tCons (tC (.int 24)) (tCons (tC (.int 24)) tNil)))) (tOp (rI0 fun i j => .int (i - j)) (tVar 4) (tC (.int 1)))) tNil)) [some (.ref p), none, none, none, some (.int ((j + 1 : Nat) : Int)), z] H' Qe := by
    intro j u m H' Qe z eu em x' q
    have hs' := (xt.trans x').sqL hs2
    have bu := hw u (List.mem_of_getElem? eu)
    refine ⟨_, rfl, _, rfl, p, _, _, .str u, rfl, rfl, hs', atI_nat (j := j + 1) (by rw [List.getElem?_map, eu]; rfl), (by show 3 ≤ sizeLine; decide), fun l hl => ⟨_, rfl, _, _, rfl, rfl, l, _, _, .int (m : Int), rfl, rfl, SqL.of upd_same, ?_, u, m, rfl, bu.1, bu.2, fun H3 x3 => q H3 _ ((XX.new hl).trans x3) (num_dp _)⟩⟩
    have e : (((j + 1 : Nat) : Int) - 1) = (j : Int) := by omega
    rw [e]
    exact atI_nat em
  refine lc_dpW (K := K) (T := T) (walk_tup (K := K) (a := t) (xs := [V.int 1, V.int 2, V.int 3])) rfl (fun H' x => x.sqT (SqT.of upd_same)) (fun j => numD (([lnO a 99, lnO b 24, lnO c 24] : List (Option Nat)).getD j none)) hD (by show 3 < sizeLine; decide) (fun j _ => num_fl _) (fun j x H' Qe ex x' q => ?_) (fun H3 acc x3 eacc da => ?_)
  · match j, ex with
    | 0, ex =>
      cases ex
      exact step 0 a 99 H' Qe _ rfl rfl x' q
    | 1, ex =>
      cases ex
      exact step 1 b 24 H' Qe _ rfl rfl x' q
    | 2, ex =>
      cases ex
      exact step 2 c 24 H' Qe _ rfl rfl x' q
  have da : DpAll K H3 acc ([lnO a 99, lnO b 24, lnO c 24].map numD) := da
  obtain rfl := dpAll_num da
  have x03 := (x02.trans xt).trans x3
  dsimp only [gName, tNext]
  refine ⟨(by show 1 ≤ sizeLine; decide), fun bl hbl => ?_⟩
  have xb := XX.new (T := T) (o := .lst [V.non]) hbl
  have x04 := x03.trans xb
  have hs4 := x04.sqL hs
  refine ⟨_, rfl, p, _, 4, .str d, rfl, rfl, hs4, atI_nat (j := 4) rfl, rfl, _, rfl, ?_⟩
  rw [dec_str]
  refine ifs_keyR (fun σ' H' => ∃ (bl : Addr) (vb : V) (bh : PyData) (u1 u4 u5 : Option V), σ' = [some (.ref p), u1, some (.ref D), some (.ref bl), u4, u5] ∧ XX T H H' ∧ H' D = some (.lst ([lnO a 99, lnO b 24, lnO c 24].map numV)) ∧ H' bl = some (.lst [vb]) ∧ Dp K H' vb bh ∧ lbeh d = some bh) ?key ?h1 ?h2
  case h2 =>
    intro hd D' kn _
    have hd : d = "-" := by simpa using hd
    refine kn _ _ ⟨bl, .non, .none, _, _, _, rfl, x04, xb.lst eacc, upd_same, .non, ?_⟩
    unfold lbeh
    rw [if_pos hd]
  case h1 =>
    intro hd D' kn kr
    have hd : ¬ d = "-" := by simpa using hd
    obtain ⟨q1, q2, q3⟩ := dot_bounds d
    refine ⟨_, rfl, p, _, 4, .str d, rfl, rfl, hs4, atI_nat (j := 4) rfl, ⟨d, rfl⟩, d, ".", rfl, rfl, rfl, by rw [sizeLine_eq]; omega, fun sp hsp => ⟨sp, rfl, ⟨_, SqL.of upd_same⟩, fun D2 hD2 => ?_⟩⟩
    have xs5 := XX.new (T := T) (o := .lst ((Txt.split d ".").map V.str)) hsp
    have l5 : ((Txt.split d ".").map V.str).length = (Txt.split d ".").length := List.length_map ..
    have hsub : ∀ u ∈ Txt.split d ".", u.length ≤ 15000 ∧ Asc u := fun u hu => ⟨Nat.le_trans (q3 u hu) bd.1, split_asc (by decide +kernel) (by decide +kernel) bd.2 u hu⟩
    refine lc_dp (T := T) (i := 5) (fun j => numD (lnO ((Txt.split d ".").getD j "") 11)) hD2 (SqL.of upd_same) (by rw [l5, sizeLine_eq]; omega) (fun j _ => num_fl _) (fun j u H' Qe ex x' q => ?_) (fun H5 acc x5 ea da5 => ?_)
    · have hj := (List.getElem?_eq_some_iff.mp ex).1
      rw [l5] at hj
      rw [List.getElem?_map, List.getElem?_eq_getElem hj] at ex
      obtain rfl : V.str (Txt.split d ".")[j] = u := Option.some.inj ex
      have bu := hsub _ (List.getElem_mem hj)
      refine ⟨_, rfl, (Txt.split d ".")[j], 11, rfl, bu.1, bu.2, fun H6 x6 => q H6 _ x6 ?_⟩
      rw [getD_at hj]
      exact num_dp _
    · rw [l5, map_range (fun u => numD (lnO u 11)), show (Txt.split d ".").map (fun u => numD (lnO u 11)) = ((Txt.split d ".").map fun u => lnO u 11).map numD by rw [List.map_map]; rfl] at da5
      obtain rfl := dpAll_num da5
      have x45 := xs5.trans x5
      have hb : lbeh d = match (Txt.split d ".").map fun x => lnO x 11 with
          | [some x, some y] => if y ≤ 7 then some (.tuple [.int (x : Int), .int (y : Int)]) else none
          | _ => none := by unfold lbeh; rw [if_neg hd] <;> rfl
      generalize (Txt.split d ".").map (fun x => lnO x 11) = os at hb ea da5
      have rno : lbeh d = none → ∀ H', XX T H H' → D'.rt .non H' := fun hn H' x' => kr _ _ (k H' .non x' (by rw [lfive_beh hn]; exact .non))
      have lo : (os.map numV).length = os.length := List.length_map ..
      refine ⟨_, rfl, D2, _, rfl, .inl (SqL.of ea), rfl, _, rfl, ?_⟩
      have x05 := x04.trans x45
      by_cases h2 : os.length = 2
      · have e5 : (!decide (V.int ((os.map numV).length : Int) = V.int 2)) = false := by rw [lo, h2]; rfl
        rw [e5]
        obtain ⟨ox, oy, rfl⟩ : ∃ ox oy, os = [ox, oy] := by
          match os, h2 with
          | [x, y], _ => exact ⟨x, y, rfl⟩
        refine iteF ⟨_, rfl, D2, _, rfl, .inl (SqL.of ea), rfl, num_flatV _, _, rfl, ?_⟩
        rw [show (if false = true then !inV .non ([ox, oy].map numV) else inV .non ([ox, oy].map numV)) = inV .non ([ox, oy].map numV) from rfl, in_num]
        cases ox with
        | none => exact iteT (iteT (rno (by rw [hb]) _ x05))
        | some x =>
          cases oy with
          | none => exact iteT (iteT (rno (by rw [hb]) _ x05))
          | some y =>
            refine iteF ⟨_, rfl, D2, _, 1, .int (y : Int), rfl, rfl, SqL.of ea, atI_nat (j := 1) rfl, _, _, rfl, rfl, _, rfl, ?_⟩
            by_cases hy : y ≤ 7
            · rw [decide_eq_false (by omega)]
              have hb : lbeh d = some (.tuple [.int (x : Int), .int (y : Int)]) := by rw [hb]; exact if_pos hy
              refine iteF ⟨_, rfl, D2, _, rfl, .inl ⟨SqL.of ea, fun t5 ht5 => ⟨(by show 1 ≤ sizeLine; decide), fun b6 hb6 => ?_⟩⟩⟩
              have x6 := (XX.new (T := T) (o := .tup ([some x, some y].map numV)) ht5).then_new (o := .lst [V.ref t5]) hb6
              have e6 : upd (upd H5 t5 (.tup ([some x, some y].map numV))) b6 (.lst [V.ref t5]) t5 = some (.tup ([some x, some y].map numV)) := (XX.new (T := T) hb6).tup upd_same
              exact kn _ _ ⟨b6, .ref t5, _, _, _, _, rfl, x05.trans x6, x6.lst (x45.lst (xb.lst eacc)), upd_same, .tup (SqT.of e6) (.cons (.int _) (.cons (.int _) .nil)), hb⟩
            · rw [decide_eq_true (by omega)]
              exact iteT (rno (by rw [hb]; exact if_neg hy) _ x05)
      · have e5 : (!decide (V.int ((os.map numV).length : Int) = V.int 2)) = true := by
          rw [lo, decide_eq_false fun z => h2 (by have z2 := V.int.inj z; omega)] <;> rfl
        rw [e5]
        refine iteT (iteT (rno ?_ _ x05))
        rw [hb]
        match os, h2 with
        | [], _ => rfl
        | [_], _ => cases ‹Option Nat› <;> rfl
        | [_, _], h2 => exact absurd rfl h2
        | o1 :: o2 :: _ :: _, _ => cases o1 <;> cases o2 <;> rfl
  case key =>
    rintro σ' H6 ⟨bl, vb, bh, u1, u4, u5, rfl, x6, eD, ebl, dvb, hb⟩
    dsimp only [gName, tNext]
    have hs6 := x6.sqL hs
    have knone : lfive w0 a b c d = .none → ∀ H', XX T H6 H' → Q .non H' := fun hn H' x' => k H' .non (x6.trans x') (by rw [hn]; exact .non)
    refine ⟨_, rfl, D, _, rfl, .inl (SqL.of eD), rfl, num_flatV _, _, rfl, ?_⟩
    rw [show (if false = true then !inV .non ([lnO a 99, lnO b 24, lnO c 24].map numV) else inV .non ([lnO a 99, lnO b 24, lnO c 24].map numV)) = inV .non ([lnO a 99, lnO b 24, lnO c 24].map numV) from rfl, in_num]
    cases qa : lnO a 99 with
    | none => exact iteT (iteT (knone (lfive_none (by rw [qa]; rfl)) _ (XX.refl H6)))
    | some x =>
    cases qb : lnO b 24 with
    | none => exact iteT (iteT (knone (lfive_none (by rw [qa, qb]; rfl)) _ (XX.refl H6)))
    | some y =>
    cases qc : lnO c 24 with
    | none => exact iteT (iteT (knone (lfive_none (by rw [qa, qb, qc]; rfl)) _ (XX.refl H6)))
    | some z =>
    rw [qa, qb, qc] at eD
    have ef : lfive w0 a b c d = if y + z ≤ 24 ∧ ¬ (w0 = "part" ∧ z = 0) then .tuple [.str w0, .int (x : Int), .int (y : Int), .int (z : Int), bh] else .none := by
      unfold lfive
      rw [hb, qa, qb, qc]
    refine iteF ?_
    refine tOrX_of (T := T) (decide (24 < y + z)) (decide (w0 = "part") && decide (z = 0)) (fun K' q => ⟨_, rfl, D, _, 1, .int (y : Int), rfl, rfl, SqL.of eD, atI_nat (j := 1) rfl, _, rfl, D, _, 2, .int (z : Int), rfl, rfl, SqL.of eD, atI_nat (j := 2) rfl, _, _, rfl, rfl, _, _, rfl, rfl, _, rfl, ?_⟩) (fun _ H7 x7 K' q => ?_) (fun H7 x7 => ?_)
    · have e : decide ((24 : Int) < (y : Int) + (z : Int)) = decide (24 < y + z) := by
        by_cases h : 24 < y + z
        · rw [decide_eq_true h, decide_eq_true (by omega)]
        · rw [decide_eq_false h, decide_eq_false (by omega)]
      rw [e]
      exact q H6 (XX.refl H6)
    · refine tAndX_of (T := T) (decide (w0 = "part")) (decide (z = 0)) (fun K2 q2 => ⟨_, rfl, p, _, 0, .str w0, rfl, rfl, x7.sqL hs6, atI0, rfl, _, rfl, by rw [dec_str]; exact q2 H7 (XX.refl H7)⟩) (fun _ H8 x8 K2 q2 => ⟨_, rfl, D, _, 2, .int (z : Int), rfl, rfl, (x7.trans x8).sqL (SqL.of eD), atI_nat (j := 2) rfl, rfl, _, rfl, ?_⟩) (fun H8 x8 => q H8 x8)
      have e : decide (V.int (z : Int) = V.int 0) = decide (z = 0) := by
        by_cases h : z = 0
        · rw [decide_eq_true h, h]; rfl
        · rw [decide_eq_false h]
          exact decide_eq_false fun q => h (by have q2 := V.int.inj q; omega)
      rw [e]
      exact q2 H8 (XX.refl H8)
    by_cases hok : y + z ≤ 24 ∧ ¬ (w0 = "part" ∧ z = 0)
    · have e : (decide (24 < y + z) || (decide (w0 = "part") && decide (z = 0))) = false := by
        rw [← Bool.decide_and, ← Bool.decide_or]
        refine decide_eq_false fun q => ?_
        rcases q with q | q
        · omega
        · exact hok.2 q
      rw [e]
      rw [if_pos hok] at ef
      rw [ef] at k
      refine iteF ?_
      dsimp only [gName, tNext]
      refine ⟨_, rfl, p, _, 0, .str w0, rfl, rfl, x7.sqL hs6, atI0, (by show 1 ≤ sizeLine; decide), fun l1 h1 => ?_⟩
      have xa := XX.new (T := T) (o := .lst [V.str w0]) h1
      refine ⟨_, rfl, l1, D, _, _, rfl, rfl, upd_same, (x7.trans xa).lst eD, (by show 4 ≤ sizeLine; decide), fun l2 h2 => ?_⟩
      have xb2 := xa.then_new (o := .lst ([V.str w0] ++ [some x, some y, some z].map numV)) h2
      refine ⟨_, rfl, l2, bl, _, _, rfl, rfl, upd_same, (x7.trans xb2).lst ebl, (by show 5 ≤ sizeLine; decide), fun l3 h3 => ?_⟩
      have xc := xb2.then_new (o := .lst ([V.str w0] ++ [some x, some y, some z].map numV ++ [vb])) h3
      refine ⟨l3, _, rfl, .inl ⟨SqL.of upd_same, fun t6 h6 => k _ _ (x6.trans (x7.trans (xc.then_new h6))) ?_⟩⟩
      exact .tup (SqT.of upd_same) (.cons (.str _) (.cons (.int _) (.cons (.int _) (.cons (.int _) (.cons (Dp.xx (x7.trans (xc.then_new h6)) _ _ dvb) .nil)))))
    · have e : (decide (24 < y + z) || (decide (w0 = "part") && decide (z = 0))) = true := by
        rw [← Bool.decide_and, ← Bool.decide_or]
        refine decide_eq_true ?_
        by_cases q : 24 < y + z
        · exact .inl q
        · refine .inr ?_
          by_cases q2 : w0 = "part" ∧ z = 0
          · exact q2
          · exact absurd ⟨by omega, q2⟩ hok
      rw [e]
      rw [if_neg hok] at ef
      exact iteT (knone ef _ x7)
end
end GX
/-! law_k18: _law_spoilt -/
namespace GX
open PySem PySem.Spec PyProof.Rows L2 LamX
theorem spl_sz (s : Nat) : ∀ (l acc : List Nat), ((TL.spl [s] 0 acc l).map fun p => p.length + 1).sum = acc.length + l.length + 1
  | [], acc => by rw [TL.spl_nil]; simp
  | c :: r, acc => by
    by_cases h : TL.pre [s] (c :: r) = true
    · rw [TL.spl_hit h]
      have := spl_sz s r []
      rw [List.map_cons, List.sum_cons]
      show acc.length + 1 + ((TL.spl [s] 0 [] r).map fun p => p.length + 1).sum = _
      rw [this]
      simp only [List.length_nil, List.length_cons]
      omega
    · rw [TL.spl_miss (by simpa using h), spl_sz s r (acc ++ [c])]
      simp only [List.length_append, List.length_nil, List.length_cons]
      omega
theorem split_sz {x y : Str} {s : Nat} (ey : TL.tl y = [s]) (hk : y.cps.all (· < 256) = true) : szL (Txt.split x y) = x.length + 1 := by
  have e := TL.split_spl x y (by rw [ey]; simp) (TL.kind_ok hk)
  have q := spl_sz s (TL.tl x) []
  rw [← ey, ← e, List.map_map, List.length_nil, Nat.zero_add, ← TL.len_tl] at q
  rw [← q]
  unfold szL
  congr 1
  first
    | done
    | exact List.map_congr_left fun w _ => by show w.length + 1 = (TL.tl w).length + 1; rw [TL.len_tl]
theorem blank_sz (x : Str) : szL (Txt.split x " ") = x.length + 1 := split_sz (s := 32) (by decide +kernel) (by decide +kernel)
theorem line_sz (x : Str) : szL (Txt.split x "\n") = x.length + 1 := split_sz (s := 10) (by decide +kernel) (by decide +kernel)
theorem szL_at {ws : List Str} {j : Nat} (h : j < ws.length) : szL (ws.take j) + szL (ws.drop (j + 1)) + (ws[j].length + 1) = szL ws := by
  have q := szL_take ws j
  rw [List.drop_eq_getElem_cons h, szL_cons] at q
  omega
theorem szL_drop (ws : List Str) (j : Nat) : szL (ws.drop j) ≤ szL ws := by have := szL_take ws j; omega
theorem szL_tk (ws : List Str) (j : Nat) : szL (ws.take j) ≤ szL ws := by have := szL_take ws j; omega
theorem slice_asc {x : Str} (lo hi : Option Int) (h : Asc x) : Asc (Txt.slice x lo hi) := by
  unfold Txt.slice
  split
  · exact h
  · intro c hc
    have hc : c ∈ (Builtin.Str.strSliceIndices lo hi 1 x.length).filterMap (x.cps[·]?) := by simpa [TL.tl] using hc
    obtain ⟨i, _, e⟩ := List.mem_filterMap.mp hc
    exact h c (by rw [TL.tl]; exact Array.mem_toList_iff.mpr (Array.mem_of_getElem? e))
section
variable {K : PySem.W.Frag} {T : List (Addr × Str)} {H : Hp} {σ : L2.St} {ta tb : TE} {as bs ws : List Str}
def LsE (T : List (Addr × Str)) (te : TE) (ws : List Str) (σ : L2.St) (H : Hp) : Prop := ∀ H1, XX T H H1 → ∀ Q : VK, (∀ H2 p, XX T H1 H2 → H1 p = none → H2 p = some (.lst (ws.map V.str)) → Q (.ref p) H2) → te σ H1 Q
def TOI (t : TO) (k : Nat) (σ : L2.St) : Prop := ∀ (H : Hp) (Q : Option Int → Hp → Prop), Q (some (k : Int)) H → t σ H Q
theorem toi_var {j n : Nat} (e : σ[j]? = some (some (.int (n : Int)))) : TOI (tPart (tVar j)) n σ := fun H Q q => ⟨_, e, _, rfl, q⟩
theorem toi_add {j n : Nat} (e : σ[j]? = some (some (.int (n : Int)))) : TOI (tPart (tOp (rI0 fun i j => .int (i + j)) (tVar j) (tC (.int 1)))) (n + 1) σ := fun H Q q => ⟨_, e, _, _, rfl, rfl, _, rfl, q⟩
theorem ls_to {i k : Nat} {p : Addr} {t : TO} (e : σ[i]? = some (some (.ref p))) (hp : H p = some (.lst (ws.map V.str))) (h : TOI t k σ) : LsE T (tSl (rSlL K) (tVar i) tNoPart t) (ws.take k) σ H := fun H1 x1 Q q =>
  ⟨_, e, h H1 _ ⟨p, _, rfl, SqL.of (x1.lst hp), fun r hr => q _ r (XX.new hr) hr (by rw [upd_same, cutV_take, List.map_take])⟩⟩
theorem ls_from {i k : Nat} {p : Addr} {t : TO} (e : σ[i]? = some (some (.ref p))) (hp : H p = some (.lst (ws.map V.str))) (h : TOI t k σ) : LsE T (tSl (rSlL K) (tVar i) t tNoPart) (ws.drop k) σ H := fun H1 x1 Q q =>
  ⟨_, e, h H1 _ ⟨p, _, rfl, SqL.of (x1.lst hp), fun r hr => q _ r (XX.new hr) hr (by rw [upd_same, cutV_drop, List.map_drop])⟩⟩
theorem ls_cat (h1 : LsE T ta as σ H) (h2 : LsE T tb bs σ H) (hl : as.length + bs.length ≤ 100000) : LsE T (tOp rCat ta tb) (as ++ bs) σ H := fun H1 x1 Q q =>
  h1 H1 x1 _ fun H2 p x2 np ep => h2 H2 (x1.trans x2) _ fun H3 r x3 nr er => ⟨p, r, _, _, rfl, rfl, x3.lst ep, er, by rw [List.length_map, List.length_map, sizeLine_eq]; omega, fun t ht => q _ t ((x2.trans x3).then_new ht) ((x2.trans x3).free ht) (by rw [upd_same, List.map_append])⟩
theorem ls_join {p : Addr} {s : Str} {Q : VK} (hs : s.length = 1) (hp : H p = some (.lst (ws.map V.str))) (hz : szL ws ≤ 100000) (q : Q (.str (Txt.join s ws)) H) : rJoinT K (.str s) [.ref p] H Q :=
  ⟨s, p, ws, rfl, rfl, .inl (SqL.of hp), by rw [hs, Nat.mul_one, szL_sum]; omega, q⟩
end
def evS : Str := "0123456789 .-\nabcdefghijklmnopqrstuvwxyz!#$&'()*+,/:;<=>?@ABCDEFGHIJKLMNOPQRSTUVWXYZ[]^_{|}~"
theorem ev_len : evS.length = 92 := by decide +kernel
theorem ev_asc : Asc evS := asc_by (by decide +kernel)
theorem ev_at {i : Int} (h0 : 0 ≤ i) (h1 : i < 92) : ∃ c, evS.cps[i.toNat]? = some c ∧ c < 128 := by
  have hl : i.toNat < evS.cps.size := by
    have : evS.cps.size = 92 := ev_len
    omega
  exact ⟨evS.cps[i.toNat], Array.getElem?_eq_getElem hl, ev_asc _ (Array.mem_toList_iff.mpr (Array.getElem_mem hl))⟩
theorem sign_txo {c : Nat} (h : c < 128) : Txo 1 (⟨#[c]⟩ : Str) := ⟨Nat.le_refl 1, fun d hd => by
  have : d = c := by simpa [TL.tl] using hd
  rw [this]; exact h⟩
def odL : List Str := ["", "0", "00", "07", "24", "25", "99", "100", "101", "-", "-1", "11.7", "12.0", "0.8", "0.", "1.2.3", "free", "row", "part", "cells", "Row", "1000"]
def odB : Bool := odL.all fun w => decide (w.length ≤ 5) && ascB w
theorem od_txo {w : Str} (h : w ∈ odL) : Txo 5 w := txo_by (List.all_eq_true.mp (show odB = true by decide +kernel) w h)
def spSpoilt (T : List (Addr × Str)) : Sp := fun vs H Q _ => ∃ b l ns z t, vs = [.ref b, .str t] ∧ BoxAt H b l ns z ∧ t.length ≤ 7000 ∧ Asc t ∧ ∀ H' ns' z' w, XM T (SB2 b l) H H' → BoxAt H' b l ns' z' → w.length ≤ 2 * t.length + 10 → Asc w → Q (.str w) H'
section
variable {P : Program} {w : World} {K : PySem.W.Frag} {mg : Str → Option Value} {base : Heap} {T : List (Addr × Str)}
abbrev slN : List Str := ["_law_box", "_law_text", "_law_deed", "_law_place", "_law_every", "_law_sign", "_law_rows", "_law_k", "_law_some", "_law_words", "_law_j", "_law_odd"]
theorem sc_lspoilt : FnScope slN ["_law_box", "_law_text"] (defScope s_lspoilt) := ⟨rfl, rfl, rfl, by decide +kernel, rfl, by decide +kernel, by decide +kernel⟩
theorem ok_lspoilt {f : Addr} {fd : FuncData} (F : L2.Fun K "_law_spoilt" "_law_spoilt" s_lspoilt f fd) (B : Blt mg) (cT : Cal P w K mg base CX0 "_law_take" ["_law_box", "_law_many"] 1 (spTake T)) :
    FnOk P w K mg base CX0 2 f fd ["_law_box", "_law_text"] (spSpoilt T) := by
  refine F.ok sc_lspoilt (fun vs H Q E h => by obtain ⟨b, l, ns, z, t, rfl, _⟩ := h; rfl) (fun cdv A outer s H vs Q E hr h => ?_)
  obtain ⟨b, l, ns, z, t, rfl, bx, hl, hasc, k⟩ := h
  have nd := sc_lspoilt.nd
  refine ⟨_, pss_cons (ps_set (i := 2) nd rfl (.inl rfl) (pe_cal cT hr (pa_cons (pv 0) (pa_cons pe_int pa_nil))))
    (pss_cons (ps_set (i := 3) nd rfl (.inl rfl) (pe_cal cT hr (pa_cons (pv 0) (pa_cons (pe_op op_add (pe_callB call_len_str (by rfl) B.len PySem.boot_len (pa_cons (pv 1) pa_nil)) pe_int) pa_nil))))
    (pss_cons (ps_set (i := 4) nd rfl (.inl rfl) pe_str)
    (pss_cons (ps_set (i := 5) nd rfl (.inl rfl) (pe_item_str (pv 4) (pe_cal cT hr (pa_cons (pv 0) (pa_cons (pe_ix ix_list (pe_lst (pa_cons pe_int (pa_cons pe_int pa_nil))) (pe_cal cT hr (pa_cons (pv 0) (pa_cons pe_int pa_nil))) (fun _ _ => rfl)) pa_nil))) (fun _ _ => rfl)))
    (pss_cons (ps_if (pt_cmpR op_eq (pv 2) pe_int (nomark _)) (pss_one (ps_set (i := 5) nd rfl (.inl rfl) pe_str)) pss_nil)
    (pss_cons (ps_if (pt_cmpR op_lt (pv 2) pe_int (nomark _)) (pss_one (ps_ret (pe_op op_addT (pe_op op_addT (pe_slice C8.sl_txt (pv 1) po_none (po_some (pv 3))) (pv 5)) (pe_slice C8.sl_txt (pv 1) (po_some (pe_op op_add (pv 3) (pe_callTy call_int1 (by rfl) B.int (by decide +kernel) (pa_cons (pe_cmpR op_gt (pv 2) pe_int (nomark _)) pa_nil)))) po_none)))) pss_nil)
    (pss_cons (ps_set (i := 6) nd rfl (.inl rfl) (pe_split (pv 1) pe_str))
    (pss_cons (ps_set (i := 7) nd rfl (.inl rfl) (pe_cal cT hr (pa_cons (pv 0) (pa_cons (pe_callB call_len_seq (by rfl) B.len PySem.boot_len (pa_cons (pv 6) pa_nil)) pa_nil))))
    (pss_cons (ps_if (pt_cmpR op_lt (pv 2) pe_int (nomark _))
      (pss_cons (ps_set (i := 8) nd rfl (.inl rfl) (pe_lst (pa_cons (pe_op op_cat (pe_slice sl_list (pv 6) po_none (po_some (pv 7))) (pe_slice sl_list (pv 6) (po_some (pe_op op_add (pv 7) pe_int)) po_none)) (pa_cons (pe_op op_cat (pe_slice sl_list (pv 6) po_none (po_some (pe_op op_add (pv 7) pe_int))) (pe_slice sl_list (pv 6) (po_some (pv 7)) po_none)) (pa_cons (pe_op op_cat (pe_slice sl_list (pv 6) (po_some (pv 7)) po_none) (pe_slice sl_list (pv 6) po_none (po_some (pv 7)))) pa_nil)))))
      (pss_one (ps_ret (pe_joinT pe_str (pe_ix ix_list (pv 8) (pe_op op_sub (pv 2) pe_int) (fun _ _ => rfl)))))) pss_nil)
    (pss_cons (ps_set (i := 9) nd rfl (.inl rfl) (pe_split (pe_ix ix_list (pv 6) (pv 7) (fun _ _ => rfl)) pe_str))
    (pss_cons (ps_set (i := 10) nd rfl (.inl rfl) (pe_cal cT hr (pa_cons (pv 0) (pa_cons (pe_callB call_len_seq (by rfl) B.len PySem.boot_len (pa_cons (pv 9) pa_nil)) pa_nil))))
    (pss_cons (ps_set (i := 11) nd rfl (.inl rfl) (pe_lst (pa_cons pe_str (pa_cons pe_str (pa_cons pe_str (pa_cons pe_str (pa_cons pe_str (pa_cons pe_str (pa_cons pe_str (pa_cons pe_str (pa_cons pe_str (pa_cons pe_str (pa_cons pe_str (pa_cons pe_str (pa_cons pe_str (pa_cons pe_str (pa_cons pe_str (pa_cons pe_str pa_nil))))))))))))))))))
    (pss_cons (ps_set (i := 11) nd rfl (.inl rfl) (pe_op op_cat (pv 11) (pe_lst (pa_cons pe_str (pa_cons pe_str (pa_cons pe_str (pa_cons pe_str (pa_cons pe_str (pa_cons pe_str pa_nil)))))))))
    (pss_cons (ps_set (i := 9) nd rfl (.inl rfl) (pe_op op_cat (pe_op op_cat (pe_slice sl_list (pv 9) po_none (po_some (pv 10))) (pe_ix ix_list (pe_lst (pa_cons (pe_lst pa_nil) (pa_cons (pe_op op_rep (pe_lst (pa_cons (pe_ix ix_list (pv 9) (pv 10) (fun _ _ => rfl)) pa_nil)) pe_int) (pa_cons (pe_lst (pa_cons (pe_ix ix_list (pv 11) (pe_cal cT hr (pa_cons (pv 0) (pa_cons pe_int pa_nil))) (fun _ _ => rfl)) pa_nil)) pa_nil)))) (pe_op op_sub (pv 2) pe_int) (fun _ _ => rfl))) (pe_slice sl_list (pv 9) (po_some (pe_op op_add (pv 10) pe_int)) po_none)))
    (pss_one (ps_ret (pe_joinT pe_str (pe_op op_cat (pe_op op_cat (pe_slice sl_list (pv 6) po_none (po_some (pv 7))) (pe_lst (pa_cons (pe_joinT pe_str (pv 9)) pa_nil))) (pe_slice sl_list (pv 6) (po_some (pe_op op_add (pv 7) pe_int)) po_none)))))))))))))))))), ?_⟩
  refine ⟨_, rfl, b, l, ns, z, 9, rfl, bx, by decide, by decide, fun H1 ns1 z1 deed a1 bx1 d0 d1 => ?_⟩
  obtain ⟨dd, rfl⟩ := Int.eq_ofNat_of_zero_le d0
  dsimp only [gName]
  refine ⟨_, rfl, _, rfl, t, rfl, by rw [sizeLine_eq]; omega, _, _, rfl, rfl, b, l, ns1, z1, (t.length : Int) + 1, rfl, bx1, by omega, by omega, fun H2 ns2 z2 pl a2 bx2 p0 p1 => ?_⟩
  obtain ⟨pp, rfl⟩ := Int.eq_ofNat_of_zero_le p0
  refine ⟨_, rfl, _, rfl, (by show 2 ≤ sizeLine; decide), fun p3 h3 => ⟨_, rfl, b, l, ns2, z2, 2, rfl, bx2.xx (XX.new (T := T) h3), by decide, by decide, fun H3 ns3 z3 r3 a3 bx3 r30 r31 => ?_⟩⟩
  have nb3 := box_ne bx2 h3
  obtain ⟨mm, em, m0, m1⟩ : ∃ mm : Int, atI [V.int 14, .int 92] r3 = some (.int mm) ∧ 0 < mm ∧ mm ≤ 92 := by
    rcases (show r3 = 0 ∨ r3 = 1 by omega) with e | e
    · rw [e]; exact ⟨14, rfl, by decide, by decide⟩
    · rw [e]; exact ⟨92, rfl, by decide, by decide⟩
  refine ⟨p3, _, r3, .int mm, rfl, rfl, SqL.of (a3.lst upd_same nb3), em, b, l, ns3, z3, mm, rfl, bx3, m0, by omega, fun H4 ns4 z4 sg a4 bx4 s0 s1 => ?_⟩
  obtain ⟨c, ec, hc⟩ := ev_at (i := sg) s0 (by omega)
  refine ⟨evS, sg, c, rfl, rfl, s0, by omega, by rw [ev_len]; omega, ec, ?_⟩
  dsimp only [gName]
  have a04 : XM T (SB2 b l) H H4 := ((a1.trans a2).trans ((XX.new h3).xm.trans a3)).trans a4
  refine ⟨_, rfl, rfl, _, rfl, ?_⟩
  refine ifs_keyR (fun σ' H' => ∃ sw, σ' = [some (.ref b), some (.str t), some (.int (dd : Int)), some (.int (pp : Int)), some (.str evS), some (.str sw), none, none, none, none, none, none] ∧ H' = H4 ∧ Txo 1 sw) ?key (fun _ D' kn _ => kn _ _ ⟨"", rfl, rfl, txo_by (by decide +kernel)⟩) (fun _ D' kn _ => kn _ _ ⟨_, rfl, rfl, sign_txo hc⟩)
  rintro σ' H' ⟨sw, rfl, rfl, tsw⟩
  dsimp only [gName, tNext]
  refine ⟨_, rfl, _, _, rfl, rfl, _, rfl, ?_⟩
  by_cases hd3 : dd < 3
  · rw [decide_eq_true (by omega)]
    have l1 := Txt.slice_le t none (some (pp : Int))
    refine iteT ⟨_, rfl, _, rfl, _, rfl, t, rfl, by rw [sizeLine_eq]; omega, _, rfl, _, _, rfl, rfl, by have := tsw.1; rw [sizeLine_eq]; omega, _, rfl, _, rfl, _, rfl, _, _, rfl, rfl, .inr ⟨_, rfl, _, _, rfl, rfl, _, rfl, t, rfl, by rw [sizeLine_eq]; omega, _, _, rfl, rfl, ?_, ?_⟩⟩
    · have l2 := Txt.slice_le t (some ((pp : Int) + if decide ((0 : Int) < (dd : Int)) = true then 1 else 0)) none
      have := tsw.1
      rw [len_app, sizeLine_eq]
      omega
    · have l2 := Txt.slice_le t (some ((pp : Int) + if decide ((0 : Int) < (dd : Int)) = true then 1 else 0)) none
      have := tsw.1
      exact k _ ns4 z4 _ a04 bx4 (by rw [len_app, len_app]; omega) (((slice_asc _ _ hasc).app tsw.2).app (slice_asc _ _ hasc))
  · rw [decide_eq_false (by omega)]
    refine iteF ?_
    dsimp only [gName, tNext]
    obtain ⟨q1, q2, q3⟩ := line_bounds t
    have qs := line_sz t
    have qa := line_asc hasc
    refine ⟨_, rfl, ⟨t, rfl⟩, t, "\n", rfl, rfl, rfl, by rw [sizeLine_eq]; omega, fun p6 h6 => ?_⟩
    generalize Txt.split t "\n" = rows at q1 q2 q3 qs qa ⊢
    have nb6 := box_ne bx4 h6
    have x6 := XX.new (T := T) (o := .lst (rows.map V.str)) h6
    have lr : (rows.map V.str).length = rows.length := List.length_map ..
    have hr0 : 0 < rows.length := List.length_pos_iff.mpr q1
    refine ⟨_, rfl, _, rfl, p6, _, rfl, .inl (SqL.of upd_same), b, l, ns4, z4, ((rows.map V.str).length : Int), rfl, bx4.xx x6, by omega, by omega, fun H6 ns6 z6 k6 a6 bx6 k0 k1 => ?_⟩
    obtain ⟨kk, rfl⟩ := Int.eq_ofNat_of_zero_le k0
    have hk : kk < rows.length := by omega
    have e6 : H6 p6 = some (.lst (rows.map V.str)) := a6.lst upd_same nb6
    have a06 := a04.trans (x6.xm.trans a6)
    refine ⟨_, rfl, _, _, rfl, rfl, _, rfl, ?_⟩
    by_cases hd6 : dd < 6
    · rw [decide_eq_true (by omega)]
      refine iteT ?_
      refine ls_cat (T := T) (ls_to rfl e6 (toi_var rfl)) (ls_from rfl e6 (toi_add rfl)) ?_ H6 (XX.refl H6) _ fun H7 r1 x7 n7 e7 => ?_
      · rw [List.length_take, List.length_drop]; omega
      refine ls_cat (T := T) (ls_to rfl e6 (toi_add rfl)) (ls_from rfl e6 (toi_var rfl)) ?_ H7 x7 _ fun H8 r2 x8 n8 e8 => ?_
      · rw [List.length_take, List.length_drop]; omega
      refine ls_cat (T := T) (ls_from rfl e6 (toi_var rfl)) (ls_to rfl e6 (toi_var rfl)) ?_ H8 (x7.trans x8) _ fun H9 r3' x9 n9 e9 => ?_
      · rw [List.length_take, List.length_drop]; omega
      refine ⟨(by show 3 ≤ sizeLine; decide), fun p9 h9 => ?_⟩
      have xx := XX.new (T := T) (o := .lst [V.ref r1, V.ref r2, V.ref r3']) h9
      have x69 := ((x7.trans x8).trans x9).trans xx
      have fin : ∀ (q : Addr) (ws : List Str), upd H9 p9 (.lst [V.ref r1, V.ref r2, V.ref r3']) q = some (.lst (ws.map V.str)) → szL ws ≤ 2 * szL rows → (∀ w ∈ ws, w ∈ rows) →
          rJoinT K (.str "\n") [.ref q] (upd H9 p9 (.lst [V.ref r1, V.ref r2, V.ref r3'])) Q := fun q ws e hz hm =>
        ls_join rfl e (by omega) (k _ ns6 z6 _ (a06.trans x69.xm) (bx6.xx x69) (by have := join_len (s := "\n") rfl ws; omega) (join_asc (asc_by (by decide +kernel)) fun w hw => qa w (hm w hw)))
      have s1 := szL_at hk
      have s2 := szL_take rows kk
      have s3 := szL_take rows (kk + 1)
      refine ⟨⟨"\n", rfl⟩, _, rfl, _, rfl, _, _, rfl, rfl, ?_⟩
      rcases (show dd = 3 ∨ dd = 4 ∨ dd = 5 by omega) with e | e | e
      · subst e
        exact ⟨p9, _, _, .ref r1, rfl, rfl, SqL.of upd_same, rfl, fin r1 _ ((x8.trans x9).trans xx |>.lst e7) (by rw [szL_app]; omega) fun w hw => (List.mem_append.mp hw).elim (fun h => List.mem_of_mem_take h) fun h => List.mem_of_mem_drop h⟩
      · subst e
        exact ⟨p9, _, _, .ref r2, rfl, rfl, SqL.of upd_same, rfl, fin r2 _ ((x9.trans xx).lst e8) (by rw [szL_app]; omega) fun w hw => (List.mem_append.mp hw).elim (fun h => List.mem_of_mem_take h) fun h => List.mem_of_mem_drop h⟩
      · subst e
        exact ⟨p9, _, _, .ref r3', rfl, rfl, SqL.of upd_same, rfl, fin r3' _ (xx.lst e9) (by rw [szL_app]; omega) fun w hw => (List.mem_append.mp hw).elim (fun h => List.mem_of_mem_drop h) fun h => List.mem_of_mem_take h⟩
    · rw [decide_eq_false (by omega)]
      refine iteF ?_
      dsimp only [gName, tNext]
      have hrow : Asc rows[kk] := qa _ (List.getElem_mem hk)
      have lrow : rows[kk].length ≤ t.length := q3 _ (List.getElem_mem hk)
      have srow := szL_at hk
      refine ⟨_, rfl, _, rfl, p6, _, _, .str rows[kk], rfl, rfl, SqL.of e6, atI_nat (by rw [List.getElem?_map, List.getElem?_eq_getElem hk]; rfl), ⟨_, rfl⟩, rows[kk], " ", rfl, rfl, rfl, by rw [sizeLine_eq]; omega, fun p9 h9 => ?_⟩
      obtain ⟨w1, w2, w3⟩ := blank_bounds rows[kk]
      have ws := blank_sz rows[kk]
      have wa := blank_asc hrow
      generalize rows[kk] = row at hrow lrow srow w1 w2 w3 ws wa ⊢
      generalize Txt.split row " " = W at w1 w2 w3 ws wa ⊢
      have nb9 := box_ne bx6 h9
      have x9 := XX.new (T := T) (o := .lst (W.map V.str)) h9
      have lw : (W.map V.str).length = W.length := List.length_map ..
      have hw0 : 0 < W.length := List.length_pos_iff.mpr w1
      have bx9 := bx6.xx x9
      refine ⟨_, rfl, _, rfl, p9, _, rfl, .inl (SqL.of upd_same), b, l, ns6, z6, ((W.map V.str).length : Int), rfl, bx9, by omega, by omega, fun H10 ns10 z10 j10 a10 bx10 j0 j1 => ?_⟩
      obtain ⟨jj, rfl⟩ := Int.eq_ofNat_of_zero_le j0
      have hj : jj < W.length := by omega
      have e9 : H10 p9 = some (.lst (W.map V.str)) := a10.lst upd_same nb9
      have nb6' : ¬ SB2 b l p6 := nb6
      have e6' : H10 p6 = some (.lst (rows.map V.str)) := a10.lst (x9.lst e6) nb6
      have a010 := a06.trans (x9.xm.trans a10)
      dsimp only [gName]
      refine ⟨(by show 16 ≤ sizeLine; decide), fun p11 h11 => ⟨_, rfl, (by show 6 ≤ sizeLine; decide), fun p12 h12 => ?_⟩⟩
      dsimp only [gName]
      refine ⟨p11, p12, _, _, rfl, rfl, (XX.new (T := T) h12).lst upd_same, upd_same, (by show 16 + 6 ≤ sizeLine; decide), fun p13 h13 => ?_⟩
      dsimp only [gName]
      have x13 := ((XX.new (T := T) h11).then_new h12).then_new (o := .lst (odL.map V.str)) h13
      have nb13 := box_ne (bx10.xx ((XX.new (T := T) h11).then_new h12)) h13
      refine ls_to (T := T) (ws := W) rfl (x13.lst e9) (toi_var rfl) _ (XX.refl _) _ fun H14 r1 x14 n14 e14 => ?_
      have np14 : ∀ {q : Addr}, L2.upd H14 q = L2.upd H14 q := rfl
      have x1014 := x13.trans x14
      refine ⟨(by show 0 ≤ sizeLine; decide), fun p15 h15 => ?_⟩
      have x15 := x1014.then_new (o := .lst []) h15
      refine ⟨_, rfl, _, rfl, p9, _, _, .str W[jj], rfl, rfl, SqL.of (x15.lst e9), atI_nat (by rw [List.getElem?_map, List.getElem?_eq_getElem hj]; rfl), (by show 1 ≤ sizeLine; decide), fun p16 h16 => ⟨p16, 2, _, rfl, rfl, upd_same, by decide, by decide, (by show 1 * 2 ≤ sizeLine; decide), fun p17 h17 => ?_⟩⟩
      have x17 := (x15.then_new (o := .lst [V.str W[jj]]) h16).then_new (o := .lst ([W[jj], W[jj]].map V.str)) h17
      have e13 := ((((x14.then_new (o := .lst []) h15).then_new (o := .lst [V.str W[jj]]) h16).then_new (o := .lst ([W[jj], W[jj]].map V.str)) h17)).lst (p := p13) (xs := odL.map V.str) upd_same
      refine ⟨_, rfl, _, rfl, b, l, ns10, z10, 22, rfl, bx10.xx x17, by decide, by decide, fun H18 ns18 z18 o18 a18 bx18 o0 o1 => ?_⟩
      obtain ⟨oo, rfl⟩ := Int.eq_ofNat_of_zero_le o0
      have hoo : oo < odL.length := by show oo < 22; omega
      have tod := od_txo (List.getElem_mem hoo)
      refine ⟨p13, _, _, .str odL[oo], rfl, rfl, SqL.of (a18.lst e13 nb13), atI_nat (by rw [List.getElem?_map, List.getElem?_eq_getElem hoo]; rfl), (by show 1 ≤ sizeLine; decide), fun p19 h19 => ⟨(by show 3 ≤ sizeLine; decide), fun p20 h20 => ?_⟩⟩
      have x1820 := (XX.new (T := T) (o := .lst ([odL[oo]].map V.str)) h19).then_new (o := .lst [V.ref p15, V.ref p17, V.ref p19]) h20
      have nb15 := box_ne (bx10.xx x1014) h15
      have nb17 := box_ne (bx10.xx (x15.then_new (o := .lst [V.str W[jj]]) h16)) h17
      have nb14 := box_ne (bx10.xx x13) n14
      have e15 := x1820.lst (a18.lst (((XX.new (T := T) (o := .lst [V.str W[jj]]) h16).then_new (o := .lst ([W[jj], W[jj]].map V.str)) h17).lst (p := p15) (xs := ([] : List Str).map V.str) upd_same) nb15)
      have e17 := x1820.lst (a18.lst (p := p17) (xs := [W[jj], W[jj]].map V.str) upd_same nb17)
      have e19 := (XX.new (T := T) (o := .lst [V.ref p15, V.ref p17, V.ref p19]) h20).lst (p := p19) (xs := [odL[oo]].map V.str) upd_same
      have e14' := x1820.lst (a18.lst ((((XX.new (T := T) (o := .lst []) h15).then_new (o := .lst [V.str W[jj]]) h16).then_new (o := .lst ([W[jj], W[jj]].map V.str)) h17).lst e14) nb14)
      have e9' := x1820.lst (a18.lst (x17.lst e9) nb9)
      have e6'' := x1820.lst (a18.lst (x17.lst e6') nb6)
      have a020 := a010.trans ((x17.xm.trans a18).trans x1820.xm)
      have bx20 := bx18.xx x1820
      have hwj : Asc W[jj] := wa _ (List.getElem_mem hj)
      have swj := szL_at hj
      obtain ⟨q, X, eq, eX, zX, lX, aX⟩ : ∃ q X, atI [V.ref p15, V.ref p17, V.ref p19] ((dd : Int) - 6) = some (.ref q) ∧ upd (upd H18 p19 (.lst ([odL[oo]].map V.str))) p20 (.lst [V.ref p15, V.ref p17, V.ref p19]) q = some (.lst (X.map V.str)) ∧ szL X ≤ 2 * (W[jj].length + 1) + 6 ∧ X.length ≤ 2 ∧ ∀ w ∈ X, Asc w := by
        rcases (show dd = 6 ∨ dd = 7 ∨ dd = 8 by omega) with e | e | e
        · rw [e]; exact ⟨p15, [], rfl, e15, by show 0 ≤ _; omega, by decide, fun w hm => absurd hm (by simp)⟩
        · rw [e]; refine ⟨p17, [W[jj], W[jj]], rfl, e17, by rw [szL_cons, szL_cons]; show _ + (_ + 0) ≤ _; omega, by show 2 ≤ 2; decide, fun w hm => ?_⟩
          rcases List.mem_cons.mp hm with e | hm
          · rw [e]; exact hwj
          · rw [List.mem_singleton.mp hm]; exact hwj
        · rw [e]; exact ⟨p19, [odL[oo]], rfl, e19, by have := tod.1; rw [szL_cons]; show _ + 0 ≤ _; omega, by show 1 ≤ 2; decide, fun w hm => by rw [List.mem_singleton.mp hm]; exact tod.2⟩
      have e20 : upd (upd H18 p19 (.lst ([odL[oo]].map V.str))) p20 (.lst [V.ref p15, V.ref p17, V.ref p19]) p20 = some (.lst [V.ref p15, V.ref p17, V.ref p19]) := upd_same
      refine ⟨_, rfl, _, _, rfl, rfl, p20, _, _, .ref q, rfl, rfl, SqL.of e20, eq, r1, q, _, _, rfl, rfl, e14', eX, by rw [List.length_map, List.length_map, List.length_take, sizeLine_eq]; omega, fun p21 h21 => ?_⟩
      have x21 := XX.new (T := T) (o := .lst ((W.take jj).map V.str ++ X.map V.str)) h21
      refine ls_from (T := T) (ws := W) rfl (x21.lst e9') (toi_add rfl) _ (XX.refl _) _ fun H22 r2 x22 n22 e22 => ⟨p21, r2, _, _, rfl, rfl, x22.lst upd_same, e22, by rw [List.length_append, List.length_map, List.length_map, List.length_map, List.length_take, List.length_drop, sizeLine_eq]; omega, fun p23 h23 => ?_⟩
      have x23 := (x21.trans x22).then_new (o := .lst (((W.take jj).map V.str ++ X.map V.str) ++ (W.drop (jj + 1)).map V.str)) h23
      have e23 : upd H22 p23 (.lst (((W.take jj).map V.str ++ X.map V.str) ++ (W.drop (jj + 1)).map V.str)) p23 = some (.lst (((W.take jj ++ X) ++ W.drop (jj + 1)).map V.str)) := by rw [List.map_append, List.map_append]; exact upd_same
      have zW : szL ((W.take jj ++ X) ++ W.drop (jj + 1)) ≤ 2 * row.length + 8 := by rw [szL_app, szL_app]; omega
      have aW : ∀ w ∈ (W.take jj ++ X) ++ W.drop (jj + 1), Asc w := fun w hm => by
        rcases List.mem_append.mp hm with hm | hm
        · rcases List.mem_append.mp hm with hm | hm
          · exact wa w (List.mem_of_mem_take hm)
          · exact aX w hm
        · exact wa w (List.mem_of_mem_drop hm)
      dsimp only [gName]
      generalize (W.take jj ++ X) ++ W.drop (jj + 1) = W' at e23 zW aW
      have e6c := x23.lst e6''
      have a023 := a020.trans x23.xm
      have bx23 := bx20.xx x23
      generalize upd H22 p23 (.lst (((W.take jj).map V.str ++ X.map V.str) ++ (W.drop (jj + 1)).map V.str)) = H23 at e23 e6c a023 bx23 ⊢
      have lrw := join_len (s := " ") rfl W'
      refine ⟨⟨"\n", rfl⟩, ?_⟩
      refine ls_cat (T := T) (ls_cat (T := T) (bs := [Txt.join " " W']) (ls_to rfl e6c (toi_var rfl)) (fun H1 x1 Q' q' => ⟨⟨" ", rfl⟩, _, rfl, ls_join rfl (x1.lst e23) (by omega) ⟨(by show 1 ≤ sizeLine; decide), fun r hr => q' _ r (XX.new hr) hr upd_same⟩⟩) ?_) (ls_from rfl e6c (toi_add rfl)) ?_ H23 (XX.refl _) _ fun H24 r24 x24 n24 e24 => ls_join rfl e24 ?_ (k _ ns18 z18 _ (a023.trans x24.xm) (bx23.xx x24) ?_ (join_asc (asc_by (by decide +kernel)) fun w hm => ?_))
      · rw [List.length_take]; show _ + 1 ≤ _; omega
      · rw [List.length_append, List.length_take, List.length_drop]; show _ + 1 + _ ≤ _; omega
      · rw [szL_app, szL_app, szL_cons]; show _ + (_ + 0) + _ ≤ _; omega
      · have q9 := join_len (s := "\n") rfl ((rows.take kk ++ [Txt.join " " W']) ++ rows.drop (kk + 1))
        rw [szL_app, szL_app, szL_cons] at q9
        have q9 : _ ≤ szL (rows.take kk) + (((Txt.join " " W').length + 1) + 0) + szL (rows.drop (kk + 1)) := q9
        omega
      · rcases List.mem_append.mp hm with hm | hm
        · rcases List.mem_append.mp hm with hm | hm
          · exact qa w (List.mem_of_mem_take hm)
          · rw [List.mem_singleton.mp hm]; exact join_asc (asc_by (by decide +kernel)) aW
        · exact qa w (List.mem_of_mem_drop hm)
end
end GX
set_option maxHeartbeats 2000000
namespace GX
open PySem PySem.Spec PyProof.Rows L2 LamX
/-- _law_page: some page, drawn -/
def spLPage (K : PySem.W.Frag) (T : List (Addr × Str)) : Sp := fun vs H Q _ => ∃ b l ns z, vs = [.ref b] ∧ BoxAt H b l ns z ∧
  ∀ H' ns' z' d v, XM T (fun c => c = b ∨ c = l) H H' → BoxAt H' b l ns' z' → Dp K H' v d → isPage d = true → Q v H'
end GX
/-! cells that are frozen while a def of the program is called, and hidden while a lambda's body runs: what is known there is known here -/
namespace GX
open PySem PySem.Spec PyProof.Rows L2 LamX
def Fz (S : Addr → Prop) (H : Hp) : Prop := ∀ b, S b → ∃ (o : Obj) (v : Option Value), H b = some (frzO o) ∧ o.data = .cell v
def WkE (H H' : Hp) : Prop := ∀ b o, H b = some o → (∀ ob, o ≠ frzO ob) → (∀ ps, o ≠ .tbl ps) → H' b = some o
section
variable {T : List (Addr × Str)} {S S' : Addr → Prop} {H H1 H2 H' : Hp} {K : PySem.W.Frag}
theorem WkE.rd (a : WkE H H') {p : Addr} {o : HO} (n : ∀ ob, o ≠ frzO ob) (t : ∀ ps, o ≠ .tbl ps) (m : ∀ ob ob', HO.frz ob o ≠ frzO ob') (h : Rd H p o) : Rd H' p o := by
  rcases h with h | ⟨ob, h⟩
  · exact .inl (a _ _ h n t)
  · exact .inr ⟨ob, a _ _ h (m ob) fun ps z => by cases z⟩
theorem WkE.sqL (a : WkE H H') {p : Addr} {xs : List V} (h : SqL K H p xs) : SqL K H' p xs := by
  rcases h with h | h
  · exact .inl (a.rd (fun ob z => by cases z) (fun ps z => by cases z) (fun ob ob' z => by cases z) h)
  · exact .inr h
theorem WkE.sqT (a : WkE H H') {p : Addr} {xs : List V} (h : SqT K H p xs) : SqT K H' p xs := by
  rcases h with h | h
  · exact .inl (a.rd (fun ob z => by cases z) (fun ps z => by cases z) (fun ob ob' z => by cases z) h)
  · exact .inr h
mutual
theorem Dp.wk (a : WkE H H') : ∀ (d : PyData) (v : V), Dp K H v d → Dp K H' v d
  | .none, _, h => by cases h; exact .non
  | .bool _, _, h => by cases h; exact .bl _
  | .int _, _, h => by cases h; exact .int _
  | .str _, _, h => by cases h; exact .str _
  | .list ds, _, h => by
    cases h with
    | lst hs ha => exact .lst (a.sqL hs) (Dp.wkAll a ds _ ha)
  | .tuple ds, _, h => by
    cases h with
    | tup hs ha => exact .tup (a.sqT hs) (Dp.wkAll a ds _ ha)
  | .dict _, _, h => by cases h
theorem Dp.wkAll (a : WkE H H') : ∀ (ds : List PyData) (vs : List V), DpAll K H vs ds → DpAll K H' vs ds
  | [], _, h => by cases h; exact .nil
  | d :: ds, _, h => by
    cases h with
    | cons h1 h2 => exact .cons (Dp.wk a d _ h1) (Dp.wkAll a ds _ h2)
end
theorem Fz.no (f : Fz S H) {b : Addr} {o : HO} (e : H b = some o) (n : ∀ ob, o ≠ frzO ob) : ¬ S b := fun h => by
  obtain ⟨ob, v, q, _⟩ := f b h
  rw [e] at q
  exact n ob (Option.some.inj q)
theorem Fz.un (f : Fz S H) {b : Addr} {o : HO} (e : H b = some o) (n : ∀ ob, o ≠ frzO ob) : unf S H b = some o := by rw [unf_out (f.no e n)]; exact e
theorem Fz.wk (f : Fz S H) : WkE H (unf S H) := fun b o e n _ => f.un e n
theorem Fz.xm (f : Fz S H) (a : XM T S' H H') : Fz S H' := fun b h => by
  obtain ⟨ob, v, q, d⟩ := f b h
  exact ⟨ob, v, a.frz _ _ _ q, d⟩
theorem Fz.xx (f : Fz S H) (a : XX T H H') : Fz S H' := f.xm (S' := fun _ => False) a.xm
theorem Fz.sub (f : Fz S H) (h : ∀ b, S' b → S b) : Fz S' H := fun b hb => f b (h b hb)
theorem codeO_nf {c : Addr} {q : Str} (ob : Obj) : CodeO c q ≠ frzO ob := fun z => by
  unfold CodeO at z
  cases z
theorem tab_nf (ps : Array Value) (ob : Obj) : HO.tbl ps ≠ frzO ob := fun z => by cases z
/-- known outside the frozen things -/
theorem Fz.tabs (f : Fz S H) (t : Tabs T H) : Tabs T (unf S H) := fun p hp => by
  obtain ⟨ps, h1, h2, h3⟩ := t p hp
  refine ⟨ps, f.un h1 (tab_nf ps), h2, fun pos cv hc => ?_⟩
  obtain ⟨c, e1, e2⟩ := h3 pos cv hc
  exact ⟨c, e1, f.un e2 codeO_nf⟩
theorem Fz.tabG (f : Fz S H) {p : Addr} (t : GxR.TabG H p) : GxR.TabG (unf S H) p := by
  obtain ⟨ps, h1, h2⟩ := t
  exact ⟨ps, f.un h1 (tab_nf ps), h2⟩
/-- H outside of S is H1, and at S there stood nothing -/
structure Fr (S : Addr → Prop) (H1 H2 : Hp) : Prop where
  out : ∀ b, ¬ S b → H2 b = H1 b
  free : ∀ b, S b → H1 b = none
  any : Fz S H2
theorem Fr.ext (z : Fr S H1 H2) {b : Addr} {o : HO} (e : H1 b = some o) : H2 b = some o := by
  by_cases hb : S b
  · rw [z.free b hb] at e; cases e
  · rw [z.out b hb]; exact e
theorem Fr.no (z : Fr S H1 H2) {b : Addr} {o : HO} (e : H1 b = some o) : ¬ S b := fun h => by rw [z.free b h] at e; cases e
/-- behind the call -/
theorem Fr.back (z : Fr S H1 H2) (a : XM T S' H2 H') : XM T S' H1 (unf S H') := by
  have f := z.any.xm a
  refine ⟨fun b o e n t => ?_, fun b o e => ?_, fun b xs e => ?_, fun b o u e => ?_, fun p h => ?_, fun h => ?_⟩
  · rw [unf_out (z.no e)]; exact a.keep b o (z.ext e) n t
  · obtain ⟨o', e'⟩ := a.there b o (z.ext e)
    exact ⟨o', by rw [unf_out (z.no e)]; exact e'⟩
  · rw [unf_out (z.no e)]; exact a.tup b xs (z.ext e)
  · rw [unf_out (z.no e)]; exact a.frz b o u (z.ext e)
  · obtain ⟨ps, h1, h2⟩ := h
    exact f.tabG (a.tabG p ⟨ps, z.ext h1, h2⟩)
  · exact f.tabs (a.tabs (h.ext fun b o e => z.ext e))
/-- behind a lambda's body -/
theorem Fz.ref (f : Fz S H2) (a : XM T S' (unf S H2) H') (hn : ∀ b, S b → H' b = none) : XM T S' H2 (ref2 S H2 H') := by
  have nS : ∀ {b o}, H' b = some o → ¬ S b := fun {b o} e h => by rw [hn b h] at e; cases e
  refine ⟨fun b o e n t => ?_, fun b o e => ?_, fun b xs e => ?_, fun b o u e => ?_, fun p h => ?_, fun h => ?_⟩
  · by_cases hb : S b
    · rw [ref2_in hb]; exact e
    · rw [ref2_out hb]; exact a.keep b o (by rw [unf_out hb]; exact e) n t
  · by_cases hb : S b
    · exact ⟨o, by rw [ref2_in hb]; exact e⟩
    · obtain ⟨o', e'⟩ := a.there b o (by rw [unf_out hb]; exact e)
      exact ⟨o', by rw [ref2_out hb]; exact e'⟩
  · by_cases hb : S b
    · rw [ref2_in hb]; exact e
    · rw [ref2_out hb]; exact a.tup b xs (by rw [unf_out hb]; exact e)
  · by_cases hb : S b
    · rw [ref2_in hb]; exact e
    · rw [ref2_out hb]; exact a.frz b o u (by rw [unf_out hb]; exact e)
  · obtain ⟨ps, h1, h2⟩ := a.tabG p (f.tabG h)
    exact ⟨ps, by rw [ref2_out (nS h1)]; exact h1, h2⟩
  · intro p hp
    obtain ⟨ps, h1, h2, h3⟩ := a.tabs (f.tabs h) p hp
    refine ⟨ps, by rw [ref2_out (nS h1)]; exact h1, h2, fun pos cv hc => ?_⟩
    obtain ⟨c, e1, e2⟩ := h3 pos cv hc
    exact ⟨c, e1, by rw [ref2_out (nS e2)]; exact e2⟩
theorem ref_at (hn : ∀ b, S b → H' b = none) {b : Addr} {o : HO} (e : H' b = some o) : ref2 S H2 H' b = some o := by
  have nS : ¬ S b := fun h => by rw [hn b h] at e; cases e
  rw [ref2_out nS]; exact e
theorem ref_ext (hn : ∀ b, S b → H' b = none) : XX T H' (ref2 S H2 H') := XX.of fun b o e => by
  have nS : ¬ S b := fun h => by rw [hn b h] at e; cases e
  rw [ref2_out nS]; exact e
/-- into the lambda's body -/
theorem Fr.into (z : Fr S H1 H2) (h : ∀ b, S' b → S b) : XX T H1 (unf S' H2) := XX.of fun b o e => by
  rw [unf_out fun q => z.no e (h b q)]; exact z.ext e
theorem Fr.xx (z : Fr S H1 H2) : XX T H1 H2 := XX.of fun b o e => z.ext e
theorem fr_of {X : Cx} {σ : L2.St} (z : Frozen X σ H1 H2) : Fr (CellOf X) H1 H2 := ⟨z.out, z.free, z.any⟩
theorem BoxAt.wk {b l : Addr} {ns : List Int} {z : Int} (h : BoxAt H b l ns z) (a : WkE H H') : BoxAt H' b l ns z := ⟨a _ _ h.hb (fun ob z => by cases z) (fun ps z => by cases z), a _ _ h.hl (fun ob z => by cases z) (fun ps z => by cases z), h.ne, h.lo, h.hi, h.len⟩
theorem DiskAt.wk {C p dx l : Addr} {pages : List PyData} {done : Int} {left : Option Int} {stands : Bool} (d : DiskAt K C H p dx l pages done left stands) (a : WkE H H') : DiskAt K C H' p dx l pages done left stands := by
  obtain ⟨xs, h, hd⟩ := d.lst
  exact ⟨a _ _ d.ins (fun ob z => by cases z) (fun ps z => by cases z), ⟨xs, a _ _ h (fun ob z => by cases z) (fun ps z => by cases z), Dp.wkAll a _ _ hd⟩, d.flat⟩
end
end GX
/-! a lambda over the maker's cells, handed to _law_told -/
namespace GX
open PySem PySem.Spec PyProof.Rows L2 LamX
def capB (sc scope : Scope) (N Nl : List Str) (js : List Nat) : Bool :=
  lamSB sc scope && decide (Nl.length = js.length) &&
    ((List.range js.length).all fun i => match Nl[i]?, js[i]? with
      | some y, some j => decide (N[j]? = some y) && decide (sc.names.lookup y = some .cell) && decide (scope.names.lookup y = some .free)
      | _, _ => false) && scope.names.all fun y => !decide (y.2 = .free) || decide (sc.names.lookup y.1 = some .cell)
structure CapS (sc scope : Scope) (N Nl : List Str) (js : List Nat) : Prop where
  L : LamS sc scope
  len : Nl.length = js.length
  at_ : ∀ (i : Nat) (y : Str), Nl[i]? = some y → ∃ j, js[i]? = some j ∧ N[j]? = some y ∧ sc.names.lookup y = some .cell ∧ scope.names.lookup y = some .free
  cell : ∀ y ∈ scope.names, y.2 = .free → sc.names.lookup y.1 = some .cell
theorem cap_by {sc scope : Scope} {N Nl : List Str} {js : List Nat} (h : capB sc scope N Nl js = true) : CapS sc scope N Nl js := by
  unfold capB at h
  simp only [Bool.and_eq_true, Bool.or_eq_true, Bool.not_eq_true', decide_eq_true_eq, decide_eq_false_iff_not, List.all_eq_true] at h
  obtain ⟨⟨⟨h1, h2⟩, h3⟩, h4⟩ := h
  refine ⟨lamS_by h1, h2, fun i y e => ?_, fun y hy e => ?_⟩
  · have hi : i < js.length := by
      have := (List.getElem?_eq_some_iff.mp e).1
      omega
    have q := h3 i (List.mem_range.mpr hi)
    rw [e, List.getElem?_eq_getElem hi] at q
    simp only [Bool.and_eq_true, decide_eq_true_eq] at q
    exact ⟨js[i], List.getElem?_eq_getElem hi, q.1.1, q.1.2, q.2⟩
  · rcases h4 y hy with z | z
    · exact absurd e z
    · exact z
def capS (σ : L2.St) (js : List Nat) : L2.St := js.map fun j => (σ[j]?).getD none
theorem capS_at {σ : L2.St} {js : List Nat} {i : Nat} {v : V} (h : (capS σ js)[i]? = some (some v)) : ∃ j, js[i]? = some j ∧ σ[j]? = some (some v) := by
  unfold capS at h
  rw [List.getElem?_map] at h
  cases e : js[i]? with
  | none => rw [e] at h; cases h
  | some j =>
    rw [e] at h
    have h : (σ[j]?).getD none = some v := Option.some.inj h
    refine ⟨j, rfl, ?_⟩
    cases e2 : σ[j]? with
    | none => rw [e2] at h; cases h
    | some o =>
      rw [e2] at h
      have h : o = some v := h
      rw [h]
section
variable {X : Cx} {σ : L2.St} {Hx H2 : Hp} {sc scope : Scope} {params : Arguments} {body : Expr} {q : Str} {f c' : Addr} {dV doc pm ctv : Value} {k n : Nat} {tb : XK → TE} {Nl : List Str} {js : List Nat} {T : List (Addr × Str)} {cE : Addr} {cs : Fin 9 → Addr} {Q : VK}
theorem cap_free (cap : CapS sc scope X.N Nl js) (hce : X.env.cells = cellsFrom n sc.names []) : ∀ y ∈ scope.names, y.2 = .free → ∃ c, X.env.cells.lookup y.1 = some c := fun y hy e => by
  obtain ⟨c, hm⟩ := cells_has (n := n) (acc := []) (PySem.mem_of_lookup (cap.cell y hy e))
  rw [hce]
  exact mem_lookup hm
theorem cap_clos (cap : CapS sc scope X.N Nl js) : ∀ y, (scope.names.lookup y = some .cell ∨ scope.names.lookup y = some .free) → ∃ c, (cloFrom X.env.cells scope.names []).lookup y = some c := fun y h => by
  rcases h with h | h
  · exact absurd rfl (cap.L.own _ (PySem.mem_of_lookup h)).2
  · exact mem_lookup (cloFrom_has (PySem.mem_of_lookup h))
theorem lamAt_frz {D : Value → Hp → Prop} (z : Frozen X σ Hx H2) (cap : CapS sc scope X.N Nl js) (hce : X.env.cells = cellsFrom n sc.names []) (hsc : X.env.scope = sc) (hf : H2 f = some (frzO (lamObj q params body scope (cloFrom X.env.cells scope.names []) dV doc pm c' ctv))) (hc : H2 c' = some (CodeO c' q)) (hD : D dV H2) :
    LamAt q params body scope (cloFrom X.env.cells scope.names []) dV doc pm c' ctv D Nl (capS σ js) f H2 := by
  refine ⟨hf, hc, hD, fun y c e => ?_⟩
  have ec := clo_cm (cap_free cap hce) e
  obtain ⟨o, v, e1, e2⟩ := z.any c ⟨y, ec⟩
  refine ⟨o, v, e1, e2, fun i x h1 h2 => ?_⟩
  obtain ⟨j, h3, h4⟩ := capS_at h2
  obtain ⟨j', h5, h6, h7, h8⟩ := cap.at_ i y h1
  rw [h3] at h5
  cases h5
  obtain ⟨o', u, q1, q2, r⟩ := z.cell y c j x ec h6 (by rw [hsc]; exact .inr (.inl h7)) (by rw [hsc, h7]; exact fun z => by cases z) h4
  rw [e1] at q1
  cases q1
  rw [e2] at q2
  cases q2
  exact ⟨u, rfl, r⟩
/-- the reading of the lambda's body in its own words -/
def LamBody (X : Cx) (T : List (Addr × Str)) (cE : Addr) (cs : Fin 9 → Addr) (tb : XK → TE) (τ : L2.St) (Hx : Hp) (Q : VK) : Prop := ∀ Hl, XX T Hx Hl → ∀ (E : XK) (Q2 : VK),
  (∀ (S' : Addr → Prop) v H', XM T S' Hl H' → (∀ HT, XM T S' Hx (unf (CellOf X) HT) → WkE H' (unf (CellOf X) HT) → Q v HT) → Q2 v H') →
  (∀ (S' : Addr → Prop) i D H', i.1 ≠ 4 → EIs X.K cE cs i D → XM T S' Hl H' → (∀ HT v, XM T S' Hx (unf (CellOf X) HT) → WkE H' (unf (CellOf X) HT) → Dp X.K (unf (CellOf X) HT) v (toldD i) → Q v HT) → E (.ref D) none H') → tb E τ Hl Q2
theorem told_lam (z : Frozen X σ Hx H2) (cap : CapS sc scope X.N Nl js) (hce : X.env.cells = cellsFrom n sc.names []) (hsc : X.env.scope = sc) (inj : InjC (cloFrom X.env.cells scope.names []))
    (hf : Hx f = some (frzO (lamObj q params body scope (cloFrom X.env.cells scope.names []) dV doc pm c' ctv))) (hd : dV = .none) (hc : Hx c' = some (CodeO c' q))
    (hbind : ∀ (doc pm cv ctv : Value), bindArgs (PySem.W.kdv_fn "<lambda>" q params (.expr body) scope (cloFrom X.env.cells scope.names []) .none doc pm cv ctv) ⟨[], []⟩ = pure [])
    (hbody : ∀ (A : Around) (outer : List Env) (s : Shared) (H : Hp) (E : XK), Room k (A.deeper (PySem.W.envX q scope s.heap.objs.size f (.ref c') (cloFrom X.env.cells scope.names []))) → PE (lCx X.prog X.w X.K X.mg X.base Nl q scope f c' (cloFrom X.env.cells scope.names []) A outer s H E) body (tb E))
    (h : LamBody X T cE cs tb (capS σ js) Hx Q) : spTold X.prog X.w X.K X.mg X.base T cE cs (k + 1) [.ref f] H2 Q E0 := by
  have Z := fr_of z
  have sub : ∀ b, CS (cloFrom X.env.cells scope.names []) b → CellOf X b := fun b hb => by
    obtain ⟨y, e⟩ := hb
    exact ⟨y, clo_cm (cap_free cap hce) e⟩
  have fz1 : Fz (CS (cloFrom X.env.cells scope.names [])) H2 := Z.any.sub sub
  have f2 := Z.ext hf
  have c2 := Z.ext hc
  refine ⟨f, _, _, rfl, ⟨_, _, _, f2, rfl⟩, callOk_lam0 (τ := capS σ js) (Nl := Nl) (dV := dV) (doc := doc) (pm := pm) (ctv := ctv) ⟨cap.L.kind, cap.L.co, cap.L.gen, fun y hy => (cap.L.own y hy).2⟩ inj (cap_clos cap) (by unfold capS; rw [List.length_map]; exact cap.len.symm) (fun i y e => ?_) hbind hbody, lamAt_frz z cap hce hsc f2 c2 hd, fun E hE => ?_⟩
  · obtain ⟨j, _, _, _, e2⟩ := cap.at_ i y e
    rw [e2]
    exact fun z => by cases z
  · refine h _ (Z.into sub) _ _ (fun S' v H' a q hn => ?_) (fun S' i D H' h4 hE' a q hn => ?_)
    · have a2 := fz1.ref a hn
      exact q _ (Z.back a2) fun b o e n t => (Z.any.xm a2).un (ref_at hn e) n
    · have a2 := fz1.ref a hn
      refine hE _ i D h4 hE' fun H'' v x dp => ?_
      have a3 := a2.trans x.xm
      exact q _ v (Z.back a3) (fun b o e n t => (Z.any.xm a3).un (x.keep b o (ref_at hn e) t) n) (Dp.wk (Z.any.xm a3).wk _ _ dp)
end
end GX
namespace GX
open PySem PySem.Spec PyProof.Rows L2 LamX
theorem pe_calF {X : Cx} {ps : List Str} {k : Nat} {sp : Sp} {x : Str} {p pos : Pos} {e : Expr} {es : List Expr} {t : TA} (c : Cal X.prog X.w X.K X.mg X.base CX0 x ps k sp) (hr : Room k X.A) (hfn : ∀ y, X.fn y = true) (ha : PA X (e :: es) t) (hg : Gl X x := by rfl) (hdb : (x == ("__debug__" : Str)) = false := by decide)
    (he : starEach (e :: es) X.env = (false, eval e X.env) :: starEach es X.env := by rfl) (hpl : (backTo pos (starEach es X.env)).any (·.1) = false := by rfl) : PE X (.Call (.Name x p) (e :: es) [] pos) (tCallF X sp t) := by
  obtain ⟨f, fd, c⟩ := c
  exact pe_callF c.F hr hfn hg c.m c.kp c.b ha hdb he hpl
end GX
/-! a lambda over the maker's cells, handed to _law_told; it may raise BadText -/
namespace GX
open PySem PySem.Spec PyProof.Rows L2 LamX
section
variable {X : Cx} {σ : L2.St} {Hx H2 : Hp} {sc scope : Scope} {params : Arguments} {body : Expr} {q : Str} {f c' : Addr} {dV doc pm ctv : Value} {k n : Nat} {tb : XK → TE} {Nl : List Str} {js : List Nat} {T : List (Addr × Str)} {cE : Addr} {cs : Fin 9 → Addr} {Q : VK}
/-- the reading of the lambda's body in its own words -/
def LamBodyB (X : Cx) (T : List (Addr × Str)) (cE : Addr) (cs : Fin 9 → Addr) (tb : XK → TE) (τ : L2.St) (Hx : Hp) (Q : VK) : Prop := ∀ Hl, XX T Hx Hl → ∀ (E : XK) (Q2 : VK),
  (∀ (S' : Addr → Prop) v H', XM T S' Hl H' → (∀ HT, XM T S' Hx (unf (CellOf X) HT) → WkE H' (unf (CellOf X) HT) → Q v HT) → Q2 v H') →
  (∀ (S' : Addr → Prop) D m d H', EBt X.K cE cs D → H' d = some (.xd (lnF m)) → XM T S' Hl H' → (∀ HT v, XM T S' Hx (unf (CellOf X) HT) → WkE H' (unf (CellOf X) HT) → Dp X.K (unf (CellOf X) HT) v (toldB m) → Q v HT) → E (.ref D) (some d) H') → tb E τ Hl Q2
theorem told_lamB (z : Frozen X σ Hx H2) (cap : CapS sc scope X.N Nl js) (hce : X.env.cells = cellsFrom n sc.names []) (hsc : X.env.scope = sc) (inj : InjC (cloFrom X.env.cells scope.names []))
    (hf : Hx f = some (frzO (lamObj q params body scope (cloFrom X.env.cells scope.names []) dV doc pm c' ctv))) (hd : dV = .none) (hc : Hx c' = some (CodeO c' q))
    (hbind : ∀ (doc pm cv ctv : Value), bindArgs (PySem.W.kdv_fn "<lambda>" q params (.expr body) scope (cloFrom X.env.cells scope.names []) .none doc pm cv ctv) ⟨[], []⟩ = pure [])
    (hbody : ∀ (A : Around) (outer : List Env) (s : Shared) (H : Hp) (E : XK), Room k (A.deeper (PySem.W.envX q scope s.heap.objs.size f (.ref c') (cloFrom X.env.cells scope.names []))) → PE (lCx X.prog X.w X.K X.mg X.base Nl q scope f c' (cloFrom X.env.cells scope.names []) A outer s H E) body (tb E))
    (h : LamBodyB X T cE cs tb (capS σ js) Hx Q) : spToldB X.prog X.w X.K X.mg X.base T cE cs (k + 1) [.ref f] H2 Q E0 := by
  have Z := fr_of z
  have sub : ∀ b, CS (cloFrom X.env.cells scope.names []) b → CellOf X b := fun b hb => by
    obtain ⟨y, e⟩ := hb
    exact ⟨y, clo_cm (cap_free cap hce) e⟩
  have fz1 : Fz (CS (cloFrom X.env.cells scope.names [])) H2 := Z.any.sub sub
  have f2 := Z.ext hf
  have c2 := Z.ext hc
  refine ⟨f, _, _, rfl, ⟨_, _, _, f2, rfl⟩, callOk_lam0 (τ := capS σ js) (Nl := Nl) (dV := dV) (doc := doc) (pm := pm) (ctv := ctv) ⟨cap.L.kind, cap.L.co, cap.L.gen, fun y hy => (cap.L.own y hy).2⟩ inj (cap_clos cap) (by unfold capS; rw [List.length_map]; exact cap.len.symm) (fun i y e => ?_) hbind hbody, lamAt_frz z cap hce hsc f2 c2 hd, fun E hE => ?_⟩
  · obtain ⟨j, _, _, _, e2⟩ := cap.at_ i y e
    rw [e2]
    exact fun z => by cases z
  · refine h _ (Z.into sub) _ _ (fun S' v H' a q hn => ?_) (fun S' D m d H' hE' hd' a q hn => ?_)
    · have a2 := fz1.ref a hn
      exact q _ (Z.back a2) fun b o e n t => (Z.any.xm a2).un (ref_at hn e) n
    · have a2 := fz1.ref a hn
      refine hE _ D m d hE' (ref_at hn hd') fun H'' v x dp => ?_
      have a3 := a2.trans x.xm
      exact q _ v (Z.back a3) (fun b o e n t => (Z.any.xm a3).un (x.keep b o (ref_at hn e) t) n) (Dp.wk (Z.any.xm a3).wk _ _ dp)
end
end GX
namespace GX
open PySem PySem.Spec PyProof.Rows L2 LamX
abbrev kPg : Key := .inr "pages"
abbrev kLf : Key := .inr "left"
abbrev kSt : Key := .inr "stands"
abbrev kMn : Key := .inr "many"
abbrev ownK (lp : Addr) (left : Option Int) (stands : Bool) (many : Int) : List (Key × V) := [(kPg, .ref lp), (kLf, lv left), (kSt, .bl stands), (kMn, .int many)]
structure OwnAt (K : PySem.W.Frag) (H : Hp) (o lp : Addr) (pages : List PyData) (left : Option Int) (stands : Bool) (many : Int) : Prop where
  hd : H o = some (.dK (ownK lp left stands many))
  hl : ∃ xs, H lp = some (.lst xs) ∧ DpAll K H xs pages
  pg : ∀ d ∈ pages, isPage d = true
theorem own_pages (lp : Addr) (left : Option Int) (stands : Bool) (many : Int) : valV (ownK lp left stands many) kPg = some (.ref lp) := valV_pos rfl
section
variable (lp : Addr) (left left' : Option Int) (stands stands' : Bool) (many many' : Int)
theorem k_pl : ¬ kPg = kLf := by decide +kernel
theorem k_ps : ¬ kPg = kSt := by decide +kernel
theorem k_pm : ¬ kPg = kMn := by decide +kernel
theorem k_ls : ¬ kLf = kSt := by decide +kernel
theorem k_lm : ¬ kLf = kMn := by decide +kernel
theorem k_sm : ¬ kSt = kMn := by decide +kernel
theorem own_left : valV (ownK lp left stands many) kLf = some (lv left) := (valV_neg (p := (kPg, .ref lp)) k_pl).trans (valV_pos rfl)
theorem own_stands : valV (ownK lp left stands many) kSt = some (.bl stands) := (valV_neg (p := (kPg, .ref lp)) k_ps).trans ((valV_neg (p := (kLf, lv left)) k_ls).trans (valV_pos rfl))
theorem own_many : valV (ownK lp left stands many) kMn = some (.int many) :=
  (valV_neg (p := (kPg, .ref lp)) k_pm).trans ((valV_neg (p := (kLf, lv left)) k_lm).trans ((valV_neg (p := (kSt, .bl stands)) k_sm).trans (valV_pos rfl)))
theorem put_left : putK (ownK lp left stands many) kLf (lv left') = ownK lp left' stands many := by
  have e1 : ¬ Str.ofString "pages" = Str.ofString "left" := fun e => k_pl (congrArg Sum.inr e)
  have e2 : ¬ Str.ofString "stands" = Str.ofString "left" := fun e => k_ls (congrArg Sum.inr e.symm)
  have e3 : ¬ Str.ofString "many" = Str.ofString "left" := fun e => k_lm (congrArg Sum.inr e.symm)
  simp [putK, ownK, e1, e2, e3]
theorem put_stands : putK (ownK lp left stands many) kSt (.bl stands') = ownK lp left stands' many := by
  have e1 : ¬ Str.ofString "pages" = Str.ofString "stands" := fun e => k_ps (congrArg Sum.inr e)
  have e2 : ¬ Str.ofString "left" = Str.ofString "stands" := fun e => k_ls (congrArg Sum.inr e)
  have e3 : ¬ Str.ofString "many" = Str.ofString "stands" := fun e => k_sm (congrArg Sum.inr e.symm)
  simp [putK, ownK, e1, e2, e3]
theorem put_many : putK (ownK lp left stands many) kMn (.int many') = ownK lp left stands many' := by
  have e1 : ¬ Str.ofString "pages" = Str.ofString "many" := fun e => k_pm (congrArg Sum.inr e)
  have e2 : ¬ Str.ofString "left" = Str.ofString "many" := fun e => k_lm (congrArg Sum.inr e)
  have e3 : ¬ Str.ofString "stands" = Str.ofString "many" := fun e => k_sm (congrArg Sum.inr e)
  simp [putK, ownK, e1, e2, e3]
end
section
variable {K : PySem.W.Frag} {T : List (Addr × Str)} {H H' : Hp} {o lp : Addr} {pages : List PyData} {left : Option Int} {stands : Bool} {many : Int}
theorem OwnAt.xm {S : Addr → Prop} (d : OwnAt K H o lp pages left stands many) (a : XM T S H H') (h1 : ¬ S o) (h2 : ¬ S lp) : OwnAt K H' o lp pages left stands many := by
  obtain ⟨xs, h, hd⟩ := d.hl
  exact ⟨a.dk d.hd h1, ⟨xs, a.lst h h2, dpAll_xm a (fun e he => (nice_page (d.pg e he)).fl) hd⟩, d.pg⟩
theorem OwnAt.wk (d : OwnAt K H o lp pages left stands many) (a : WkE H H') : OwnAt K H' o lp pages left stands many := by
  obtain ⟨xs, h, hd⟩ := d.hl
  exact ⟨a _ _ d.hd (fun ob z => by cases z) (fun ps z => by cases z), ⟨xs, a _ _ h (fun ob z => by cases z) (fun ps z => by cases z), Dp.wkAll a _ _ hd⟩, d.pg⟩
theorem OwnAt.ne (d : OwnAt K H o lp pages left stands many) : o ≠ lp := by
  obtain ⟨xs, h, _⟩ := d.hl
  exact ne_of d.hd h fun z => by cases z
/-- stored in the dict -/
theorem OwnAt.put (d : OwnAt K H o lp pages left stands many) (left' : Option Int) (stands' : Bool) (many' : Int) : OwnAt K (upd H o (.dK (ownK lp left' stands' many'))) o lp pages left' stands' many' := by
  obtain ⟨xs, h, hd⟩ := d.hl
  exact ⟨upd_same, ⟨xs, by rw [upd_ne (Ne.symm d.ne)]; exact h, dpAll_xm (T := []) (XM.upd (S := fun b => b = o) d.hd rfl True.intro) (fun e he => (nice_page (d.pg e he)).fl) hd⟩, d.pg⟩
end
/-- the things of the law -/
structure KInv (K : PySem.W.Frag) (C : Addr) (H : Hp) (b l p dx sl o lp : Addr) (ns : List Int) (z : Int) (pages : List PyData) (left : Option Int) (stands : Bool) (many : Int) : Prop where
  bx : BoxAt H b l ns z
  dk : DiskAt K C H p dx sl pages many left stands
  ow : OwnAt K H o lp pages left stands many
  n1 : sl ≠ b
  n2 : sl ≠ l
  n3 : lp ≠ b
  n4 : lp ≠ l
  n5 : lp ≠ sl
  lo : 2 ≤ pages.length
  hi : pages.length ≤ 12
  lf : ∀ k, left = some k → 0 ≤ k ∧ k ≤ 30
def S7 (b l p sl o lp : Addr) : Addr → Prop := fun c => c = b ∨ c = l ∨ c = p ∨ c = sl ∨ c = o ∨ c = lp
def spTurn (K : PySem.W.Frag) (T : List (Addr × Str)) (C P1 P2 : Addr) : Sp := fun vs H Q _ => ∃ b l p dx sl o lp ns z pages left stands many, vs = [.ref b, .ref p, .ref o] ∧ KInv K C H b l p dx sl o lp ns z pages left stands many ∧ Tabs T H ∧ GxR.TabG H P1 ∧ GxR.TabG H P2 ∧
  ∀ H' ns' z' pages' left' stands' many', XM T (S7 b l p sl o lp) H H' → KInv K C H' b l p dx sl o lp ns' z' pages' left' stands' many' → pages'.length = pages.length → Q (.bl true) H'
section
variable {K : PySem.W.Frag} {T : List (Addr × Str)} {C : Addr} {H H' : Hp} {b l p dx sl o lp : Addr} {ns ns' : List Int} {z z' : Int} {pages : List PyData} {left : Option Int} {stands : Bool} {many : Int}
theorem OwnAt.gPages (d : OwnAt K H o lp pages left stands many) : DGet H o (.str "pages") (some (.ref lp)) := by
  have q := DGet.k (k := kPg) d.hd
  rw [own_pages] at q
  exact q
theorem OwnAt.gLeft (d : OwnAt K H o lp pages left stands many) : DGet H o (.str "left") (some (lv left)) := by
  have q := DGet.k (k := kLf) d.hd
  rw [own_left] at q
  exact q
theorem OwnAt.gStands (d : OwnAt K H o lp pages left stands many) : DGet H o (.str "stands") (some (.bl stands)) := by
  have q := DGet.k (k := kSt) d.hd
  rw [own_stands] at q
  exact q
theorem OwnAt.gMany (d : OwnAt K H o lp pages left stands many) : DGet H o (.str "many") (some (.int many)) := by
  have q := DGet.k (k := kMn) d.hd
  rw [own_many] at q
  exact q
theorem four_line : (4 : Nat) < sizeLine := by decide
theorem OwnAt.pLeft (d : OwnAt K H o lp pages left stands many) (left' : Option Int) : DPut H o (.str "left") (lv left') (upd H o (.dK (ownK lp left' stands many))) := by
  have q := DPut.k (k := kLf) (v := lv left') d.hd four_line
  rw [put_left] at q
  exact q
theorem OwnAt.pStands (d : OwnAt K H o lp pages left stands many) (stands' : Bool) : DPut H o (.str "stands") (.bl stands') (upd H o (.dK (ownK lp left stands' many))) := by
  have q := DPut.k (k := kSt) (v := .bl stands') d.hd four_line
  rw [put_stands] at q
  exact q
theorem OwnAt.pMany (d : OwnAt K H o lp pages left stands many) (many' : Int) : DPut H o (.str "many") (.int many') (upd H o (.dK (ownK lp left stands many'))) := by
  have q := DPut.k (k := kMn) (v := .int many') d.hd four_line
  rw [put_many] at q
  exact q
/-- where things of unlike kinds lie -/
structure Apart (b l p sl o lp : Addr) : Prop where
  pb : p ≠ b
  pl : p ≠ l
  ps : p ≠ sl
  po : p ≠ o
  pp : p ≠ lp
  ob : o ≠ b
  ol : o ≠ l
  os : o ≠ sl
  op : o ≠ lp
theorem KInv.apart (k : KInv K C H b l p dx sl o lp ns z pages left stands many) : Apart b l p sl o lp := by
  obtain ⟨xs, h1, _⟩ := k.dk.lst
  obtain ⟨ys, h2, _⟩ := k.ow.hl
  exact ⟨ne_of k.dk.ins k.bx.hb (fun z => by cases z), ne_of k.dk.ins k.bx.hl (fun z => by cases z), ne_of k.dk.ins h1 (fun z => by cases z), ne_of k.dk.ins k.ow.hd (fun z => by cases z), ne_of k.dk.ins h2 (fun z => by cases z),
    ne_of k.ow.hd k.bx.hb (fun z => by cases z), ne_of k.ow.hd k.bx.hl (fun z => by cases z), ne_of k.ow.hd h1 (fun z => by cases z), ne_of k.ow.hd h2 fun z => by cases z⟩
theorem KInv.take (k : KInv K C H b l p dx sl o lp ns z pages left stands many) (a : XM T (fun c => c = b ∨ c = l) H H') (bx : BoxAt H' b l ns' z') : KInv K C H' b l p dx sl o lp ns' z' pages left stands many := by
  have A := k.apart
  exact ⟨bx, k.dk.xm a (fun e => e.elim A.pb A.pl) (fun e => e.elim k.n1 k.n2), k.ow.xm a (fun e => e.elim A.ob A.ol) (fun e => e.elim k.n3 k.n4), k.n1, k.n2, k.n3, k.n4, k.n5, k.lo, k.hi, k.lf⟩
theorem KInv.xx (k : KInv K C H b l p dx sl o lp ns z pages left stands many) (a : XX T H H') : KInv K C H' b l p dx sl o lp ns z pages left stands many :=
  k.take (T := T) (a.xm.mono (S := fun _ => False) fun b h => h.elim) (k.bx.xx a)
theorem s7_take : ∀ c, (c = b ∨ c = l) → S7 b l p sl o lp c := fun c h => h.elim .inl fun h => .inr (.inl h)
end
section
variable {K : PySem.W.Frag} {T : List (Addr × Str)} {C : Addr} {H H' : Hp} {b l p dx sl o lp : Addr} {ns ns' : List Int} {z z' : Int} {pages pages' : List PyData} {left left' : Option Int} {stands stands' : Bool} {many many' : Int}
theorem KInv.next (k : KInv K C H b l p dx sl o lp ns z pages left stands many) (bx : BoxAt H' b l ns' z') (dk : DiskAt K C H' p dx sl pages' many' left' stands') (ow : OwnAt K H' o lp pages' left' stands' many') (e : pages'.length = pages.length) (lf : ∀ k, left' = some k → 0 ≤ k ∧ k ≤ 30) :
    KInv K C H' b l p dx sl o lp ns' z' pages' left' stands' many' := ⟨bx, dk, ow, k.n1, k.n2, k.n3, k.n4, k.n5, by rw [e]; exact k.lo, by rw [e]; exact k.hi, lf⟩
theorem s7_p : ∀ c, c = p → S7 b l p sl o lp c := fun c h => .inr (.inr (.inl h))
theorem s7_o : ∀ c, c = o → S7 b l p sl o lp c := fun c h => .inr (.inr (.inr (.inr (.inl h))))
theorem s7_ps : ∀ c, (c = p ∨ c = sl) → S7 b l p sl o lp c := fun c h => h.elim (fun h => .inr (.inr (.inl h))) fun h => .inr (.inr (.inr (.inl h)))
theorem s7_lp : ∀ c, c = lp → S7 b l p sl o lp c := fun c h => .inr (.inr (.inr (.inr (.inr h))))
end
theorem if_key {c : Bool} {ta tb : TE} {σ : L2.St} {H : Hp} {Q : VK} (R : V → Hp → Prop) (key : ∀ v H', R v H' → Q v H') (h1 : c = true → ∀ Q' : VK, (∀ v H', R v H' → Q' v H') → ta σ H Q') (h2 : c = false → ∀ Q' : VK, (∀ v H', R v H' → Q' v H') → tb σ H Q') :
    if c = true then ta σ H Q else tb σ H Q := by
  cases c with
  | true => rw [if_pos rfl]; exact h1 rfl Q key
  | false => rw [if_neg (by decide)]; exact h2 rfl Q key
theorem ifs_key {c : Bool} {sA sB : TS} {D : Ends} {σ : L2.St} {H : Hp} (R : L2.St → Hp → Prop) (key : ∀ σ' H', R σ' H' → D.nx σ' H') (h1 : c = true → ∀ D' : Ends, (∀ σ' H', R σ' H' → D'.nx σ' H') → sA D' σ H) (h2 : c = false → ∀ D' : Ends, (∀ σ' H', R σ' H' → D'.nx σ' H') → sB D' σ H) :
    if c = true then sA D σ H else sB D σ H := by
  cases c with
  | true => rw [if_pos rfl]; exact h1 rfl D key
  | false => rw [if_neg (by decide)]; exact h2 rfl D key
theorem tOr_of {t1 t2 : TT} {σ : L2.St} {H : Hp} {Kt : Bool → Hp → Prop} (c1 c2 : Bool) (h1 : ∀ K' : Bool → Hp → Prop, K' c1 H → t1 σ H K') (h2 : c1 = false → ∀ K' : Bool → Hp → Prop, K' c2 H → t2 σ H K') (k : Kt (c1 || c2) H) : tOr t1 t2 σ H Kt := by
  refine h1 _ ?_
  cases c1 with
  | true => exact k
  | false => exact h2 rfl _ k
theorem lv_zero (left : Option Int) : decide (lv left = .int 0) = decide (left = some 0) := by
  cases left with
  | none => rfl
  | some k =>
    rw [Bool.eq_iff_iff, decide_eq_true_iff, decide_eq_true_iff]
    exact ⟨fun e => by cases e; rfl, fun e => by cases e; rfl⟩
section
variable {K : PySem.W.Frag} {H : Hp} {o lp : Addr} {pages : List PyData} {left : Option Int} {stands : Bool} {many : Int}
theorem OwnAt.setPage (w : OwnAt K H o lp pages left stands many) {xs : List V} {j : Nat} {v : V} {d : PyData} (h : H lp = some (.lst xs)) (hd : Dp K H v d) (pg : isPage d = true) : OwnAt K (upd H lp (.lst (xs.set j v))) o lp (pages.set j d) left stands many := by
  obtain ⟨ys, h2, hds⟩ := w.hl
  rw [h] at h2
  cases h2
  have x : XM [] (fun c => c = lp) H (upd H lp (.lst (xs.set j v))) := XM.upd h rfl True.intro
  have pgs : ∀ e ∈ pages.set j d, isPage e = true := fun e he => by
    rcases mem_set he with z | z
    · rw [z]; exact pg
    · exact w.pg e z
  exact ⟨by rw [upd_ne w.ne]; exact w.hd, ⟨_, upd_same, dpAll_xm x (fun e he => (nice_page (pgs e he)).fl) (dpAll_set hd j hds)⟩, pgs⟩
theorem ixN_nat {n j : Nat} (h : j < n) : ixN n (j : Int) = some j := by
  unfold ixN
  have q1 : (0 : Int) ≤ (j : Int) := by omega
  have q2 : (j : Int) < (n : Int) := by omega
  simp [q1, q2]
  try omega
end
end GX
set_option maxHeartbeats 8000000
/-! the law's _law_read -/
namespace GX
open PySem PySem.Spec PyProof.Rows L2 LamX
def readD (t : Str) : PyData := match readW t with
  | .ok ds => .list ds
  | .error n => toldB (n : Int)
def spLRead (K : PySem.W.Frag) (T : List (Addr × Str)) : Sp := fun vs H Q _ => ∃ t : Str, vs = [.str t] ∧ t.length ≤ 15000 ∧ Asc t ∧ ∀ H' v, XX T H H' → Dp K H' v (readD t) → Q v H'
theorem cells_ok (w0 : Str) (rest : List Str) : isCells (cellWs (w0 :: rest)) = (decide (w0 = "cells") && (decide (rest.length = 24) && !(rest.map fun u => lnO u 99).any Option.isNone)) := by
  by_cases h : w0 = "cells"
  · rw [cellWs_yes h, decide_eq_true h, Bool.true_and]
    show (decide ((rest.map fun x => numD (numO x)).length = 24) && (rest.map fun x => numD (numO x)).all fun z => isNum z 0 99) = _
    rw [List.length_map, List.all_map, List.any_map, List.not_any_eq_all_not]
    congr 2
    funext u
    have e : isNum (numD (numO u)) 0 99 = (lnO u 99).isSome := isNum_lnO u 99
    show isNum (numD (numO u)) 0 99 = !(lnO u 99).isNone
    rw [e]
    cases lnO u 99 <;> rfl
  · rw [cellWs_no h, decide_eq_false h]
    rfl
theorem cells_eq {w0 : Str} {rest : List Str} (h : isCells (cellWs (w0 :: rest)) = true) : cellWs (w0 :: rest) = .tuple ((rest.map fun u => lnO u 99).map numD) := by
  rw [cells_ok, Bool.and_eq_true, Bool.and_eq_true] at h
  obtain ⟨h1, _, h3⟩ := h
  rw [cellWs_yes (of_decide_eq_true h1), List.map_map]
  congr 1
  refine List.map_congr_left fun u hu => ?_
  have q : (lnO u 99).isNone = false := by
    rw [Bool.not_eq_true', List.any_eq_false] at h3
    have := h3 _ (List.mem_map_of_mem (f := fun u => lnO u 99) hu)
    cases e : lnO u 99 with
    | none => rw [e] at this; exact absurd rfl this
    | some n => rfl
  cases e : lnO u 99 with
  | none => rw [e] at q; cases q
  | some n =>
    show numD (numO u) = numD (lnO u 99)
    rw [e, (lnO_num e).1]
section
variable {P : Program} {w : World} {K : PySem.W.Frag} {mg : Str → Option Value} {base : Heap} {T : List (Addr × Str)}
abbrev lrN : List Str := ["_law_text", "_law_rows", "_law_found", "_law_slots", "_law_line", "_law_words", "_law_cells", "_law_word"]
theorem sc_lread : FnScope lrN ["_law_text"] (defScope s_lread) := ⟨rfl, rfl, rfl, by decide +kernel, rfl, by decide +kernel, by decide +kernel⟩
theorem ok_lread {f : Addr} {fd : FuncData} (F : L2.Fun K "_law_read" "_law_read" s_lread f fd) (B : Blt mg) (cN : Cal P w K mg base CX0 "_law_number" ["_law_word", "_law_most"] 1 (spLNum T)) (cS : Cal P w K mg base CX0 "_law_slot" ["_law_words"] 2 (spLSlot K T)) : FnOk P w K mg base CX0 3 f fd ["_law_text"] (spLRead K T) := by
  refine F.ok sc_lread (fun vs H Q E h => by obtain ⟨x, rfl, _⟩ := h; rfl) (fun cdv A outer s H vs Q E hr h => ?_)
  obtain ⟨t, rfl, ht, hasc, k⟩ := h
  have nd := sc_lread.nd
  refine ⟨_, pss_cons (ps_set (i := 1) nd rfl (.inl rfl) (pe_ifExp (pt_cmpR op_ne (pv 0) pe_str (nomark _)) (pe_split (pv 0) pe_str) (pe_lst pa_nil)))
    (pss_cons (ps_par (i := 2) (j := 3) (by rfl) nd rfl rfl (by decide) rfl rfl (pa_cons (pe_lst pa_nil) (pa_cons (pe_lst pa_nil) pa_nil)) (by rfl))
    (pss_cons (ps_for PassesOwn.never rfl (pi_range1 (by rfl) B.range (pa_cons (pe_callB call_len_seq (by rfl) B.len PySem.boot_len (pa_cons (pv 1) pa_nil)) pa_nil)) (pg_name (i := 4) nd rfl (.inl rfl))
      (pss_cons (ps_set (i := 5) nd rfl (.inl rfl) (pe_split (pe_ix ix_list (pv 1) (pv 4) (fun _ _ => rfl)) pe_str))
      (pss_one (ps_if (pt_cmpR op_lt (pe_op op_mod (pv 4) pe_int) pe_int (nomark _))
        (pss_cons (ps_expr (pe_bm PySem.F.plainAttrs_list PySem.F.slot_list_append PySem.F.type_list_append mt_append (pv 3) (pa_cons (pe_cal cS hr (pa_cons (pv 5) pa_nil)) pa_nil)))
        (pss_one (ps_if (pt_cmpR op_isN (pe_ix ix_list (pv 3) (pe_un un_neg pe_int) (fun _ _ => rfl)) pe_non (nomark _)) (pss_one (ps_ret (pe_tup (pa_cons pe_str (pa_cons (pv 4) pa_nil))))) pss_nil)))
        (pss_cons (ps_setLc (i := 6) (own := [("_law_word", 7)]) (g := gName 7) (tt := tYes) (te := tCall (spLNum T) [] E0 (tCons (tVar 7) (tCons (tC (.int 99)) tNil))) (by rfl) nd rfl rfl (sw_true rfl rfl rfl (by decide +kernel)) (pi_list (pe_slice sl_list (pv 5) (po_some pe_int) po_none)) (blkOk_by (own := [("_law_word", 7)]) (N := lrN) (sc := defScope s_lread) (by decide +kernel))
          (fun _ _ _ _ _ => pg_name (i := 7) nd rfl (.inl rfl)) (fun _ _ _ _ _ => pts_nil) (fun _ _ _ _ _ => pe_cal cN (hr.mono (by decide)) (pa_cons (pv 7) (pa_cons pe_int pa_nil))))
        (pss_cons (ps_if (PW.pt (pw_or (pt_cmpR op_ne (pe_ix ix_list (pv 5) pe_int (fun _ _ => rfl)) pe_str (nomark _)) (pw_or (pt_cmpR op_ne (pe_callB call_len_seq (by rfl) B.len PySem.boot_len (pa_cons (pv 6) pa_nil)) pe_int (nomark _)) (pw_or1 (pt_cmpR op_in_seq pe_non (pv 6) (by rfl)))))) (pss_one (ps_ret (pe_tup (pa_cons pe_str (pa_cons (pv 4) pa_nil))))) pss_nil)
        (pss_cons (ps_expr (pe_bm PySem.F.plainAttrs_list PySem.F.slot_list_append PySem.F.type_list_append mt_append (pv 2) (pa_cons (pe_tup (pa_cons (pe_callTy call_tuple_of (by rfl) B.tuple boot_tuple (pa_cons (pv 3) pa_nil)) (pa_cons (pe_callTy call_tuple_of (by rfl) B.tuple boot_tuple (pa_cons (pv 6) pa_nil)) pa_nil))) pa_nil)))
        (pss_one (ps_set (i := 3) nd rfl (.inl rfl) (pe_lst pa_nil))))))))))
    (pss_one (ps_ret (pe_ifExp (pt_cmpR (op_eqD hr.units) (pv 3) (pe_lst pa_nil) (nomark _)) (pv 2) (pe_tup (pa_cons pe_str (pa_cons (pe_callB call_len_seq (by rfl) B.len PySem.boot_len (pa_cons (pv 1) pa_nil)) pa_nil)))))))), ?_⟩
  have et : decide (V.str t = V.str "") = decide (t.length = 0) := by
    rw [dec_str]
    by_cases h : t.length = 0
    · rw [decide_eq_true h]
      refine decide_eq_true (TL.ext_tl ?_)
      rw [TL.len_tl] at h
      rw [List.length_eq_zero_iff.mp h]; rfl
    · rw [decide_eq_false h]
      exact decide_eq_false fun z => h (by rw [z]; rfl)
  refine ⟨_, rfl, rfl, _, rfl, ?_⟩
  rw [et]
  refine if_key (fun v H' => ∃ rw, v = .ref rw ∧ XX T H H' ∧ H rw = none ∧ H' rw = some (.lst ((rowsW t).map V.str))) ?key ?h1 ?h2
  case h1 =>
    intro h0 Q' q
    have h0 : ¬ t.length = 0 := by simpa using h0
    refine ⟨_, rfl, ⟨t, rfl⟩, t, "\n", rfl, rfl, rfl, by rw [sizeLine_eq]; omega, fun rw hrw => q _ _ ⟨rw, rfl, XX.new hrw, hrw, ?_⟩⟩
    unfold rowsW
    rw [if_neg h0]
    exact upd_same
  case h2 =>
    intro h0 Q' q
    have h0 : t.length = 0 := by simpa using h0
    refine ⟨Nat.zero_le _, fun rw hrw => q _ _ ⟨rw, rfl, XX.new hrw, hrw, ?_⟩⟩
    unfold rowsW
    rw [if_pos h0]
    exact upd_same
  case key =>
  rintro _ H1 ⟨rw, rfl, x1, nrw, hrw⟩
  dsimp only [gName, tNext]
  refine ⟨Nat.zero_le _, fun sh hsh => ⟨Nat.zero_le _, fun sl hsl => ⟨_, _, rfl, ?_⟩⟩⟩
  have x2 := x1.then_new (o := .lst []) hsh
  have x3 := x2.then_new (o := .lst []) hsl
  have nsh0 : H sh = none := x1.free hsh
  have nsl0 : H sl = none := x2.free hsl
  have n12 : sl ≠ sh := fun z => by rw [z, upd_same] at hsl; cases hsl
  have nr1 : rw ≠ sh := fun z => by rw [z] at hrw; rw [hrw] at hsh; cases hsh
  have hrw2 : upd H1 sh (.lst []) rw = some (.lst ((rowsW t).map V.str)) := by rw [upd_ne nr1]; exact hrw
  have nr2 : rw ≠ sl := fun z => by rw [z] at hrw2; rw [hrw2] at hsl; cases hsl
  have hrw3 : upd (upd H1 sh (.lst [])) sl (.lst []) rw = some (.lst ((rowsW t).map V.str)) := by rw [upd_ne nr2]; exact hrw2
  have esh : upd (upd H1 sh (.lst [])) sl (.lst []) sh = some (.lst []) := by rw [upd_ne (Ne.symm n12)]; exact upd_same
  have hlen := rows_len ht
  have hrows := rows_each ht hasc
  have hlm : ((rowsW t).map V.str).length = (rowsW t).length := List.length_map ..
  have bad : ∀ (n : Nat), readW t = .error n → ∀ H' p, XX T H H' → H' p = some (.tup [.str "BadText", .int (n : Int)]) → Q (.ref p) H' := fun n e H' p x' ep => k H' _ x' (by
    unfold readD
    rw [e]
    exact .tup (SqT.of ep) (.cons (.str _) (.cons (.int _) .nil)))
  refine ⟨_, rfl, rw, _, rfl, .inl (SqL.of hrw3), _, rfl, by omega, by omega, ?_⟩
  have hN : ((((rowsW t).map V.str).length : Int)).toNat = (rowsW t).length := by rw [hlm]; omega
  refine for_it (walk_range (lo := 0)) (fun i σ' H' => ∃ sl slots sheets u4 u5 u6 u7, σ' = [some (.str t), some (.ref rw), some (.ref sh), some (.ref sl), u4, u5, u6, u7] ∧ RdInv K T H (rowsW t) t sh rw i H' sl slots sheets ∧ slots.length = i % 9 ∧ ∀ d ∈ slots, isSlot d = true)
    ⟨sl, [], [], _, _, _, _, rfl, ⟨x3, ⟨[], esh, .nil⟩, ⟨[], upd_same, .nil⟩, nsh0, nsl0, n12, nr1, nr2, fun d hd => absurd hd (by simp), fun d hd => absurd hd (by simp), Nat.zero_le _, Nat.zero_le _, rfl, hrw3⟩, rfl, fun d hd => absurd hd (by simp)⟩
    (fun i σ' H' _ pv => True.intro) (fun i v σ' H' H'' hi pv yy => ?_) (fun σ' H' pv => ?_)
  · obtain ⟨sl, slots, sheets, u4, u5, u6, u7, rfl, r, hm9, hslots⟩ := pv
    obtain ⟨rfl, rfl⟩ := yy
    rw [hN] at hi
    have hrow := hrows _ (List.getElem_mem hi)
    have hgo := r.go
    rw [List.drop_eq_getElem_cons hi] at hgo
    have e0 : (0 : Int) + (i : Int) = (i : Int) := Int.zero_add _
    obtain ⟨b1, b2, b3⟩ := blank_bounds (rowsW t)[i]
    have basc := blank_asc hrow.2
    dsimp only [gName]
    rw [e0]
    refine ⟨_, rfl, _, rfl, rw, _, _, .str (rowsW t)[i], rfl, rfl, SqL.of r.rows, atI_nat (by rw [List.getElem?_map, List.getElem?_eq_getElem hi]; rfl), ⟨_, rfl⟩, _, " ", rfl, rfl, rfl, by rw [sizeLine_eq]; omega, fun wp hwp => ?_⟩
    have r2 := r.xx (XX.new (T := T) (o := .lst ((Txt.split (rowsW t)[i] " ").map V.str)) hwp)
    have ewp : upd H'' wp (.lst ((Txt.split (rowsW t)[i] " ").map V.str)) wp = some (.lst ((Txt.split (rowsW t)[i] " ").map V.str)) := upd_same
    refine ⟨_, rfl, _, _, rfl, rfl, (by show (0 : Int) < 9; decide), _, _, rfl, rfl, _, rfl, ?_⟩
    have hws : ∀ w ∈ Txt.split (rowsW t)[i] " ", w.length ≤ 15000 ∧ Asc w := fun w hw => ⟨Nat.le_trans (b3 w hw) hrow.1, basc w hw⟩
    by_cases h8 : slots.length < 8
    · rw [decide_eq_true (by omega)]
      obtain ⟨ys, e2, d2⟩ := r2.hsl
      refine iteT ⟨_, rfl, .inl ⟨rfl, _, SqL.of e2⟩, _, rfl, wp, _, rfl, SqL.of ewp, b1, hws, fun H4 v4 x4 d4 => ?_⟩
      have r4 := r2.xx x4
      obtain ⟨xs, e1, d1⟩ := r4.hsh
      obtain ⟨ys4, e4, d4y⟩ := r4.hsl
      have ely4 : ys4.length = slots.length := dpAll_len d4y
      have xm : XM T (fun c => c = sl) H4 (upd H4 sl (.lst (ys4 ++ [v4]))) := XM.upd e4 rfl True.intro
      have x5 := r4.x.fillD (o := .lst (ys4 ++ [v4])) r4.n2 e4
      refine ⟨sl, ys4, v4, rfl, rfl, e4, by rw [sizeLine_eq]; omega, _, rfl, _, rfl, sl, _, _, v4, rfl, rfl, SqL.of upd_same, atI_last _ _, rfl, _, rfl, ?_⟩
      unfold readGo at hgo
      rw [if_pos h8] at hgo
      rw [lslot_eq] at d4
      unfold okSlot at d4
      by_cases hs : isSlot (slotWs (Txt.split (rowsW t)[i] " ")) = true
      · rw [if_pos hs] at hgo d4
        have nv : ¬ v4 = .non := fun z => by
          rw [z] at d4
          have q := dp_non d4
          rw [q] at hs
          cases hs
        rw [decide_eq_false nv]
        refine iteF ⟨sl, slots ++ [slotWs (Txt.split (rowsW t)[i] " ")], sheets, _, _, _, _, rfl, ⟨x5, ⟨xs, by rw [upd_ne (Ne.symm r4.n12)]; exact e1, dpAll_xm xm r4.f1 d1⟩, ⟨_, upd_same, dpAll_snoc (dpAll_xm xm r4.f2 d4y) (Dp.xm xm _ _ (slot_fl _) d4)⟩, r4.n1, r4.n2, r4.n12, r4.nr1, r4.nr2, r4.f1, ?_, ?_, Nat.le_succ_of_le r4.l2, hgo, by rw [upd_ne r4.nr2]; exact r4.rows⟩, ?_, ?_⟩
        · intro d hd
          rcases List.mem_append.mp hd with hd | hd
          · exact r4.f2 d hd
          · rw [List.mem_singleton.mp hd]; exact slot_fl _
        · rw [List.length_append, List.length_singleton]; omega
        · rw [List.length_append, List.length_singleton]; omega
        · intro d hd
          rcases List.mem_append.mp hd with hd | hd
          · exact hslots d hd
          · rw [List.mem_singleton.mp hd]; exact hs
      · rw [if_neg hs] at hgo d4
        have ev : v4 = .non := by cases d4; rfl
        rw [decide_eq_true ev]
        refine iteT ⟨_, rfl, (by show 2 ≤ sizeLine; decide), fun tp htp => bad i hgo.symm _ tp (x5.then_new htp) upd_same⟩
    · rw [decide_eq_false (by omega)]
      unfold readGo at hgo
      rw [if_neg h8] at hgo
      cases ew : Txt.split (rowsW t)[i] " " with
      | nil => exact absurd ew b1
      | cons w0 rest =>
      rw [ew] at hgo ewp hws r2 b2
      have lrest : rest.length ≤ 15000 := by rw [List.length_cons] at b2; omega
      refine iteF ⟨_, rfl, _, rfl, wp, _, rfl, SqL.of ewp, fun q hq => ⟨q, rfl, ⟨_, SqL.of upd_same⟩, fun D hD => ?_⟩⟩
      have e3 : cutV ((w0 :: rest).map V.str) (some (1 : Int)) none = rest.map V.str := (cutV_drop ((w0 :: rest).map V.str) 1).trans rfl
      rw [e3] at hD ⊢
      have xq := XX.new (T := T) (o := .lst (rest.map V.str)) hq
      have lr : (rest.map V.str).length = rest.length := List.length_map ..
      refine lc_dp (T := T) (i := 7) (fun j => numD (lnO (rest.getD j "") 99)) hD (SqL.of upd_same) (by rw [lr, sizeLine_eq]; omega) (fun j _ => num_fl _) (fun j u H' Qe ex x' q => ?_) (fun H5 acc x5 ea da5 => ?_)
      · have hj := (List.getElem?_eq_some_iff.mp ex).1
        rw [lr] at hj
        rw [List.getElem?_map, List.getElem?_eq_getElem hj] at ex
        obtain rfl : V.str rest[j] = u := Option.some.inj ex
        have bu := hws _ (List.mem_cons_of_mem _ (List.getElem_mem hj))
        refine ⟨_, rfl, rest[j], 99, rfl, bu.1, bu.2, fun H6 x6 => q H6 _ x6 ?_⟩
        rw [getD_at hj]
        exact num_dp _
      · rw [lr, map_range (fun u => numD (lnO u 99)), show rest.map (fun u => numD (lnO u 99)) = (rest.map fun u => lnO u 99).map numD by rw [List.map_map]; rfl] at da5
        obtain rfl := dpAll_num da5
        have r5 := r2.xx (xq.trans x5)
        have ewp5 := (xq.trans x5).lst ewp
        have lo : ((rest.map fun u => lnO u 99).map numV).length = rest.length := by rw [List.length_map, List.length_map]
        have hok := cells_ok w0 rest
        dsimp only [gName, tNext]
        refine tOrX_of (T := T) (decide (¬ w0 = "cells")) (decide (¬ rest.length = 24) || (rest.map fun u => lnO u 99).any Option.isNone) (fun K' q => ⟨_, rfl, wp, _, 0, .str w0, rfl, rfl, SqL.of ewp5, atI0, rfl, _, rfl, by rw [dec_str, ← decide_not]; exact q H5 (XX.refl H5)⟩)
          (fun _ H6 x6 K' q => tOrX_of (T := T) (decide (¬ rest.length = 24)) ((rest.map fun u => lnO u 99).any Option.isNone) (fun K2 q2 => ⟨_, rfl, D, _, rfl, .inl (x6.sqL (SqL.of ea)), rfl, _, rfl, ?_⟩) (fun _ H7 x7 K2 q2 => ⟨_, rfl, D, _, rfl, .inl ((x6.trans x7).sqL (SqL.of ea)), rfl, num_flatV _, _, rfl, ?_⟩) (fun H7 x7 => q H7 x7)) (fun H6 x6 => ?_)
        · have e : (!decide (V.int (((rest.map fun u => lnO u 99).map numV).length : Int) = V.int 24)) = decide (¬ rest.length = 24) := by
            rw [lo, decide_not]
            by_cases h : rest.length = 24
            · rw [decide_eq_true h, h]; rfl
            · rw [decide_eq_false h]
              rw [decide_eq_false fun z => h (by have z2 := V.int.inj z; omega)]
          rw [e]
          exact q2 H6 (XX.refl H6)
        · rw [show (if false = true then !inV .non ((rest.map fun u => lnO u 99).map numV) else inV .non ((rest.map fun u => lnO u 99).map numV)) = inV .non ((rest.map fun u => lnO u 99).map numV) from rfl, in_num]
          exact q2 H7 (XX.refl H7)
        have r6 := r5.xx x6
        have e6 := x6.lst ea
        by_cases hs : isCells (cellWs (w0 :: rest)) = true
        · rw [if_pos hs] at hgo
          have hceq := cells_eq hs
          rw [hs] at hok
          have e : (decide (¬ w0 = "cells") || (decide (¬ rest.length = 24) || (rest.map fun u => lnO u 99).any Option.isNone)) = false := by
            have q1 := Bool.and_eq_true_iff.mp hok.symm
            have q2 := Bool.and_eq_true_iff.mp q1.2
            rw [decide_eq_false (fun z => z (of_decide_eq_true q1.1)), decide_eq_false (fun z => z (of_decide_eq_true q2.1))]
            simpa using q2.2
          rw [e]
          obtain ⟨xs, e1, d1⟩ := r6.hsh
          obtain ⟨ys4, e4, d4y⟩ := r6.hsl
          have elx : xs.length = sheets.length := dpAll_len d1
          have l2 := r6.l2
          refine iteF ?_
          dsimp only [gName, tNext]
          refine ⟨_, rfl, .inl ⟨rfl, _, SqL.of e1⟩, _, rfl, sl, ys4, rfl, .inl ⟨SqL.of e4, fun p6 h6 => ?_⟩⟩
          have x6a := XX.new (T := T) (o := .tup ys4) h6
          refine ⟨_, rfl, D, _, rfl, .inl ⟨SqL.of (x6a.lst e6), fun p7 h7 => ⟨(by show 2 ≤ sizeLine; decide), fun p8 h8 => ?_⟩⟩⟩
          have x7 := (x6a.then_new (o := .tup ((rest.map fun u => lnO u 99).map numV)) h7).then_new (o := .tup [.ref p6, .ref p7]) h8
          have r7 := r6.xx x7
          have y6 := ((XX.new (T := T) (o := .tup ((rest.map fun u => lnO u 99).map numV)) h7).then_new (o := .tup [.ref p6, .ref p7]) h8).tup (p := p6) upd_same
          have y7 := (XX.new (T := T) (o := .tup [.ref p6, .ref p7]) h8).tup (p := p7) upd_same
          have dnum : ∀ (H : Hp) (os : List (Option Nat)), DpAll K H (os.map numV) (os.map numD) := fun H os => by
            induction os with
            | nil => exact .nil
            | cons o os ih => exact .cons (num_dp o) ih
          have dpg : Dp K _ (.ref p8) (.tuple [.tuple slots, cellWs (w0 :: rest)]) := .tup (SqT.of upd_same) (.cons (.tup (SqT.of y6) (Dp.xxAll x7 _ _ d4y)) (.cons (by rw [hceq]; exact .tup (SqT.of y7) (dnum _ _)) .nil))
          have pfl := page_fl r6.f2 (cell_fl (w0 :: rest))
          have e1' := x7.lst e1
          refine ⟨sh, xs, .ref p8, rfl, rfl, e1', by rw [elx, sizeLine_eq]; omega, ?_⟩
          have xm := XM.upd (T := T) (S := fun c => c = sh) (o' := .lst (xs ++ [.ref p8])) e1' rfl True.intro
          refine ⟨Nat.zero_le _, fun sn hsn => ?_⟩
          have xn := XX.new (T := T) (o := .lst []) hsn
          have x8 := r7.x.fillD (o := .lst (xs ++ [.ref p8])) r7.n1 e1'
          have nsn : sn ≠ sh := fun z => by rw [z, upd_same] at hsn; cases hsn
          have erw : upd _ sh (.lst (xs ++ [.ref p8])) rw = some (.lst ((rowsW t).map V.str)) := (upd_ne r7.nr1).trans r7.rows
          refine ⟨sn, [], sheets ++ [.tuple [.tuple slots, cellWs (w0 :: rest)]], _, _, _, _, rfl, ⟨x8.trans xn, ⟨xs ++ [.ref p8], xn.lst upd_same, Dp.xxAll xn _ _ (dpAll_snoc (dpAll_xm xm r7.f1 (Dp.xxAll x7 _ _ d1)) (Dp.xm xm _ _ pfl dpg))⟩, ⟨[], upd_same, .nil⟩, r7.n1, x8.free hsn, nsn, r7.nr1, fun z => by (rw [← z, erw] at hsn; cases hsn), ?_, fun d hd => absurd hd (by simp), Nat.zero_le _, ?_, hgo, xn.lst erw⟩, ?_, fun d hd => absurd hd (by simp)⟩
          · intro d hd
            rcases List.mem_append.mp hd with hd | hd
            · exact r6.f1 d hd
            · rw [List.mem_singleton.mp hd]; exact pfl
          · rw [List.length_append, List.length_singleton]; omega
          · have := r.l1
            show 0 = (i + 1) % 9
            omega
        · rw [if_neg hs] at hgo
          have hs' : isCells (cellWs (w0 :: rest)) = false := by simpa using hs
          rw [hs'] at hok
          have e : (decide (¬ w0 = "cells") || (decide (¬ rest.length = 24) || (rest.map fun u => lnO u 99).any Option.isNone)) = true := by
            by_cases q1 : w0 = "cells"
            · by_cases q2 : rest.length = 24
              · rw [decide_eq_true q1, decide_eq_true q2, Bool.true_and, Bool.true_and] at hok
                have : (rest.map fun u => lnO u 99).any Option.isNone = true := by simpa using hok.symm
                rw [this]; simp
              · rw [decide_eq_true (p := ¬ rest.length = 24) q2]; simp
            · rw [decide_eq_true (p := ¬ w0 = "cells") q1]; simp
          rw [e]
          refine iteT ⟨_, rfl, (by show 2 ≤ sizeLine; decide), fun tp htp => bad i hgo.symm _ tp (r6.x.then_new htp) upd_same⟩
  · obtain ⟨sl, slots, sheets, u4, u5, u6, u7, rfl, r, hm9, hslots⟩ := pv
    obtain ⟨xs, e1, d1⟩ := r.hsh
    obtain ⟨ys, e2, d2⟩ := r.hsl
    have hgo := r.go
    rw [hN, List.drop_length] at hgo
    unfold readGo at hgo
    refine ⟨_, rfl, Nat.zero_le _, fun q hq => ?_⟩
    have xq := XX.new (T := T) (o := .lst []) hq
    have hsh2 : SeqAt.shaped (.list slots) = true := by
      have hc : PyData.canLayAll0 slots = true := canLayAll_of fun d hd => (nice_slot (hslots d hd)).cl
      have hd : PyData.depthAll slots ≤ 2 := depthAll_of fun d hd => (nice_slot (hslots d hd)).dp
      unfold SeqAt.shaped
      have h1 : PyData.canLay0 (.list slots) = true := hc
      have h2 : PyData.depth (.list slots) ≤ 64 := by show PyData.depthAll slots + 1 ≤ 64; omega
      rw [h1, decide_eq_true h2] <;> rfl
    refine ⟨.list slots, .list [], .lst (xq.sqL (SqL.of e2)) (Dp.xxAll xq _ _ d2), .lst (SqL.of upd_same) .nil, hsh2, shaped_nil, _, rfl, ?_⟩
    cases slots with
    | nil =>
      rw [if_pos rfl] at hgo
      rw [show PyData.eqv (.list []) (.list []) = true from rfl]
      refine iteT ⟨_, rfl, k _ _ (r.x.trans xq) ?_⟩
      unfold readD
      rw [← hgo]
      exact .lst (xq.sqL (SqL.of e1)) (Dp.xxAll xq _ _ d1)
    | cons d0 dr =>
      rw [if_neg (by simp)] at hgo
      rw [show PyData.eqv (.list (d0 :: dr)) (.list []) = false from rfl]
      refine iteF ⟨_, rfl, rw, _, rfl, .inl (xq.sqL (SqL.of r.rows)), (by show 2 ≤ sizeLine; decide), fun tp htp => ?_⟩
      rw [hlm]
      exact bad _ hgo.symm _ tp ((r.x.trans xq).then_new htp) upd_same
end
end GX
set_option maxHeartbeats 2000000
namespace GX
open PySem PySem.Spec PyProof.Rows L2 LamX
section
variable {P : Program} {w : World} {K : PySem.W.Frag} {mg : Str → Option Value} {base : Heap} {T : List (Addr × Str)}
theorem sc_begun : FnScope ["_law_script", "_law_stirred", "_law_cell"] ["_law_script"] (defScope s_begun) := ⟨rfl, rfl, rfl, by decide +kernel, rfl, by decide +kernel, by decide +kernel⟩
theorem ok_begun {f : Addr} {fd : FuncData} (F : Fun K "_law_begun" "_law_begun" s_begun f fd) (B : Blt mg) : FnOk P w K mg base CX0 1 f fd ["_law_script"] (spBegun K T) := by
  refine F.ok sc_begun (fun vs H Q E h => by obtain ⟨a, ns, rfl, _⟩ := h; rfl) (fun cdv A outer s H vs Q E hr h => ?_)
  obtain ⟨a, ns, rfl, hS, hlen, k⟩ := h
  have nd := sc_begun.nd
  refine ⟨_, pss_cons (ps_set (i := 1) nd rfl (Or.inl rfl) pe_int)
    (pss_cons (ps_for PassesOwn.never rfl (pi_list (pv 0)) (pg_name (i := 2) nd rfl (Or.inl rfl))
      (pss_one (ps_set (i := 1) nd rfl (Or.inl rfl) (pe_op op_mod (pe_op op_add (pe_op op_add (pe_op op_mul (pv 1) pe_int) (pe_op op_mul (pv 2) pe_int)) pe_int) pe_int))))
    (pss_one (ps_ret (pe_lst (pa_cons (pe_callTy call_list_of (by rfl) B.list boot_list (pa_cons (pv 0) pa_nil))
      (pa_cons (pe_op op_mul (pv 1) (pe_callTy call_int1 (by rfl) B.int boot_int (pa_cons (pe_cmpR op_gt (pe_callB call_len_seq (by rfl) B.len PySem.boot_len (pa_cons (pv 0) pa_nil)) pe_int (nomark _)) pa_nil))) pa_nil)))))), ?_⟩
  refine ⟨_, rfl, a, rfl, ⟨_, hS⟩, for_list (K := K) (a := a) (xs := ns.map V.int) (fun i σ H' => H' = H ∧ ∃ (z : Int) (v : Option V), σ = [some (.ref a), some (.int z), v] ∧ 0 ≤ z ∧ z < 2147483647)
    ⟨rfl, 0, none, rfl, by decide, by decide⟩ (fun i σ H' _ q => by rw [q.1]; exact hS) ?_ ?_⟩
  · rintro i y σ H' hi ⟨rfl, z, v, rfl, h1, h2⟩
    obtain ⟨n, hn, rfl⟩ : ∃ n, ns[i]? = some n ∧ y = V.int n := by
      rw [List.getElem?_map] at hi
      cases e : ns[i]? with
      | none => rw [e] at hi; cases hi
      | some n => rw [e] at hi; exact ⟨n, rfl, (Option.some.inj hi).symm⟩
    refine ⟨_, rfl, _, _, rfl, rfl, .inr ⟨by decide, by decide⟩, _, rfl, _, _, rfl, rfl, .inr ⟨by decide, by decide⟩, _, _, rfl, rfl, _, _, rfl, rfl, _, _, rfl, rfl, (by show (0 : Int) < 2147483647; decide), ?_⟩
    exact ⟨rfl, _, _, rfl, Int.emod_nonneg _ (by decide), Int.emod_lt_of_pos _ (by decide)⟩
  · rintro σ H' ⟨rfl, z, v, rfl, h1, h2⟩
    refine ⟨_, rfl, a, _, rfl, .inl hS, fun l hl => ?_⟩
    have x1 : XX T H' (upd H' l (.lst (ns.map V.int))) := XX.new hl
    refine ⟨_, rfl, _, rfl, a, _, rfl, .inl (x1.sqL hS), _, _, rfl, rfl, .inr ⟨_, rfl, ?_⟩⟩
    refine ⟨_, _, rfl, rfl, .inr ?_, (by show 2 ≤ sizeLine; decide), fun b hb => ?_⟩
    · split <;> exact ⟨by decide, by decide⟩
    · have nbl : b ≠ l := fun e => by rw [e, upd_same] at hb; cases hb
      have hb0 : H' b = none := by rw [upd_ne nbl] at hb; exact hb
      refine k _ b l _ (x1.then_new hb) ⟨upd_same, ?_, nbl, ?_, ?_, hlen⟩ hb0 hl
      · rw [upd_ne (Ne.symm nbl), upd_same]
      · split <;> omega
      · split <;> omega
theorem sc_take : FnScope ["_law_box", "_law_many", "_law_number_here"] ["_law_box", "_law_many"] (defScope s_take) := ⟨rfl, rfl, rfl, by decide +kernel, rfl, by decide +kernel, by decide +kernel⟩
theorem ok_take {f : Addr} {fd : FuncData} (F : Fun K "_law_take" "_law_take" s_take f fd) : FnOk P w K mg base CX0 1 f fd ["_law_box", "_law_many"] (spTake T) := by
  refine F.ok sc_take (fun vs H Q E h => by obtain ⟨b, l, ns, z, m, rfl, _⟩ := h; rfl) (fun cdv A outer s H vs Q E hr h => ?_)
  obtain ⟨b, l, ns, z, m, rfl, bx, m0, m1, k⟩ := h
  have nd := sc_take.nd
  have hB : ∀ {H'}, H' b = some (.lst [.ref l, .int z]) → SqL K H' b [.ref l, .int z] := fun h => SqL.of h
  refine ⟨_, pss_cons (ps_if (pt_cmpR (op_eqD hr.units) (pe_ix ix_list (pv 0) pe_int (fun _ _ => rfl)) (pe_lst pa_nil) (nomark _))
      (pss_cons (ps_asg (pe_op op_mod (pe_op op_mul (pe_ix ix_list (pv 0) pe_int (fun _ _ => rfl)) pe_int) pe_int) (pg_sub (pv 0) pe_int set_list))
        (pss_one (ps_ret (pe_op op_mod (pe_op op_fdiv (pe_ix ix_list (pv 0) pe_int (fun _ _ => rfl)) pe_int) (pv 1))))) pss_nil)
    (pss_cons (ps_set (i := 2) nd rfl (Or.inl rfl) (pe_ix ix_list (pe_ix ix_list (pv 0) pe_int (fun _ _ => rfl)) pe_int (fun _ _ => rfl)))
    (pss_cons (ps_asg (pe_op op_fdivW (pv 2) (pv 1)) (pg_sub (pe_ix ix_list (pv 0) pe_int (fun _ _ => rfl)) pe_int set_list))
    (pss_cons (ps_if (PW.pt (pw_or (pt_cmpR op_eq (pe_ix ix_list (pe_ix ix_list (pv 0) pe_int (fun _ _ => rfl)) pe_int (fun _ _ => rfl)) pe_int (nomark _)) (pw_or1 (pt_cmpR op_eq (pe_ix ix_list (pe_ix ix_list (pv 0) pe_int (fun _ _ => rfl)) pe_int (fun _ _ => rfl)) (pe_un un_neg pe_int) (nomark _)))))
      (pss_one (ps_expr (pe_bm PySem.F.plainAttrs_list PySem.F.slot_list_pop PySem.F.type_list_pop mt_popAt (pe_ix ix_list (pv 0) pe_int (fun _ _ => rfl)) (pa_cons pe_int pa_nil)))) pss_nil)
    (pss_one (ps_ret (pe_op op_mod (pv 2) (pv 1))))))), ?_⟩
  refine ⟨_, rfl, b, _, 0, .ref l, rfl, rfl, hB bx.hb, rfl, Nat.zero_le _, fun q hq => ?_⟩
  have x1 : XX T H (upd H q (.lst [])) := XX.new hq
  have bx1 := bx.xx x1
  refine ⟨.list (ns.map .int), .list [], .lst (SqL.of bx1.hl) (dp_ints _ ns), .lst (SqL.of upd_same) .nil, shaped_ints ns, shaped_nil, _, rfl, ?_⟩
  rw [eqv_nil]
  cases ns with
  | nil =>
    refine iteT ⟨_, rfl, b, _, 1, .int z, rfl, rfl, hB bx1.hb, rfl, _, _, rfl, rfl, .inr ⟨by decide, by decide⟩, _, _, rfl, rfl, (by show (0 : Int) < 2147483647; decide), ?_⟩
    refine ⟨_, rfl, b, _, 1, 1, rfl, rfl, bx1.hb, rfl, ?_⟩
    have x2 : XM T (fun c => c = b ∨ c = l) H _ := x1.xm.then_upd (o' := .lst [.ref l, .int (z * 48271 % 2147483647)]) bx1.hb (.inl rfl) True.intro
    refine ⟨_, rfl, b, _, 1, .int (z * 48271 % 2147483647), rfl, rfl, SqL.of upd_same, rfl, _, _, rfl, rfl, ⟨by decide, by decide⟩, _, rfl, _, _, rfl, rfl, m0, ?_⟩
    refine k _ [] _ _ x2 ⟨upd_same, ?_, bx.ne, Int.emod_nonneg _ (by decide), Int.emod_lt_of_pos _ (by decide), Nat.zero_le _⟩ (Int.emod_nonneg _ (by omega)) (Int.emod_lt_of_pos _ m0)
    rw [upd_ne (Ne.symm bx.ne)]; exact bx1.hl
  | cons n r =>
    have len : r.length + 1 ≤ 63 := bx.len
    refine iteF ⟨_, rfl, b, _, 0, .ref l, rfl, rfl, hB bx1.hb, rfl, l, _, 0, .int n, rfl, rfl, SqL.of bx1.hl, atI0, ?_⟩
    refine ⟨_, rfl, _, rfl, _, _, rfl, rfl, box_div m0 m1, _, rfl, b, _, 0, .ref l, rfl, rfl, hB bx1.hb, rfl, l, _, 0, 0, rfl, rfl, bx1.hl, ?_, ?_⟩
    · unfold ixN
      simp
      try omega
    · have x2 : XM T (fun c => c = b ∨ c = l) H _ := x1.xm.then_upd (o' := .lst (V.int (n / m) :: r.map V.int)) bx1.hl (.inr rfl) True.intro
      have hb2 : upd (upd H q (.lst [])) l (.lst (V.int (n / m) :: r.map V.int)) b = some (.lst [.ref l, .int z]) := by rw [upd_ne bx.ne]; exact bx1.hb
      have bx2 : BoxAt (upd (upd H q (.lst [])) l (.lst (V.int (n / m) :: r.map V.int))) b l (n / m :: r) z := ⟨hb2, upd_same, bx.ne, bx.lo, bx.hi, bx.len⟩
      have retN : Q (.int (n % m)) (upd (upd H q (.lst [])) l (.lst (V.int (n / m) :: r.map V.int))) := k _ (n / m :: r) z _ x2 bx2 (Int.emod_nonneg _ (by omega)) (Int.emod_lt_of_pos _ m0)
      have x3 : XM T (fun c => c = b ∨ c = l) H _ := x2.then_upd (o' := .lst (r.map V.int)) upd_same (.inr rfl) True.intro
      have retP : Q (.int (n % m)) (upd (upd (upd H q (.lst [])) l (.lst (V.int (n / m) :: r.map V.int))) l (.lst (r.map V.int))) := by
        refine k _ r z _ x3 ⟨?_, upd_same, bx.ne, bx.lo, bx.hi, by omega⟩ (Int.emod_nonneg _ (by omega)) (Int.emod_lt_of_pos _ m0)
        rw [upd_ne bx.ne]; exact hb2
      have sq0 : seqIndex? 0 (V.int (n / m) :: r.map V.int).length = some 0 := by
        have e := (ixN_seq (n := (V.int (n / m) :: r.map V.int).length) (i := 0) (j := 0) (by unfold ixN; simp; try omega)).1
        exact e
      refine ⟨_, rfl, b, _, 0, .ref l, rfl, rfl, hB hb2, rfl, l, _, 0, .int (n / m), rfl, rfl, SqL.of upd_same, atI0, rfl, _, rfl, ?_⟩
      by_cases h0 : n / m = 0
      · rw [decide_eq_true (show V.int (n / m) = V.int 0 by rw [h0])]
        exact iteT (iteT ⟨_, rfl, b, _, 0, .ref l, rfl, rfl, hB hb2, rfl, .inl ⟨rfl, _, SqL.of upd_same⟩, l, _, 0, 0, _, rfl, rfl, upd_same, by decide, by decide, sq0, rfl, _, rfl, _, rfl, _, _, rfl, rfl, m0, retP⟩)
      · rw [decide_eq_false (fun e => h0 (V.int.inj e))]
        refine iteF ⟨_, rfl, b, _, 0, .ref l, rfl, rfl, hB hb2, rfl, l, _, 0, .int (n / m), rfl, rfl, SqL.of upd_same, atI0, 1, rfl, rfl, _, rfl, ?_⟩
        by_cases h1 : n / m = -1
        · rw [decide_eq_true (show V.int (n / m) = V.int (-1) by rw [h1])]
          exact iteT ⟨_, rfl, b, _, 0, .ref l, rfl, rfl, hB hb2, rfl, .inl ⟨rfl, _, SqL.of upd_same⟩, l, _, 0, 0, _, rfl, rfl, upd_same, by decide, by decide, sq0, rfl, _, rfl, _, rfl, _, _, rfl, rfl, m0, retP⟩
        · rw [decide_eq_false (fun e => h1 (V.int.inj e))]
          exact iteF ⟨_, rfl, _, rfl, _, _, rfl, rfl, m0, retN⟩
end
end GX
namespace GX
open PySem PySem.Spec PyProof.Rows L2 LamX
theorem okAll_mem : ∀ {ds : List PyData} {d : PyData}, okAll ds = true → d ∈ ds → okD d = true
  | e :: ds, d, h, hm => by
    have h' := Bool.and_eq_true_iff.mp h
    rcases List.mem_cons.mp hm with z | z
    · rw [z]; exact h'.1
    · exact okAll_mem h'.2 z
theorem dec_self {x : V} {H : Hp} {Q : VK} (k : Q (.bl true) H) : Q (.bl (decide (x = x))) H := by rw [decide_eq_true rfl]; exact k
theorem rix_of {K : PySem.W.Frag} {H : Hp} {p : Addr} {xs : List V} {i : Nat} {v : V} {Q : VK} (h : SqL K H p xs ∨ SqT K H p xs) (e : xs[i]? = some v) (q : Q v H) : L2.rIx K (.ref p) (.int (0 + (i : Int))) H Q := by
  have e0 : (0 : Int) + (i : Int) = (i : Int) := Int.zero_add _
  rw [e0]
  rcases h with h | h
  · exact .inl ⟨p, xs, _, v, rfl, rfl, h, atI_nat e, q⟩
  · exact .inr (.inl ⟨p, xs, _, v, rfl, rfl, h, atI_nat e, q⟩)
section
variable {P : Program} {w : World} {K : PySem.W.Frag} {mg : Str → Option Value} {base : Heap} {T : List (Addr × Str)}
theorem sc_alike : FnScope ["_law_found", "_law_due", "_law_k"] ["_law_found", "_law_due"] (defScope s_alike) := ⟨rfl, rfl, rfl, by decide +kernel, rfl, by decide +kernel, by decide +kernel⟩
theorem ok_alike1 {f : Addr} {fd : FuncData} {n : Nat} (F : Fun K "_law_alike" "_law_alike" s_alike f fd) (B : Blt mg) (bs : mg "str" = none) (c : Cal P w K mg base CX0 "_law_alike" ["_law_found", "_law_due"] n (spAl K n)) : FnOk P w K mg base CX0 (n + 1) f fd ["_law_found", "_law_due"] (spAl K (n + 1)) := by
  refine F.ok sc_alike (fun vs H Q E h => by obtain ⟨a, b, d, rfl, _⟩ := h; rfl) (fun cdv A outer s H vs Q E hr h => ?_)
  obtain ⟨a, b, d, rfl, ha, hb, hok, hdep, k⟩ := h
  have nd := sc_alike.nd
  refine ⟨_, pss_cons (ps_if (pt_cmpR op_isN (pv 1) pe_non (nomark _)) (pss_one (ps_ret (pe_cmpR op_isN (pv 0) pe_non (nomark _)))) pss_nil)
    (pss_cons (ps_if (pt_val (pe_callB call_isi (by rfl) B.isi k_isi (pa_cons (pv 1) (pa_cons (pe_bltn (v := .ty "bool") (by rfl) B.bool boot_bool rfl) pa_nil))))
      (pss_one (ps_ret (pe_and (pe_callB call_isi (by rfl) B.isi k_isi (pa_cons (pv 0) (pa_cons (pe_bltn (v := .ty "bool") (by rfl) B.bool boot_bool rfl) pa_nil))) (pe_one (pe_cmpR op_eq (pv 0) (pv 1) (nomark _)))))) pss_nil)
    (pss_cons (ps_if (pt_val (pe_callB call_isi (by rfl) B.isi k_isi (pa_cons (pv 1) (pa_cons (pe_bltn (v := .ty "int") (by rfl) B.int boot_int rfl) pa_nil))))
      (pss_one (ps_ret (pe_and (pe_callB call_isi (by rfl) B.isi k_isi (pa_cons (pv 0) (pa_cons (pe_bltn (v := .ty "int") (by rfl) B.int boot_int rfl) pa_nil)))
        (pe_and (pe_not (pe_callB call_isi (by rfl) B.isi k_isi (pa_cons (pv 0) (pa_cons (pe_bltn (v := .ty "bool") (by rfl) B.bool boot_bool rfl) pa_nil)))) (pe_one (pe_cmpR op_eq (pv 0) (pv 1) (nomark _))))))) pss_nil)
    (pss_cons (ps_if (pt_val (pe_callB call_isi (by rfl) B.isi k_isi (pa_cons (pv 1) (pa_cons (pe_bltn (v := .ty "str") (by rfl) bs boot_str rfl) pa_nil))))
      (pss_one (ps_ret (pe_and (pe_callB call_isi (by rfl) B.isi k_isi (pa_cons (pv 0) (pa_cons (pe_bltn (v := .ty "str") (by rfl) bs boot_str rfl) pa_nil))) (pe_one (pe_cmpR op_eq (pv 0) (pv 1) (nomark _)))))) pss_nil)
    (pss_cons (ps_if (PW.pt (pw_or (pt_cmpR op_ne (pe_callB call_isi (by rfl) B.isi k_isi (pa_cons (pv 1) (pa_cons (pe_bltn (v := .ty "tuple") (by rfl) B.tuple boot_tuple rfl) pa_nil))) (pe_callB call_isi (by rfl) B.isi k_isi (pa_cons (pv 0) (pa_cons (pe_bltn (v := .ty "tuple") (by rfl) B.tuple boot_tuple rfl) pa_nil))) (nomark _))
        (pw_or1 (pt_cmpR op_ne (pe_callB call_isi (by rfl) B.isi k_isi (pa_cons (pv 1) (pa_cons (pe_bltn (v := .ty "list") (by rfl) B.list boot_list rfl) pa_nil))) (pe_callB call_isi (by rfl) B.isi k_isi (pa_cons (pv 0) (pa_cons (pe_bltn (v := .ty "list") (by rfl) B.list boot_list rfl) pa_nil))) (nomark _)))))
      (pss_one (ps_ret pe_bl)) pss_nil)
    (pss_cons (ps_if (pt_cmpR op_ne (pe_callB call_len_seq (by rfl) B.len PySem.boot_len (pa_cons (pv 0) pa_nil)) (pe_callB call_len_seq (by rfl) B.len PySem.boot_len (pa_cons (pv 1) pa_nil)) (nomark _)) (pss_one (ps_ret pe_bl)) pss_nil)
    (pss_cons (ps_for PassesOwn.never rfl (pi_range1 (by rfl) B.range (pa_cons (pe_callB call_len_seq (by rfl) B.len PySem.boot_len (pa_cons (pv 1) pa_nil)) pa_nil)) (pg_name (i := 2) nd rfl (Or.inl rfl))
      (pss_one (ps_if (pt_not (pt_val (pe_cal c hr (pa_cons (pe_ix ix_seq (pv 0) (pv 2) (fun _ _ => rfl)) (pa_cons (pe_ix ix_seq (pv 1) (pv 2) (fun _ _ => rfl)) pa_nil))))) (pss_one (ps_ret pe_bl)) pss_nil)))
    (pss_one (ps_ret pe_bl)))))))), ?_⟩
  have loop : ∀ {a b : V} {pa pb : Addr} {va vb : List V} {ds : List PyData} {Q' : VK}, a = .ref pa → b = .ref pb → (SqL K H pa va ∨ SqT K H pa va) → (SqL K H pb vb ∨ SqT K H pb vb) → DpAll K H va ds → DpAll K H vb ds → ds.length ≤ 20000 → okAll ds = true → PyData.depthAll ds + 1 ≤ n → Q' (.bl true) H →
      tSeq (tFor (iRng1 (tCons (tCB (fun xs H Q => ∃ p ys, xs = [.ref p] ∧ (SqL K H p ys ∨ SqT K H p ys) ∧ Q (.int ys.length) H) (tCons (tVar 1) tNil)) tNil)) (gName 2) (tIfS (tNot (tB (tCall (spAl K n) [] E0 (tCons (tOp (L2.rIx K) (tVar 0) (tVar 2)) (tCons (tOp (L2.rIx K) (tVar 1) (tVar 2)) tNil))))) (tRet (tC (.bl false))) tNext)) (tRet (tC (.bl true)))
        { nx := fun _ H' => Q' .non H', rt := Q' } [some a, some b, none] H := by
    intro a b pa pb va vb ds Q' ea eb hsa hsb haa hbb hlen hok hdep k
    subst ea
    subst eb
    have hl := dpAll_len hbb
    refine ⟨_, rfl, pb, vb, rfl, hsb, (vb.length : Int), rfl, by omega, by rw [hl]; omega, for_range (lo := 0) (n := (vb.length : Int).toNat) (fun i σ H' => H' = H ∧ ∃ v, σ = [some (.ref pa), some (.ref pb), v]) ⟨rfl, none, rfl⟩ ?_ ?_⟩
    · rintro i σ H' hi ⟨rfl, v, rfl⟩
      have hi2 : i < ds.length := by omega
      obtain ⟨u1, e1, d1⟩ := dpAll_at haa (List.getElem?_eq_getElem hi2)
      obtain ⟨u2, e2, d2⟩ := dpAll_at hbb (List.getElem?_eq_getElem hi2)
      refine ⟨_, rfl, _, rfl, rix_of hsa e1 ⟨_, rfl, _, rfl, rix_of hsb e2 ?_⟩⟩
      have hdi := PyData.depth_le_depthAll ds ds[i] (List.getElem_mem hi2)
      cases n with
      | zero => omega
      | succ m => exact ⟨u1, u2, ds[i], rfl, d1, d2, okAll_mem hok (List.getElem_mem hi2), by omega, true, rfl, iteF ⟨rfl, _, rfl⟩⟩
    · rintro σ H' ⟨rfl, v, rfl⟩
      exact k
  cases ha with
  | non => cases hb; exact ⟨_, rfl, rfl, _, rfl, iteT ⟨_, rfl, rfl, k⟩⟩
  | bl b0 =>
    cases hb
    exact ⟨_, rfl, rfl, _, rfl, iteF (t_isi rfl (.bl b0) kit_bool ⟨_, rfl, iteT (t_isi rfl (.bl b0) kit_bool ⟨_, rfl, iteT ⟨_, rfl, _, rfl, rfl, dec_self (Q := Q) k⟩⟩)⟩)⟩
  | int i0 =>
    cases hb
    exact ⟨_, rfl, rfl, _, rfl, iteF (t_isi rfl (.int i0) kit_bool ⟨_, rfl, iteF (t_isi rfl (.int i0) kit_int ⟨_, rfl, iteT (t_isi rfl (.int i0) kit_int ⟨_, rfl, iteT (t_isi rfl (.int i0) kit_bool ⟨_, rfl, _, rfl, iteT ⟨_, rfl, _, rfl, rfl, dec_self (Q := Q) k⟩⟩)⟩)⟩)⟩)⟩
  | str x0 =>
    cases hb
    exact ⟨_, rfl, rfl, _, rfl, iteF (t_isi rfl (.str x0) kit_bool ⟨_, rfl, iteF (t_isi rfl (.str x0) kit_int ⟨_, rfl, iteF (t_isi rfl (.str x0) kit_str ⟨_, rfl, iteT (t_isi rfl (.str x0) kit_str ⟨_, rfl, iteT ⟨_, rfl, _, rfl, rfl, dec_self (Q := Q) k⟩⟩)⟩)⟩)⟩)⟩
  | @tup pa va ds hs haa =>
    obtain ⟨pb, vb, rfl, hs2, hbb⟩ := dp_tup hb
    have hb' : Dp K H (.ref pb) (.tuple ds) := hb
    have ha' : Dp K H (.ref pa) (.tuple ds) := .tup hs haa
    have h0 := Bool.and_eq_true_iff.mp hok
    have eL : (!decide (V.int (va.length : Int) = V.int (vb.length : Int))) = false := by simp [dpAll_len haa, dpAll_len hbb]
    refine ⟨_, rfl, rfl, _, rfl, iteF (t_isi rfl hb' kit_bool ⟨_, rfl, iteF (t_isi rfl hb' kit_int ⟨_, rfl, iteF (t_isi rfl hb' kit_str ⟨_, rfl, iteF ?_⟩)⟩)⟩)⟩
    refine t_isi rfl hb' kit_tuple (t_isi rfl ha' kit_tuple ⟨rfl, _, rfl, iteF (t_isi rfl hb' kit_list (t_isi rfl ha' kit_list ⟨rfl, _, rfl, iteF ?_⟩))⟩)
    refine ⟨_, rfl, pa, va, rfl, .inr hs, _, rfl, pb, vb, rfl, .inr hs2, rfl, _, rfl, ?_⟩
    rw [eL]
    exact iteF (loop rfl rfl (.inr hs) (.inr hs2) haa hbb (of_decide_eq_true h0.1) h0.2 hdep k)
  | @lst pa va ds hs haa =>
    obtain ⟨pb, vb, rfl, hs2, hbb⟩ := dp_lst hb
    have hb' : Dp K H (.ref pb) (.list ds) := hb
    have ha' : Dp K H (.ref pa) (.list ds) := .lst hs haa
    have h0 := Bool.and_eq_true_iff.mp hok
    have eL : (!decide (V.int (va.length : Int) = V.int (vb.length : Int))) = false := by simp [dpAll_len haa, dpAll_len hbb]
    refine ⟨_, rfl, rfl, _, rfl, iteF (t_isi rfl hb' kit_bool ⟨_, rfl, iteF (t_isi rfl hb' kit_int ⟨_, rfl, iteF (t_isi rfl hb' kit_str ⟨_, rfl, iteF ?_⟩)⟩)⟩)⟩
    refine t_isi rfl hb' kit_tuple (t_isi rfl ha' kit_tuple ⟨rfl, _, rfl, iteF (t_isi rfl hb' kit_list (t_isi rfl ha' kit_list ⟨rfl, _, rfl, iteF ?_⟩))⟩)
    refine ⟨_, rfl, pa, va, rfl, .inl hs, _, rfl, pb, vb, rfl, .inl hs2, rfl, _, rfl, ?_⟩
    rw [eL]
    exact iteF (loop rfl rfl (.inl hs) (.inl hs2) haa hbb (of_decide_eq_true h0.1) h0.2 hdep k)
/-- .. for every depth -/
theorem ok_alike {f : Addr} {fd : FuncData} (F : Fun K "_law_alike" "_law_alike" s_alike f fd) (B : Blt mg) (bs : mg "str" = none) (m : mg "_law_alike" = some (.ref f)) (hb : Binds K fd ["_law_found", "_law_due"] []) : ∀ n, FnOk P w K mg base CX0 n f fd ["_law_found", "_law_due"] (spAl K n)
  | 0 => ⟨fun _ _ _ _ h => h.elim, fun _ _ _ _ _ _ _ _ _ _ _ _ _ h => h.elim⟩
  | n + 1 => ok_alike1 F B bs ⟨f, fd, ok_alike F B bs m hb n, m, F.kp, hb⟩
end
end GX
set_option maxHeartbeats 8000000
/-! law_k18: law -/
namespace GX
open PySem PySem.Spec PyProof.Rows L2 LamX
/-! what read tells is a small thing -/
theorem num_all99 : ∀ {rest : List Str}, (rest.map fun u => lnO u 99).any Option.isNone = false → ∀ x ∈ (rest.map fun u => lnO u 99).map numD, isNum x 0 99 = true
  | [], _, x, hx => absurd hx (by simp)
  | u :: us, h, x, hx => by
    rw [List.map_cons, List.any_cons, Bool.or_eq_false_iff] at h
    rw [List.map_cons, List.map_cons] at hx
    rcases List.mem_cons.mp hx with e | hx
    · rw [e]
      cases q : lnO u 99 with
      | none => rw [q] at h; cases h.1
      | some n =>
        obtain ⟨_, hn⟩ := lnO_num q
        exact num_of (Int.natCast_nonneg n) (by omega)
    · exact num_all99 h.2 x hx
theorem cells_page {ws : List Str} (h : isCells (cellWs ws) = true) : ∃ c, cellWs ws = .tuple c ∧ c.length = 24 ∧ ∀ x ∈ c, isNum x 0 99 = true := by
  cases ws with
  | nil => cases h
  | cons w0 rest =>
    have h2 := cells_eq h
    rw [cells_ok, Bool.and_eq_true, Bool.and_eq_true] at h
    obtain ⟨_, h3, h4⟩ := h
    have h4 : (rest.map fun u => lnO u 99).any Option.isNone = false := by simpa using h4
    refine ⟨_, h2, ?_, num_all99 h4⟩
    rw [List.length_map, List.length_map]
    exact of_decide_eq_true h3
theorem readGo_pages : ∀ (rows : List Str) (line : Nat) (slots sheets ds : List PyData), readGo rows line slots sheets = .ok ds → slots.length ≤ 8 → (∀ d ∈ slots, isSlot d = true) → (∀ d ∈ sheets, isPage d = true) → (∀ d ∈ ds, isPage d = true) ∧ ds.length ≤ sheets.length + rows.length
  | [], line, slots, sheets, ds, h, _, _, h3 => by
    unfold readGo at h
    by_cases q : slots = []
    · rw [if_pos q] at h
      cases h
      exact ⟨h3, Nat.le_add_right _ _⟩
    · rw [if_neg q] at h; cases h
  | r :: rs, line, slots, sheets, ds, h, h1, h2, h3 => by
    unfold readGo at h
    by_cases q : slots.length < 8
    · rw [if_pos q] at h
      by_cases q2 : isSlot (slotWs (Txt.split r " ")) = true
      · rw [if_pos q2] at h
        obtain ⟨g1, g2⟩ := readGo_pages rs _ _ _ _ h (by rw [List.length_append, List.length_singleton]; omega) (fun d hd => by
          rcases List.mem_append.mp hd with hd | hd
          · exact h2 d hd
          · rw [List.mem_singleton.mp hd]; exact q2) h3
        exact ⟨g1, by rw [List.length_cons]; omega⟩
      · rw [if_neg q2] at h; cases h
    · rw [if_neg q] at h
      by_cases q2 : isCells (cellWs (Txt.split r " ")) = true
      · rw [if_pos q2] at h
        obtain ⟨c, ec, lc, hc⟩ := cells_page q2
        obtain ⟨g1, g2⟩ := readGo_pages rs _ _ _ _ h (Nat.zero_le _) (fun d hd => absurd hd (by simp)) (fun d hd => by
          rcases List.mem_append.mp hd with hd | hd
          · exact h3 d hd
          · rw [List.mem_singleton.mp hd, ec]; exact isPage_of (by omega) lc hc h2)
        exact ⟨g1, by rw [List.length_append, List.length_singleton] at g2; rw [List.length_cons]; omega⟩
      · rw [if_neg q2] at h; cases h
theorem readD_ok {t : Str} (ht : t.length ≤ 15000) : okD (readD t) = true ∧ PyData.depth (readD t) ≤ 5 := by
  unfold readD
  cases e : readW t with
  | error n => exact ⟨rfl, by show 0 + 1 ≤ 5; decide⟩
  | ok ds =>
    obtain ⟨h1, h2⟩ := readGo_pages _ _ _ _ _ e (Nat.zero_le _) (fun d hd => absurd hd (by simp)) (fun d hd => absurd hd (by simp))
    have hl := rows_len ht
    have h2 : ds.length ≤ 0 + (rowsW t).length := h2
    refine ⟨?_, ?_⟩
    · show (decide (ds.length ≤ 20000) && okAll ds) = true
      rw [decide_eq_true (by omega), okAll_of fun d hd => (nice_page (h1 d hd)).ok] <;> rfl
    · show PyData.depthAll ds + 1 ≤ 5
      exact Nat.succ_le_succ (depthAll_of fun d hd => (nice_page (h1 d hd)).dp)
/-- the lambda that reads -/
theorem read_body {X : Cx} {T : List (Addr × Str)} {cE D Pc : Addr} {cs : Fin 9 → Addr} {Hx : Hp} {Q : VK} {t : Str} (ht : t.length ≤ 15000) (ha : Asc t) (hG : GxR.TabG Hx Pc) (hE : EBt X.K cE cs D)
    (k : ∀ v HT, XM T (fun _ => False) Hx (unf (CellOf X) HT) → Dp X.K (unf (CellOf X) HT) v (readD t) → Q v HT) : LamBodyB X T cE cs (fun E => tCall (spRead X.K T Pc D) [] E (tCons (tVar 0) tNil)) [some (.str t)] Hx Q := fun Hl xl E Q2 hok herr =>
  ⟨_, rfl, t, rfl, ht, ha, xl.tabG _ hG, fun ds e H' v x' d' => hok (fun _ => False) v H' x'.xm fun HT aF wF => k v HT aF (by
      unfold readD
      rw [e]
      exact Dp.wk wF _ _ d'),
    fun n e H' d x' hd => herr (fun _ => False) D n d H' hE hd x'.xm fun HT v aF wF dv => k v HT aF (by
      unfold readD
      rw [e]
      exact dv)⟩
def chB : Nat → Nat
  | 0 => 1000
  | 1 => 2010
  | 2 => 4030
  | _ => 8070
theorem chB_le : ∀ i, chB i ≤ 8070
  | 0 => by decide
  | 1 => by decide
  | 2 => by decide
  | _ + 3 => by show 8070 ≤ 8070; decide
theorem chB_step : ∀ i, i < 3 → chB i ≤ 7000 ∧ 2 * chB i + 10 ≤ chB (i + 1)
  | 0, _ => by decide
  | 1, _ => by decide
  | 2, _ => by decide
def oddT : List Str := ["", " ", "\n", "free 0", "cells", "free 0\n", "row 0 0 0 -", "free", "row 0 0 1 1.2 0"]
def oddTB : Bool := oddT.all fun w => decide (w.length ≤ 20) && ascB w
theorem oddT_txo {w : Str} (h : w ∈ oddT) : Txo 20 w := txo_by (List.all_eq_true.mp (show oddTB = true by decide +kernel) w h)
def spLaw (K : PySem.W.Frag) (T : List (Addr × Str)) (Pc : Addr) : Sp := fun vs H Q _ => ∃ (a : Addr) (ns : List Int), vs = [.ref a] ∧ SqL K H a (ns.map V.int) ∧ ns.length ≤ 63 ∧ Tabs T H ∧ GxR.TabG H Pc ∧ ∀ H', Q (.bl true) H'
section
variable {P : Program} {w : World} {K : PySem.W.Frag} {mg : Str → Option Value} {base : Heap} {T : List (Addr × Str)} {D cE Pc : Addr} {cs : Fin 9 → Addr}
abbrev laN : List Str := ["_law_script", "_law_box", "_law_odd", "_law_turn", "_law_rows", "_law_k", "_law_text", "_law_change", "_law_again"]
abbrev laQ : Str := ("law" : Str) ++ (".<locals>." : Str) ++ ("<lambda>" : Str)
theorem sc_law : FnScope laN ["_law_script"] (defScope s_law) := ⟨rfl, rfl, rfl, by decide +kernel, rfl, by decide +kernel, by decide +kernel⟩
theorem ok_law {f c Pt : Addr} {fd : FuncData} (F : FunC K "law" "law" s_law f fd c) (TB : LamX.TabB base mg c Pt) (hm : (Pt, laQ) ∈ T) (hu0 : ∀ p ∈ T, p.1 = Pt → p.2 = laQ) (B : Blt mg) (eB : EBt K cE cs D)
    (cB : Cal P w K mg base CX0 "_law_begun" ["_law_script"] 1 (spBegun K T)) (cT : Cal P w K mg base CX0 "_law_take" ["_law_box", "_law_many"] 1 (spTake T)) (cPg : Cal P w K mg base CX0 "_law_page" ["_law_box"] 2 (spPg T)) (cSp : Cal P w K mg base CX0 "_law_spoilt" ["_law_box", "_law_text"] 2 (spSpoilt T))
    (cLR : Cal P w K mg base CX0 "_law_read" ["_law_text"] 3 (spLRead K T)) (cAl : Cal P w K mg base CX0 "_law_alike" ["_law_found", "_law_due"] 6 (spAl K 6)) (cTo : Cal P w K mg base CX0 "_law_told" ["_law_work"] 7 (spToldB P w K mg base T cE cs 6)) (cRd : Cal P w K mg base (L2.CX P w) "read" ["text"] 5 (spRead K T Pc D)) :
    FnOk P w K mg base CX0 8 f fd ["_law_script"] (spLaw K T Pc) := by
  refine F.ok sc_law (fun vs H Q E h => by obtain ⟨a, ns, rfl, _⟩ := h; rfl) (fun A outer s H vs Q E hr h => ?_)
  obtain ⟨a, ns, rfl, hS, hlen, hT, g1, k⟩ := h
  have nd := sc_law.nd
  refine ⟨_, (pss_cons (ps_set (i := 1) nd rfl (.inl rfl) (pe_cal cB (hr.mono (by decide)) (pa_cons (pv 0) pa_nil)))
    (pss_cons (ps_set (i := 2) nd rfl (.inl rfl) (pe_lst (pa_cons pe_str (pa_cons pe_str (pa_cons pe_str (pa_cons pe_str (pa_cons pe_str (pa_cons pe_str (pa_cons pe_str (pa_cons pe_str (pa_cons pe_str pa_nil)))))))))))
    (pss_cons (ps_for PassesOwn.never rfl (pi_range1 (by rfl) B.range (pa_cons pe_int pa_nil)) (pg_name (i := 3) nd rfl (.inl rfl))
      (pss_cons (ps_set (i := 4) nd rfl (.inl rfl) (pe_lst pa_nil))
      (pss_cons (ps_for PassesOwn.never rfl (pi_range1 (by rfl) B.range (pa_cons (pe_op op_add pe_int (pe_cal cT (hr.mono (by decide)) (pa_cons (pv 1) (pa_cons pe_int pa_nil)))) pa_nil)) (pg_name (i := 5) nd rfl (.inl rfl))
        (pss_one (ps_set (i := 4) nd rfl (.inl rfl) (pe_op op_cat (pv 4) (pe_cal cPg (hr.mono (by decide)) (pa_cons (pv 1) pa_nil))))))
      (pss_cons (ps_set (i := 6) nd rfl (.inr rfl) (pe_joinT pe_str (pv 4)))
      (pss_cons (ps_if (pt_cmpR op_eq (pe_cal cT (hr.mono (by decide)) (pa_cons (pv 1) (pa_cons pe_int pa_nil))) pe_int (nomark _)) (pss_one (ps_set (i := 6) nd rfl (.inr rfl) (pe_ix ix_list (pv 2) (pe_cal cT (hr.mono (by decide)) (pa_cons (pv 1) (pa_cons pe_int pa_nil))) (fun _ _ => rfl)))) pss_nil)
      (pss_cons (ps_for PassesOwn.never rfl (pi_range1 (by rfl) B.range (pa_cons (pe_cal cT (hr.mono (by decide)) (pa_cons (pv 1) (pa_cons pe_int pa_nil))) pa_nil)) (pg_name (i := 7) nd rfl (.inl rfl))
        (pss_one (ps_set (i := 6) nd rfl (.inr rfl) (pe_cal cSp (hr.mono (by decide)) (pa_cons (pv 1) (pa_cons (pv 6) pa_nil))))))
      (pss_one (ps_for PassesOwn.never rfl (pi_range1 (by rfl) B.range (pa_cons pe_int pa_nil)) (pg_name (i := 8) nd rfl (.inl rfl))
        (pss_one (ps_if (pt_not (pt_val (pe_cal cAl (hr.mono (by decide)) (pa_cons (pe_calF cTo (hr.mono (by decide)) (fun _ => rfl) (pa_cons (pe_lam0 (T := T) TB (by rfl) hm hu0 (lamS_by (sc := defScope s_law) (by decide +kernel))) pa_nil)) (pa_cons (pe_cal cLR (hr.mono (by decide)) (pa_cons (pv 6) pa_nil)) pa_nil))))) (pss_one (ps_ret pe_bl)) pss_nil))))))))))
    (pss_one (ps_ret pe_bl))))), ?_⟩
  refine ⟨_, rfl, a, ns, rfl, hS, hlen, fun H1 b l z x1 bx hb hl => ⟨(by show 9 ≤ sizeLine; decide), fun od hod => ?_⟩⟩
  dsimp only [gName]
  have nbo := box_ne bx hod
  have xo := XX.new (T := T) (o := .lst (oddT.map V.str)) hod
  refine ⟨5, rfl, by decide, by decide, ?_⟩
  refine for_it (walk_range (lo := 0)) (fun i σ' H' => ∃ u3 u4 u5 u6 u7 u8 ns' z', σ' = [some (.ref a), some (.ref b), some (.ref od), u3, u4, u5, u6, u7, u8] ∧ XM T (SB2 b l) H1 H' ∧ BoxAt H' b l ns' z' ∧ H' od = some (.lst (oddT.map V.str)))
    ⟨_, _, _, _, _, _, ns, z, rfl, xo.xm, bx.xx xo, upd_same⟩ (fun i σ' H' _ _ => True.intro) (fun i v σ' H' H'' hi pv yy => ?_) (fun σ' H' pv => ?_)
  · obtain ⟨u3, u4, u5, u6, u7, u8, ns0, z0, rfl, a0, bx0, eo⟩ := pv
    obtain ⟨rfl, rfl⟩ := yy
    dsimp only [gName]
    refine ⟨Nat.zero_le _, fun q hq => ?_⟩
    dsimp only [gName]
    have nbq := box_ne bx0 hq
    have xq := XX.new (T := T) (o := .lst (([] : List Str).map V.str)) hq
    have nqo : q ≠ od := fun e => by rw [e, eo] at hq; cases hq
    refine ⟨_, rfl, b, l, ns0, z0, 2, rfl, bx0.xx xq, by decide, by decide, fun H2 ns2 z2 m a2 bx2 m0 m1 => ⟨_, _, rfl, rfl, _, rfl, by omega, by omega, ?_⟩⟩
    have eo2 := a2.lst (xq.lst eo) nbo
    have eq2 := a2.lst (p := q) upd_same nbq
    have a02 := a0.trans (xq.xm.trans a2)
    have hm : ((1 : Int) + m).toNat ≤ 2 := by omega
    refine for_it (walk_range (lo := 0)) (fun i σ' H' => ∃ r v5 ns' z', ∃ ws : List Str, σ' = [some (.ref a), some (.ref b), some (.ref od), _, some (.ref r), v5, u6, u7, u8] ∧ XM T (SB2 b l) H1 H' ∧ BoxAt H' b l ns' z' ∧ H' od = some (.lst (oddT.map V.str)) ∧ H' r = some (.lst (ws.map V.str)) ∧ ¬ SB2 b l r ∧ szL ws ≤ 460 * i ∧ ∀ w ∈ ws, Asc w)
      ⟨q, _, ns2, z2, [], rfl, a02, bx2, eo2, eq2, nbq, Nat.zero_le _, fun w hw => absurd hw (by simp)⟩ (fun i σ' H' _ _ => True.intro) (fun j v σ' H' H'' hj pv yy => ?_) (fun σ' H' pv => ?_)
    · obtain ⟨r, v5, ns3, z3, ws, rfl, a3, bx3, eo3, er, nbr, hz, hw⟩ := pv
      obtain ⟨rfl, rfl⟩ := yy
      dsimp only [gName]
      refine ⟨_, rfl, _, rfl, b, l, ns3, z3, rfl, bx3, fun H4 ns4 z4 p ps a4 bx4 np ep hzp hwp => ?_⟩
      have er4 := a4.lst er nbr
      have eo4 := a4.lst eo3 nbo
      have l1 := szL_len ws
      have l2 := szL_len ps
      refine ⟨r, p, _, _, rfl, rfl, er4, ep, by rw [List.length_map, List.length_map, sizeLine_eq]; omega, fun t ht => ?_⟩
      have xt := XX.new (T := T) (o := .lst (ws.map V.str ++ ps.map V.str)) ht
      dsimp only [gName]
      refine ⟨t, _, ns4, z4, ws ++ ps, rfl, (a3.trans a4).trans xt.xm, bx4.xx xt, xt.lst eo4, by rw [List.map_append]; exact upd_same, box_ne bx4 ht, by rw [szL_app]; omega, fun w hm => (List.mem_append.mp hm).elim (hw w) (hwp w)⟩
    · obtain ⟨r, v5, ns3, z3, ws, rfl, a3, bx3, eo3, er, nbr, hz, hw⟩ := pv
      have hz : szL ws ≤ 920 := by omega
      refine ⟨⟨_, rfl⟩, _, rfl, ls_join rfl er (by omega) ?_⟩
      dsimp only [gName]
      have tt : Txo 1000 (Txt.join "\n" ws) := ⟨by have := join_len (s := "\n") rfl ws; omega, join_asc (asc_by (by decide +kernel)) hw⟩
      generalize Txt.join "\n" ws = text at tt
      refine ⟨_, rfl, b, l, ns3, z3, 6, rfl, bx3, by decide, by decide, fun H4 ns4 z4 r4 a4 bx4 r40 r41 => ⟨rfl, _, rfl, ?_⟩⟩
      have eo4 := a4.lst eo3 nbo
      have a04 := a3.trans a4
      dsimp only [gName, tNext]
      refine ifs_keyR (fun σ' H' => ∃ ns5 z5 tx, σ' = [some (.ref a), some (.ref b), some (.ref od), some (.int (0 + (i : Int))), some (.ref r), v5, some (.str tx), u7, u8] ∧ XM T (SB2 b l) H1 H' ∧ BoxAt H' b l ns5 z5 ∧ H' od = some (.lst (oddT.map V.str)) ∧ Txo 1000 tx) ?key (fun _ D' kn _ => ?h1) (fun _ D' kn _ => kn _ _ ⟨ns4, z4, text, rfl, a04, bx4, eo4, tt⟩)
      case h1 =>
        refine ⟨_, rfl, _, rfl, b, l, ns4, z4, 9, rfl, bx4, by decide, by decide, fun H5 ns5 z5 r5 a5 bx5 r50 r51 => ?_⟩
        obtain ⟨oo, rfl⟩ := Int.eq_ofNat_of_zero_le r50
        have hoo : oo < oddT.length := by show oo < 9; omega
        have eo5 := a5.lst eo4 nbo
        exact ⟨od, _, _, .str oddT[oo], rfl, rfl, SqL.of eo5, atI_nat (by rw [List.getElem?_map, List.getElem?_eq_getElem hoo]; rfl), kn _ _ ⟨ns5, z5, oddT[oo], rfl, a04.trans a5, bx5, eo5, (oddT_txo (List.getElem_mem hoo)).mono (by decide)⟩⟩
      rintro _ H5 ⟨ns5, z5, tx, rfl, a05, bx5, eo5, tt5⟩
      dsimp only [gName]
      refine ⟨_, rfl, b, l, ns5, z5, 4, rfl, bx5, by decide, by decide, fun H6 ns6 z6 r6 a6 bx6 r60 r61 => ⟨r6, rfl, by omega, by omega, ?_⟩⟩
      have a06 := a05.trans a6
      have eo6 := a6.lst eo5 nbo
      have hr6 : r6.toNat ≤ 3 := by omega
      refine for_it (walk_range (lo := 0)) (fun i' σ' H' => ∃ u7' ns7 z7 tx, σ' = [some (.ref a), some (.ref b), some (.ref od), some (.int (0 + (i : Int))), some (.ref r), v5, some (.str tx), u7', u8] ∧ XM T (SB2 b l) H1 H' ∧ BoxAt H' b l ns7 z7 ∧ H' od = some (.lst (oddT.map V.str)) ∧ Txo (chB i') tx)
        ⟨_, ns6, z6, tx, rfl, a06, bx6, eo6, tt5⟩ (fun i σ' H' _ _ => True.intro) (fun j v σ' H' H'' hj pv yy => ?_) (fun σ' H' pv => ?_)
      · obtain ⟨u7', ns7, z7, tx7, rfl, a7, bx7, eo7, tt7⟩ := pv
        obtain ⟨rfl, rfl⟩ := yy
        obtain ⟨c1, c2⟩ := chB_step j (by omega)
        have t7 := tt7.1
        dsimp only [gName]
        refine ⟨_, rfl, _, rfl, b, l, ns7, z7, tx7, rfl, bx7, by omega, tt7.2, fun H8 ns8 z8 w8 a8 bx8 l8 s8 => ?_⟩
        dsimp only [gName]
        exact ⟨_, ns8, z8, w8, rfl, a7.trans a8, bx8, a8.lst eo7 nbo, by omega, s8⟩
      · obtain ⟨u7', ns7, z7, tx7, rfl, a7, bx7, eo7, tt7⟩ := pv
        have t7 : tx7.length ≤ 15000 := by
          have := chB_le r6.toNat
          have := tt7.1
          omega
        have s7 := tt7.2
        obtain ⟨ok7, dep7⟩ := readD_ok t7
        refine ⟨2, rfl, by decide, by decide, ?_⟩
        refine for_it (walk_range (lo := 0)) (fun i' σ' H' => ∃ u8', σ' = [some (.ref a), some (.ref b), some (.ref od), some (.int (0 + (i : Int))), some (.ref r), v5, some (.str tx7), u7', u8'] ∧ XM T (SB2 b l) H1 H' ∧ BoxAt H' b l ns7 z7 ∧ H' od = some (.lst (oddT.map V.str)))
          ⟨_, rfl, a7, bx7, eo7⟩ (fun i σ' H' _ _ => True.intro) (fun j v σ' H' H'' hj pv yy => ?_) (fun σ' H' pv => ?_)
        · obtain ⟨u8', rfl, a9, bx9, eo9⟩ := pv
          obtain ⟨rfl, rfl⟩ := yy
          dsimp only [gName]
          have y9 : XM T (SB2 b l) H H'' := x1.xm.trans a9
          refine ⟨y9.tabs hT, fun H10 g c' dV doc pm ctv inj e10 tk10 t10 hD nf hc' => fun H11 z11 => ?_⟩
          have x10 : XX T H'' H10 := XX.lam e10 (fun _ => t10) tk10.1 tk10.2
          have xx : ∀ o, XX T H'' (upd H10 g o) := fun o => x10.then_new (o := o) nf
          refine told_lamB (T := T) (cE := cE) (cs := cs) (Nl := ["_law_text"]) (js := [6]) (sc := defScope s_law) (k := 5) (tb := fun E => tCall (spRead K T Pc D) [] E (tCons (tVar 0) tNil)) z11 (cap_by (N := laN) (by decide +kernel)) rfl rfl inj upd_same hD (by rw [upd_ne (ne_of_none hc' nf)]; exact hc') (fun _ _ _ _ => rfl)
            (fun A outer s H E hr => pe_calX cRd hr passes_l (pa_cons (pv 0) pa_nil)) (read_body (D := D) (Pc := Pc) (t := tx7) t7 s7 ((xx _).tabG _ (y9.tabG _ g1)) eB fun v HT aF dv => ?_)
          have aF' := aF.mono (S' := SB2 b l) fun _ h => h.elim
          refine ⟨_, rfl, tx7, rfl, t7, s7, fun H12 v12 x12 d12 => ⟨v, v12, readD tx7, rfl, Dp.xx x12 _ _ dv, d12, ok7, dep7, _, rfl, ?_⟩⟩
          refine iteF ⟨_, rfl, ((a9.trans (xx _).xm).trans aF').trans x12.xm, ((bx9.xx (xx _)).xm aF id id).xx x12, x12.lst (aF.lst ((xx _).lst eo9) id)⟩
        · obtain ⟨u8', rfl, a9, bx9, eo9⟩ := pv
          exact ⟨_, _, _, _, _, _, ns7, z7, rfl, a9, bx9, eo9⟩
  · exact k H'
end
end GX
set_option maxHeartbeats 2000000
namespace GX
open PySem PySem.Spec PyProof.Rows L2 LamX
section
variable {P : Program} {w : World} {K : PySem.W.Frag} {mg : Str → Option Value} {base : Heap} {T : List (Addr × Str)}
theorem sc_is_number : FnScope ["thing", "low", "high"] ["thing", "low", "high"] (defScope s_is_number) := ⟨rfl, rfl, rfl, by decide +kernel, rfl, by decide +kernel, by decide +kernel⟩
theorem ok_is_number {f : Addr} {fd : FuncData} (F : Fun K "is_number" "is_number" s_is_number f fd) (B : Blt mg) : FnOk P w K mg base CX0 1 f fd ["thing", "low", "high"] (spNum K) := by
  refine F.ok sc_is_number (fun vs H Q E h => ?_) (fun cdv A outer s H vs Q E hr h => ?_)
  · obtain ⟨v, d, lo, hi, rfl, _⟩ := h
    rfl
  · obtain ⟨v, d, lo, hi, rfl, hd, k⟩ := h
    refine ⟨_, pss_one (ps_ret (pe_and (pe_callB call_isi (by rfl) B.isi k_isi (pa_cons (pv 0) (pa_cons (pe_bltn (v := .ty "int") (by rfl) B.int boot_int rfl) pa_nil)))
      (pe_and (pe_not (pe_callB call_isi (by rfl) B.isi k_isi (pa_cons (pv 0) (pa_cons (pe_bltn (v := .ty "bool") (by rfl) B.bool boot_bool rfl) pa_nil))))
        (pe_one (pe_chain op_le op_le (pv 1) (pv 0) (pv 2)))))), ?_⟩
    refine t_isi rfl hd kit_int ⟨_, rfl, ?_⟩
    cases hd with
    | int i =>
      refine iteT (t_isi rfl (.int i) kit_bool ⟨_, rfl, _, rfl, iteT ?_⟩)
      refine ⟨_, rfl, _, rfl, _, _, rfl, rfl, _, rfl, ?_⟩
      by_cases h1 : lo ≤ i
      · rw [decide_eq_true h1]
        refine iteT ⟨_, rfl, _, _, rfl, rfl, ?_⟩
        have e : isNum (.int i) lo hi = decide (i ≤ hi) := by simp [isNum, h1]
        rw [e] at k; exact k
      · rw [decide_eq_false h1]
        refine iteF ?_
        have e : isNum (.int i) lo hi = false := by simp [isNum, h1]
        rw [e] at k; exact k
    | bl b => exact iteT (t_isi rfl (.bl b) kit_bool ⟨_, rfl, _, rfl, iteF k⟩)
    | non => exact iteF k
    | str x => exact iteF k
    | lst _ _ => exact iteF k
    | tup _ _ => exact iteF k
theorem sc_is_tuple : FnScope ["thing", "many"] ["thing", "many"] (defScope s_is_tuple) := ⟨rfl, rfl, rfl, by decide +kernel, rfl, by decide +kernel, by decide +kernel⟩
theorem ok_is_tuple {f : Addr} {fd : FuncData} (F : Fun K "is_tuple" "is_tuple" s_is_tuple f fd) (B : Blt mg) : FnOk P w K mg base CX0 1 f fd ["thing", "many"] (spTup K) := by
  refine F.ok sc_is_tuple (fun vs H Q E h => ?_) (fun cdv A outer s H vs Q E hr h => ?_)
  · obtain ⟨v, d, n, rfl, _⟩ := h
    rfl
  · obtain ⟨v, d, n, rfl, hd, k⟩ := h
    refine ⟨_, pss_one (ps_ret (pe_and (pe_callB call_isi (by rfl) B.isi k_isi (pa_cons (pv 0) (pa_cons (pe_bltn (v := .ty "tuple") (by rfl) B.tuple boot_tuple rfl) pa_nil)))
      (pe_one (pe_cmpR op_eq (pe_callB call_len_seq (by rfl) B.len PySem.boot_len (pa_cons (pv 0) pa_nil)) (pv 1) (nomark _))))), ?_⟩
    refine t_isi rfl hd kit_tuple ⟨_, rfl, ?_⟩
    cases hd with
    | tup hs ha =>
      refine iteT ⟨_, rfl, _, _, rfl, .inr hs, _, rfl, rfl, ?_⟩
      rw [isTup_dec (dpAll_len ha)] at k
      exact k
    | lst _ _ => exact iteF k
    | int i => exact iteF k
    | bl b => exact iteF k
    | non => exact iteF k
    | str x => exact iteF k
end
end GX
namespace GX
open PySem PySem.Spec PyProof.Rows L2 LamX
section
variable {P : Program} {w : World} {K : PySem.W.Frag} {mg : Str → Option Value} {base : Heap} {T : List (Addr × Str)}
theorem sc_is_next : FnScope ["thing"] ["thing"] (defScope s_is_next) := ⟨rfl, rfl, rfl, by decide +kernel, rfl, by decide +kernel, by decide +kernel⟩
theorem ok_is_next {f : Addr} {fd : FuncData} (F : Fun K "is_next" "is_next" s_is_next f fd) (C : CoF mg) (cN : Cal P w K mg base CX0 "is_number" ["thing", "low", "high"] 1 (spNum K)) (cT : Cal P w K mg base CX0 "is_tuple" ["thing", "many"] 1 (spTup K)) : FnOk P w K mg base CX0 2 f fd ["thing"] (spNext K) := by
  refine F.ok sc_is_next (fun vs H Q E h => ?_) (fun cdv A outer s H vs Q E hr h => ?_)
  · obtain ⟨v, d, rfl, _⟩ := h
    rfl
  · obtain ⟨v, d, rfl, hd, k⟩ := h
    refine ⟨_, pss_cons (ps_if (pt_cmpR op_isN (pv 0) pe_non (nomark _)) (pss_one (ps_ret pe_bl)) pss_nil)
      (pss_one (ps_ret (pe_and (pe_cal cT hr (pa_cons (pv 0) (pa_cons pe_int pa_nil)))
        (pe_and (pe_cal cN hr (pa_cons (pe_ix ix_tup (pv 0) pe_int (fun _ _ => rfl)) (pa_cons pe_int (pa_cons (pe_op op_sub (pe_const C.most) pe_int) pa_nil))))
          (pe_one (pe_cal cN hr (pa_cons (pe_ix ix_tup (pv 0) pe_int (fun _ _ => rfl)) (pa_cons pe_int (pa_cons (pe_op op_sub (pe_const C.slots) pe_int) pa_nil))))))))), ?_⟩
    refine ⟨v, rfl, rfl, _, rfl, ?_⟩
    by_cases hv : v = .non
    · subst hv
      obtain rfl := dp_non hd
      exact iteT k
    · rw [decide_eq_false hv]
      refine iteF ⟨v, rfl, v, d, 2, rfl, hd, _, rfl, ?_⟩
      by_cases h2 : isTup d 2 = true
      · rw [h2]
        obtain ⟨x, y, rfl⟩ := isTup2 h2
        obtain ⟨a, xs, rfl, hs, ha⟩ := dp_tup hd
        obtain ⟨vx, vy, rfl, hx, hy⟩ := dpAll2 ha
        refine iteT ⟨_, rfl, a, _, 0, vx, rfl, rfl, hs, rfl, _, _, rfl, rfl, vx, x, 0, 11, rfl, hx, _, rfl, ?_⟩
        by_cases h1 : isNum x 0 11 = true
        · rw [h1]
          refine iteT ⟨_, rfl, a, _, 1, vy, rfl, rfl, hs, rfl, _, _, rfl, rfl, vy, y, 0, 7, rfl, hy, ?_⟩
          have e : isNext (.tuple [x, y]) = isNum y 0 7 := by simp [isNext, h1]
          rw [e] at k; exact k
        · have h1' : isNum x 0 11 = false := by simpa using h1
          rw [h1']
          have e : isNext (.tuple [x, y]) = false := by simp [isNext, h1']
          rw [e] at k; exact iteF k
      · have h2' : isTup d 2 = false := by simpa using h2
        rw [h2']
        rw [isNext_no (dp_notN hd hv) h2'] at k
        exact iteF k
end
end GX
namespace GX
open PySem PySem.Spec PyProof.Rows L2 LamX
section
variable {P : Program} {w : World} {K : PySem.W.Frag} {mg : Str → Option Value} {base : Heap} {T : List (Addr × Str)}
theorem sc_holds : FnScope ["thing", "least", "_", "turn", "begin", "size", "after"] ["thing", "least"] (defScope s_holds) := ⟨rfl, rfl, rfl, by decide +kernel, rfl, by decide +kernel, by decide +kernel⟩
theorem ok_holds {f : Addr} {fd : FuncData} (F : Fun K "_holds" "_holds" s_holds f fd) (B : Blt mg) (C : CoF mg) (cN : Cal P w K mg base CX0 "is_number" ["thing", "low", "high"] 1 (spNum K)) (cX : Cal P w K mg base CX0 "is_next" ["thing"] 2 (spNext K)) : FnOk P w K mg base CX0 3 f fd ["thing", "least"] (spHolds K) := by
  refine F.ok sc_holds (fun vs H Q E h => ?_) (fun cdv A outer s H vs Q E hr h => ?_)
  · obtain ⟨v, ds, l, rfl, _⟩ := h
    rfl
  · obtain ⟨v, ds, least, rfl, hd, k⟩ := h
    have nd := sc_holds.nd
    refine ⟨_, pss_cons (ps_if (pt_cmpR op_ne (pe_callB call_len_seq (by rfl) B.len PySem.boot_len (pa_cons (pv 0) pa_nil)) pe_int (nomark _)) (pss_one (ps_ret pe_bl)) pss_nil)
      (pss_cons (ps_asg (pv 0) (pg_tup (by rfl) (pgs_cons (pg_name (i := 2) nd rfl (.inl rfl)) (pgs_cons (pg_name (i := 3) nd rfl (.inl rfl)) (pgs_cons (pg_name (i := 4) nd rfl (.inl rfl)) (pgs_cons (pg_name (i := 5) nd rfl (.inl rfl)) (pgs_cons (pg_name (i := 6) nd rfl (.inl rfl)) pgs_nil)))))))
      (pss_cons (ps_if (PW.pt (pw_or (pt_not (pt_val (pe_cal cN (hr.mono (by decide)) (pa_cons (pv 3) (pa_cons pe_int (pa_cons (pe_const C.turn) pa_nil))))))
          (pw_or1 (pt_not (pt_val (pe_cal cN (hr.mono (by decide)) (pa_cons (pv 4) (pa_cons pe_int (pa_cons (pe_const C.cells) pa_nil)))))))) ) (pss_one (ps_ret pe_bl)) pss_nil)
      (pss_one (ps_ret (pe_and (pe_cal cN (hr.mono (by decide)) (pa_cons (pv 5) (pa_cons (pv 1) (pa_cons (pe_op op_sub (pe_const C.cells) (pv 4)) pa_nil)))) (pe_one (pe_cal cX hr (pa_cons (pv 6) pa_nil)))))))), ?_⟩
    obtain ⟨a, xs, rfl, hs, ha⟩ := dp_tup hd
    refine ⟨_, rfl, a, xs, rfl, .inr hs, rfl, _, rfl, ?_⟩
    have hl := dpAll_len ha
    by_cases h5 : ds.length = 5
    · have e5 : (!decide (V.int (xs.length : Int) = V.int 5)) = false := by simp [hl, h5]
      rw [e5]
      obtain ⟨d0, d1, d2, d3, d4, rfl⟩ := len5 h5
      obtain ⟨v0, v1, v2, v3, v4, rfl, h0, h1, h2, h3, h4⟩ := dpAll5 ha
      refine iteF ⟨_, rfl, a, _, rfl, hs, rfl, _, _, rfl, _, _, rfl, _, _, rfl, _, _, rfl, _, _, rfl, rfl, ?_⟩
      refine ⟨v1, rfl, v1, d1, 0, 99, rfl, h1, _, rfl, ?_⟩
      by_cases q1 : isNum d1 0 99 = true
      · rw [q1]
        refine iteF ⟨v2, rfl, v2, d2, 0, 24, rfl, h2, _, rfl, ?_⟩
        by_cases q2 : isNum d2 0 24 = true
        · rw [q2]
          obtain ⟨bi, rfl, _, _⟩ := isNum_int q2
          obtain rfl := dp_int h2
          refine iteF ⟨v3, rfl, _, rfl, _, rfl, _, _, rfl, rfl, v3, d3, least, 24 - bi, rfl, h3, _, rfl, ?_⟩
          by_cases q3 : isNum d3 least (24 - bi) = true
          · rw [q3]
            refine iteT ⟨v4, rfl, v4, d4, rfl, h4, ?_⟩
            have e : holds [d0, d1, .int bi, d3, d4] least = isNext d4 := by simp [holds, q1, q2, q3]
            rw [e] at k; exact k
          · have q3' : isNum d3 least (24 - bi) = false := by simpa using q3
            rw [q3']
            have e : holds [d0, d1, .int bi, d3, d4] least = false := by simp [holds, q3']
            rw [e] at k; exact iteF k
        · have q2' : isNum d2 0 24 = false := by simpa using q2
          rw [q2']
          have e : holds [d0, d1, d2, d3, d4] least = false := by simp [holds, q2']
          rw [e] at k; exact iteT k
      · have q1' : isNum d1 0 99 = false := by simpa using q1
        rw [q1']
        have e : holds [d0, d1, d2, d3, d4] least = false := by simp [holds, q1']
        rw [e] at k; exact iteT k
    · have e5 : (!decide (V.int (xs.length : Int) = V.int 5)) = true := by
        simp [hl]; omega
      rw [e5]
      rw [holds_no h5] at k
      exact iteT k
end
end GX
namespace GX
open PySem PySem.Spec PyProof.Rows L2 LamX
section
variable {P : Program} {w : World} {K : PySem.W.Frag} {mg : Str → Option Value} {base : Heap} {T : List (Addr × Str)}
theorem sc_is_slot : FnScope ["thing"] ["thing"] (defScope s_is_slot) := ⟨rfl, rfl, rfl, by decide +kernel, rfl, by decide +kernel, by decide +kernel⟩
theorem ok_is_slot {f : Addr} {fd : FuncData} (F : Fun K "is_slot" "is_slot" s_is_slot f fd) (B : Blt mg) (C : CoF mg) (cN : Cal P w K mg base CX0 "is_number" ["thing", "low", "high"] 1 (spNum K)) (cH : Cal P w K mg base CX0 "_holds" ["thing", "least"] 3 (spHolds K)) : FnOk P w K mg base CX0 4 f fd ["thing"] (spSlot K) := by
  refine F.ok sc_is_slot (fun vs H Q E h => ?_) (fun cdv A outer s H vs Q E hr h => ?_)
  · obtain ⟨v, d, rfl, _⟩ := h
    rfl
  · obtain ⟨v, d, rfl, hd, hs, k⟩ := h
    refine ⟨_, pss_cons (ps_if (PW.pt (pw_or (pt_not (pt_val (pe_callB call_isi (by rfl) B.isi k_isi (pa_cons (pv 0) (pa_cons (pe_bltn (v := .ty "tuple") (by rfl) B.tuple boot_tuple rfl) pa_nil))))) (pw_or1 (pt_not (pt_truth (pv 0) (by intro _; rfl)))))) (pss_one (ps_ret pe_bl)) pss_nil)
      (pss_cons (ps_if (pt_cmpR (op_eqD hr.units) (pe_ix ix_tup (pv 0) pe_int (fun _ _ => rfl)) pe_str (nomark _))
        (pss_one (ps_ret (pe_and (pe_cmpR op_eq (pe_callB call_len_seq (by rfl) B.len PySem.boot_len (pa_cons (pv 0) pa_nil)) pe_int (nomark _)) (pe_one (pe_cal cN (hr.mono (by decide)) (pa_cons (pe_ix ix_tup (pv 0) pe_int (fun _ _ => rfl)) (pa_cons pe_int (pa_cons (pe_const C.spent) pa_nil)))))))) pss_nil)
      (pss_cons (ps_if (pt_cmpR (op_eqD hr.units) (pe_ix ix_tup (pv 0) pe_int (fun _ _ => rfl)) pe_str (nomark _)) (pss_one (ps_ret (pe_cal cH hr (pa_cons (pv 0) (pa_cons pe_int pa_nil))))) pss_nil)
      (pss_one (ps_ret (pe_and (pe_cmpR (op_eqD hr.units) (pe_ix ix_tup (pv 0) pe_int (fun _ _ => rfl)) pe_str (nomark _)) (pe_one (pe_cal cH hr (pa_cons (pv 0) (pa_cons pe_int pa_nil))))))))), ?_⟩
    refine t_isi rfl hd kit_tuple ⟨_, rfl, ?_⟩
    by_cases ht : isT "tuple" d = true
    · rw [ht]
      obtain ⟨ds, rfl⟩ := isT_tuple ht
      obtain ⟨a, xs, rfl, hS, ha⟩ := dp_tup hd
      refine iteF ⟨_, rfl, _, .inr (.inl ⟨xs, hS, rfl⟩), ?_⟩
      cases ds with
      | nil =>
        obtain rfl := dpAll0 ha
        exact iteT k
      | cons d0 r =>
        obtain ⟨v0, xr, rfl, h0, har⟩ := dpAllC ha
        have s0 : SeqAt.shaped d0 = true := shaped_mem hs List.mem_cons_self
        refine iteF ⟨_, rfl, a, _, 0, v0, rfl, rfl, hS, atI0, d0, .str "free", h0, .str _, s0, sh_free, _, rfl, ?_⟩
        by_cases e1 : PyData.eqv d0 (.str "free") = true
        · rw [e1]
          refine iteT ⟨_, rfl, a, _, rfl, .inr hS, rfl, _, rfl, ?_⟩
          by_cases hl : (v0 :: xr).length = 2
          · obtain ⟨v1, rfl⟩ := len2 hl
            obtain ⟨d1, rfl, h1⟩ := dpAll1 har
            refine iteT ⟨_, rfl, a, _, 1, v1, rfl, rfl, hS, rfl, v1, d1, 0, 100, rfl, h1, ?_⟩
            have e : isSlot (.tuple [d0, d1]) = isNum d1 0 100 := by simp [isSlot, e1]
            rw [e] at k; exact k
          · have eL : decide (V.int ((v0 :: xr).length : Int) = V.int 2) = false := by
              simp only [decide_eq_false_iff_not, V.int.injEq]
              omega
            rw [eL]
            have e : isSlot (.tuple (d0 :: r)) = false := by
              rw [isSlot_free e1]
              intro d1 e
              rw [e] at har
              have := dpAll_len har
              simp at this
              simp [this] at hl
            rw [e] at k; exact iteF k
        · have e1' : PyData.eqv d0 (.str "free") = false := by simpa using e1
          rw [e1']
          refine iteF ⟨_, rfl, a, _, 0, v0, rfl, rfl, hS, atI0, d0, .str "row", h0, .str _, s0, sh_row, _, rfl, ?_⟩
          by_cases e2 : PyData.eqv d0 (.str "row") = true
          · rw [e2]
            refine iteT ⟨_, rfl, _, d0 :: r, 0, rfl, hd, ?_⟩
            have e : isSlot (.tuple (d0 :: r)) = holds (d0 :: r) 0 := by simp [isSlot, e1', e2]
            rw [e] at k; exact k
          · have e2' : PyData.eqv d0 (.str "row") = false := by simpa using e2
            rw [e2']
            refine iteF ⟨_, rfl, a, _, 0, v0, rfl, rfl, hS, atI0, d0, .str "part", h0, .str _, s0, sh_part, _, rfl, ?_⟩
            have e : isSlot (.tuple (d0 :: r)) = (PyData.eqv d0 (.str "part") && holds (d0 :: r) 1) := by simp [isSlot, e1', e2']
            rw [e] at k
            by_cases e3 : PyData.eqv d0 (.str "part") = true
            · rw [e3] at k ⊢
              exact iteT ⟨_, rfl, _, d0 :: r, 1, rfl, hd, k⟩
            · have e3' : PyData.eqv d0 (.str "part") = false := by simpa using e3
              rw [e3'] at k ⊢
              exact iteF k
    · have ht' : isT "tuple" d = false := by simpa using ht
      rw [ht']
      rw [isSlot_no ht'] at k
      exact iteT k
end
end GX
namespace GX
open PySem PySem.Spec PyProof.Rows L2 LamX
section
variable {P : Program} {w : World} {K : PySem.W.Frag} {mg : Str → Option Value} {base : Heap} {T : List (Addr × Str)}
theorem pi_lt {X : Cx} {tg l : Expr} {tl : TE} (hl : PE X l tl) : PI X tg l (fun σ H R => tl σ H fun x H1 => ∃ a, x = .ref a ∧ ((∃ xs, SqL X.K H1 a xs ∧ R (Itl X.K a) H1) ∨ (∃ xs, SqT X.K H1 a xs ∧ R (Itt X.K a) H1))) := by
  refine ⟨fun pins s σ H R I h => ?_⟩
  refine thn (hl.run pins s σ H _ I h) fun v s1 ⟨x, H1, I1, r1, q1⟩ => ?_
  obtain ⟨a, e, q1⟩ := q1
  subst e
  cases r1
  rcases q1 with ⟨xs, hq, q⟩ | ⟨xs, hq, q⟩
  · obtain ⟨its, rv, p, hz⟩ := I1.list hq
    refine wpAny_pyIter_list p.isList ?_
    refine ⟨s1.heap.objs.size, [s1.heap.objs.size], _, _, H1, rfl, I1.kept (t' := s1.toks) fun b o e => Heap.get?_push_of_some _ e, turn_list a _, ⟨_, Heap.get?_push_size _ rfl, rfl, rfl⟩, fun b hb => ?_, q⟩
    have e : b = s1.heap.objs.size := by simpa using hb
    subst e
    exact I1.fpOk (Nat.le_refl _) (I1.hok.fresh (Nat.le_refl _))
  · obtain ⟨its, rv, p, hz⟩ := I1.tuple hq
    refine wpAny_pyIter_tuple (show s1.heap.IsTuple a its.toArray from p) ?_
    refine ⟨s1.heap.objs.size, [s1.heap.objs.size], _, _, H1, rfl, I1.kept (t' := s1.toks) fun b o e => Heap.get?_push_of_some _ e, turn_tuple a _, ⟨_, Heap.get?_push_size _ rfl, rfl, rfl⟩, fun b hb => ?_, q⟩
    have e : b = s1.heap.objs.size := by simpa using hb
    subst e
    exact I1.fpOk (Nat.le_refl _) (I1.hok.fresh (Nat.le_refl _))
theorem sc_are_values : FnScope ["things"] ["things"] (defScope s_are_values) := ⟨rfl, rfl, rfl, by decide +kernel, rfl, by decide +kernel, by decide +kernel⟩
theorem ok_are_values {f c Pt : Addr} {fd : FuncData} (F : FunC K "are_values" "are_values" s_are_values f fd c) (TB : LamX.TabB base mg c Pt) (hT : ∀ p ∈ T, p.1 ≠ Pt) (B : Blt mg) (C : CoF mg) (cN : Cal P w K mg base CX0 "is_number" ["thing", "low", "high"] 1 (spNum K)) : FnOk P w K mg base CX0 3 f fd ["things"] (spVals K T Pt) := by
  refine F.ok sc_are_values (fun vs H Q E h => ?_) (fun A outer s H vs Q E hr h => ?_)
  · obtain ⟨v, d, ds, rfl, _⟩ := h
    rfl
  · obtain ⟨v, d, ds, rfl, hd, hds, hG, k⟩ := h
    refine ⟨_, pss_one (ps_ret (pe_allG (Ng := ["thing"]) (cap := []) hr (by rfl) B.all TB (by rfl) (gs_by (N := ["things"]) (sc := defScope s_are_values) (by decide +kernel)) (pi_lt (pv 0)) (fun code s H fp pn => pe_cal cN (room_gen (hr.mono (by decide))) (pa_cons (pv 0) (pa_cons pe_int (pa_cons (pe_const C.cell) pa_nil)))))), ?_⟩
    refine ⟨v, rfl, ?_⟩
    rcases hds with rfl | rfl
    · obtain ⟨a, xs, rfl, hs, ha⟩ := dp_lst hd
      refine ⟨a, rfl, .inl ⟨xs, hs, hG, fun H2 tb => ?_⟩⟩
      have xx := XX.tabbed hT hG tb
      exact all_dpL (T := T) (g := fun z => isNum z 0 99) (xx.sqL hs) (Dp.xxAll xx _ _ ha) (fun d v H' W hm hv x1 hW => ⟨v, rfl, v, d, 0, 99, rfl, hv, hW H' (XX.refl H')⟩) fun H' x1 => k H' (xx.trans x1)
    · obtain ⟨a, xs, rfl, hs, ha⟩ := dp_tup hd
      refine ⟨a, rfl, .inr ⟨xs, hs, hG, fun H2 tb => ?_⟩⟩
      have xx := XX.tabbed hT hG tb
      exact all_dpT (T := T) (g := fun z => isNum z 0 99) (xx.sqT hs) (Dp.xxAll xx _ _ ha) (fun d v H' W hm hv x1 hW => ⟨v, rfl, v, d, 0, 99, rfl, hv, hW H' (XX.refl H')⟩) fun H' x1 => k H' (xx.trans x1)
theorem sc_are_cells : FnScope ["thing"] ["thing"] (defScope s_are_cells) := ⟨rfl, rfl, rfl, by decide +kernel, rfl, by decide +kernel, by decide +kernel⟩
theorem ok_are_cells {f Pt : Addr} {fd : FuncData} (F : L2.Fun K "are_cells" "are_cells" s_are_cells f fd) (C : CoF mg) (cV : Cal P w K mg base CX0 "are_values" ["things"] 3 (spVals K T Pt)) (cT : Cal P w K mg base CX0 "is_tuple" ["thing", "many"] 1 (spTup K)) : FnOk P w K mg base CX0 4 f fd ["thing"] (spCells K T Pt) := by
  refine F.ok sc_are_cells (fun vs H Q E h => ?_) (fun cdv A outer s H vs Q E hr h => ?_)
  · obtain ⟨v, d, rfl, _⟩ := h
    rfl
  · obtain ⟨v, d, rfl, hd, hG, k⟩ := h
    refine ⟨_, pss_one (ps_ret (pe_and (pe_cal cT (hr.mono (by decide)) (pa_cons (pv 0) (pa_cons (pe_const C.cells) pa_nil))) (pe_one (pe_cal cV hr (pa_cons (pv 0) pa_nil))))), ?_⟩
    refine ⟨v, rfl, v, d, 24, rfl, hd, _, rfl, ?_⟩
    cases q : isTup d 24 with
    | true =>
      obtain ⟨ds, rfl, hl⟩ := isTupN (n := 24) q
      refine iteT ⟨v, rfl, v, _, ds, rfl, hd, .inr rfl, hG, fun H' x => ?_⟩
      have := k H' x
      have e : isCells (.tuple ds) = valsB ds := by simp [isCells, hl]
      rw [e] at this; exact this
    | false =>
      have e : isCells d = false := by
        unfold isCells
        split
        · rename_i ds
          have h' : ¬ ((ds.length : Nat) : Int) = 24 := by simpa [isTup] using q
          have : ¬ ds.length = 24 := by omega
          simp [this]
        · rfl
      have := k H (XX.refl H)
      rw [e] at this
      exact iteF this
end
end GX
set_option maxHeartbeats 16000000
/-! from what the top leaves to the law's promise -/
namespace GX
open PySem PySem.Spec PyProof.Rows L2 LamX
section
variable {P : Program} {w : World} {K : PySem.W.Frag} {mg : Str → Option Value} {base : Heap}
theorem fun_of {x q : Str} {st : Stmt} {f : Addr} {fd : FuncData} (F : FunD K x q (defArgs st) (defBody st) (defScope st) [] [] f fd) : L2.Fun K x q st f fd := by
  obtain ⟨oc, od, dV, kV, doc, pm, an, cdv, ct, osl, e, lk, hcd, hD, _⟩ := F.ex
  have hd : dV = .none := by
    rcases hD with ⟨_, z⟩ | ⟨z, _⟩
    · exact z
    · exact absurd rfl z
  subst hd
  exact ⟨⟨oc, od, kV, doc, pm, an, cdv, ct, osl, e, lk, hcd⟩, F.kp⟩
theorem func_of {x q : Str} {st : Stmt} {p : He.Defn} {fd : FuncData} (F : FunD K x q (defArgs st) (defBody st) (defScope st) [] [] (He.fAd K p) fd) : FunC K x q st (He.fAd K p) fd (He.codeOf K p) := by
  obtain ⟨oc, od, dV, kV, doc, pm, an, cdv, ct, osl, e, lk, hcd, hD, _⟩ := F.ex
  have hd : dV = .none := by
    rcases hD with ⟨_, z⟩ | ⟨z, _⟩
    · exact z
    · exact absurd rfl z
  subst hd
  obtain ⟨c, ec⟩ := He.codeIn_ref hcd
  subst ec
  subst e
  have e2 := He.codeOf_eq (p := p) (c := c) lk rfl
  rw [e2]
  exact ⟨⟨oc, od, kV, doc, pm, an, ct, osl, rfl, lk, hcd⟩, F.kp⟩
abbrev csH (K : PySem.W.Frag) : Fin 9 → Addr := fun j => He.ga K (wordsH.getD j.1 "")
theorem eis_of {i : Fin 9} {x : Str} (hx : wordsH.getD i.1 "" = x) (hm : (He.Fa.exm x "PageError" true).ok K = true) (h : (excB K (He.ga K (wordsH.getD i.1 "")) && (kitB9 K i.1 && decide (PySem.W.kitOne K (.ref (He.ga K (wordsH.getD i.1 ""))) (.type "ValueError") = some true))) = true) :
    EIs K (He.ga K "PageError") (csH K) i (He.ga K x) := by
  obtain ⟨h1, h⟩ := He.ba h
  obtain ⟨h2, h3⟩ := He.ba h
  rw [hx] at h1 h3
  refine ⟨excB_ok h1, He.exm_ok hm, fun j => ?_, of_decide_eq_true h3⟩
  have q := of_decide_eq_true (List.all_eq_true.mp h2 j.1 (List.mem_range.mpr j.2))
  rw [hx] at q
  refine q.trans (congrArg some ?_)
  by_cases e : j = i
  · subst e; simp
  · have e' : ¬ j.1 = i.1 := fun z => e (Fin.ext z)
    rw [decide_eq_false e, decide_eq_false e']
end


theorem law_at {w : World} {K : PySem.W.Frag} {mg : Str → Option Value} {h : Heap} {fa : Addr} (X : K.In h) (G : h.Ns mainGlobals mg) (hfa : mg "law" = some (.ref fa)) (c : He.SaysX faH fnH [] tfH exH w h K) (hb : btW K = btV) :
    LawAtS PySem.Challenge.rw_slotpages_k18_texts_of_no_pages w K CX0 8 63 "_law_script" mg fa h := by
  have cd := c.t.d
  obtain ⟨d0, D0⟩ := cd.def_ 0 (d := (dG "is_number" s_is_number)) rfl
  obtain ⟨d1, D1⟩ := cd.def_ 1 (d := (dG "is_tuple" s_is_tuple)) rfl
  obtain ⟨d2, D2⟩ := cd.def_ 2 (d := (dG "is_next" s_is_next)) rfl
  obtain ⟨d3, D3⟩ := cd.def_ 3 (d := (dG "_holds" s_holds)) rfl
  obtain ⟨d4, D4⟩ := cd.def_ 4 (d := (dG "is_slot" s_is_slot)) rfl
  obtain ⟨d5, D5⟩ := cd.def_ 5 (d := (dG "are_values" s_are_values)) rfl
  obtain ⟨d6, D6⟩ := cd.def_ 6 (d := (dG "are_cells" s_are_cells)) rfl
  obtain ⟨d7, D7⟩ := cd.def_ 7 (d := (dG "rows_of" s_rows_of)) rfl
  obtain ⟨d8, D8⟩ := cd.def_ 8 (d := (dG "number_of" s_number_of)) rfl
  obtain ⟨d9, D9⟩ := cd.def_ 9 (d := (dG "numbers_of" s_numbers_of)) rfl
  obtain ⟨d10, D10⟩ := cd.def_ 10 (d := (dG "read" s_read)) rfl
  obtain ⟨d11, D11⟩ := cd.def_ 11 (d := (dG "_cells_of" s_cells_of)) rfl
  obtain ⟨d12, D12⟩ := cd.def_ 12 (d := (dG "_slot_of" s_slot_of)) rfl
  obtain ⟨d13, D13⟩ := cd.def_ 13 (d := (dG "_next_of" s_next_of)) rfl
  obtain ⟨d14, D14⟩ := cd.def_ 14 (d := (dG "_law_begun" s_begun)) rfl
  obtain ⟨d15, D15⟩ := cd.def_ 15 (d := (dG "_law_take" s_take)) rfl
  obtain ⟨d16, D16⟩ := cd.def_ 16 (d := (dG "_law_alike" s_alike)) rfl
  obtain ⟨d17, D17⟩ := cd.def_ 17 (d := (dG "_law_told" s_told)) rfl
  obtain ⟨d18, D18⟩ := cd.def_ 18 (d := (dG "_law_page" s_lpage)) rfl
  obtain ⟨d19, D19⟩ := cd.def_ 19 (d := (dG "_law_number" s_lnumber)) rfl
  obtain ⟨d20, D20⟩ := cd.def_ 20 (d := (dG "_law_slot" s_lslot)) rfl
  obtain ⟨d21, D21⟩ := cd.def_ 21 (d := (dG "_law_read" s_lread)) rfl
  obtain ⟨d22, D22⟩ := cd.def_ 22 (d := (dG "_law_spoilt" s_lspoilt)) rfl
  obtain ⟨d23, D23⟩ := cd.def_ 23 (d := (dG "law" s_law)) rfl
  have g : ∀ {x : Str}, He.Fa.glo x ∈ faH → mg x = some (.ref (He.ga K x)) := fun hx => He.glo_ok X G (cd.facts hx)
  have fr : ∀ {x : Str}, He.Fa.free x ∈ faH → mg x = none := fun hx => He.free_ok X G (cd.facts hx)
  have it : ∀ {x : Str} {i : Int}, He.Fa.int x i ∈ faH → ∃ t, mg x = some (.int i t) := fun hx => He.int_ok X G (cd.facts hx)
  have st : ∀ {x z : Str}, He.Fa.str x z ∈ faH → ∃ t, mg x = some (.str z t) := fun hx => He.str_ok X G (cd.facts hx)
  have e := hfa.symm.trans (g (x := "law") (List.mem_of_getElem? (i := 23) rfl))
  cases e
  obtain ⟨x1, x2⟩ := He.ba c.more
  obtain ⟨x2, x3⟩ := He.ba x2
  have eiB : EIs K (He.ga K "PageError") (csH K) 4 (He.ga K "BadText") := eis_of (i := 4) rfl (cd.facts (List.mem_of_getElem? (i := 55) rfl)) x1
  obtain ⟨bxf, box, bno, biC, btI, bfd, bcc, bcda, bC, bB⟩ := btB_ok (fr (List.mem_of_getElem? (i := 45) rfl)) hb x2
  have eB : EBt K (He.ga K "PageError") (csH K) (He.ga K "BadText") := ⟨eiB, bxf, bno⟩
  have nodup := of_decide_eq_true x3
  have n01 : (He.cT K ("are_values", none)).2 ≠ (He.cT K ("law", none)).2 := fun z => by simp [tfH, z] at nodup
  let T : List (Addr × Str) := [((He.cT K ("law", none)).2, laQ)]
  have hT0 : ∀ p ∈ T, p.1 ≠ (He.cT K ("are_values", none)).2 := fun p hp => by
    rw [List.mem_singleton.mp hp]; exact Ne.symm n01
  have huL : ∀ p ∈ T, p.1 = (He.cT K ("law", none)).2 → p.2 = laQ := fun p hp e => by
    rw [List.mem_singleton.mp hp]
  have B : Blt mg := ⟨fr (List.mem_of_getElem? (i := 34) rfl), fr (List.mem_of_getElem? (i := 35) rfl), fr (List.mem_of_getElem? (i := 36) rfl), fr (List.mem_of_getElem? (i := 37) rfl), fr (List.mem_of_getElem? (i := 38) rfl), fr (List.mem_of_getElem? (i := 39) rfl), fr (List.mem_of_getElem? (i := 40) rfl), fr (List.mem_of_getElem? (i := 41) rfl)⟩
  have Co : CoF mg := ⟨it (List.mem_of_getElem? (i := 46) rfl), it (List.mem_of_getElem? (i := 47) rfl), it (List.mem_of_getElem? (i := 48) rfl), it (List.mem_of_getElem? (i := 49) rfl), it (List.mem_of_getElem? (i := 50) rfl), it (List.mem_of_getElem? (i := 51) rfl)⟩
  have Et : ETab mg (He.ga K "PageError") (csH K) := ⟨g (List.mem_of_getElem? (i := 24) rfl), g (List.mem_of_getElem? (i := 25) rfl), g (List.mem_of_getElem? (i := 26) rfl), g (List.mem_of_getElem? (i := 27) rfl), g (List.mem_of_getElem? (i := 28) rfl), g (List.mem_of_getElem? (i := 29) rfl), g (List.mem_of_getElem? (i := 30) rfl), g (List.mem_of_getElem? (i := 31) rfl), g (List.mem_of_getElem? (i := 32) rfl), g (List.mem_of_getElem? (i := 33) rfl)⟩
  refine ⟨d23, tfH.map (He.cT K), spLaw K T (He.cT K ("are_values", none)).2, ?_, ?_, ?_, ?_, ?_, ?_⟩
  · intro p hp
    obtain ⟨q, hq, e⟩ := List.mem_map.mp hp
    rw [← e]; exact c.empty q hq
  · intro p hp
    obtain ⟨q, hq, e⟩ := List.mem_map.mp hp
    rw [← e]; exact c.out q hq
  · intro p hp
    obtain ⟨q, hq, e⟩ := List.mem_map.mp hp
    rw [← e]; exact PySem.W.codeHd_of_K X (c.hd q hq)
  · exact fun s v => FunD.bindsA (ps := ["_law_script"]) D23 (fun _ _ _ _ _ _ us hl => match us, hl with | [_], _ => rfl) s [v] rfl
  · intro H a ns hl _ hH hS
    have tb : ∀ q ∈ tfH, H (He.cT K q).2 = some (.tbl #[]) := fun q hq => hH _ (List.mem_map.mpr ⟨q, hq, rfl⟩)
    refine ⟨a, ns, rfl, hS, hl, fun p hp => ?_, ⟨#[], tb _ (by simp [tfH]), True.intro⟩, fun _ => rfl⟩
    rw [List.mem_singleton.mp hp]; exact ⟨#[], tb _ (by simp [tfH]), True.intro, fun pos cv hc => by cases hc⟩
  · intro base KB GB hTB
    have TB : ∀ {q}, q ∈ tfH → LamX.TabB base mg (He.codeOf K q) (He.cT K q).2 := fun {q} hq => hTB _ (List.mem_map.mpr ⟨q, hq, rfl⟩)
    have cNum : Cal LP w K mg base CX0 "is_number" ["thing", "low", "high"] 1 (spNum K) := ⟨_, d0, ok_is_number (fun_of D0) B, g (List.mem_of_getElem? (i := 0) rfl), D0.kp, D0.bindsN fun _ _ _ _ _ _ us hl => match us, hl with | [_, _, _], _ => rfl⟩
    have cTup : Cal LP w K mg base CX0 "is_tuple" ["thing", "many"] 1 (spTup K) := ⟨_, d1, ok_is_tuple (fun_of D1) B, g (List.mem_of_getElem? (i := 1) rfl), D1.kp, D1.bindsN fun _ _ _ _ _ _ us hl => match us, hl with | [_, _], _ => rfl⟩
    have cNext : Cal LP w K mg base CX0 "is_next" ["thing"] 2 (spNext K) := ⟨_, d2, ok_is_next (fun_of D2) Co cNum cTup, g (List.mem_of_getElem? (i := 2) rfl), D2.kp, D2.bindsN fun _ _ _ _ _ _ us hl => match us, hl with | [_], _ => rfl⟩
    have cHolds : Cal LP w K mg base CX0 "_holds" ["thing", "least"] 3 (spHolds K) := ⟨_, d3, ok_holds (fun_of D3) B Co cNum cNext, g (List.mem_of_getElem? (i := 3) rfl), D3.kp, D3.bindsN fun _ _ _ _ _ _ us hl => match us, hl with | [_, _], _ => rfl⟩
    have cSlot : Cal LP w K mg base CX0 "is_slot" ["thing"] 4 (spSlot K) := ⟨_, d4, ok_is_slot (fun_of D4) B Co cNum cHolds, g (List.mem_of_getElem? (i := 4) rfl), D4.kp, D4.bindsN fun _ _ _ _ _ _ us hl => match us, hl with | [_], _ => rfl⟩
    have cVals : Cal LP w K mg base CX0 "are_values" ["things"] 3 (spVals K T (He.cT K ("are_values", none)).2) := ⟨_, d5, ok_are_values (func_of (p := ("are_values", none)) D5) (TB (q := ("are_values", none)) (by simp [tfH])) hT0 B Co cNum, g (List.mem_of_getElem? (i := 5) rfl), D5.kp, D5.bindsN fun _ _ _ _ _ _ us hl => match us, hl with | [_], _ => rfl⟩
    have cCells : Cal LP w K mg base CX0 "are_cells" ["thing"] 4 (spCells K T (He.cT K ("are_values", none)).2) := ⟨_, d6, ok_are_cells (fun_of D6) Co cVals cTup, g (List.mem_of_getElem? (i := 6) rfl), D6.kp, D6.bindsN fun _ _ _ _ _ _ us hl => match us, hl with | [_], _ => rfl⟩
    have cRows : Cal LP w K mg base CX0 "rows_of" ["text"] 1 (spRows K T) := ⟨_, d7, ok_rows_of (fun_of D7), g (List.mem_of_getElem? (i := 7) rfl), D7.kp, D7.bindsN fun _ _ _ _ _ _ us hl => match us, hl with | [_], _ => rfl⟩
    have cNumOf : Cal LP w K mg base CX0 "number_of" ["word"] 1 (spNumOf) := ⟨_, d8, ok_number_of (fun_of D8) B (fr (List.mem_of_getElem? (i := 42) rfl)) (it (List.mem_of_getElem? (i := 52) rfl)), g (List.mem_of_getElem? (i := 8) rfl), D8.kp, D8.bindsN fun _ _ _ _ _ _ us hl => match us, hl with | [_], _ => rfl⟩
    have cNums : Cal LP w K mg base CX0 "numbers_of" ["words"] 2 (spNumsOf K T) := ⟨_, d9, ok_numbers_of (fun_of D9) B cNumOf, g (List.mem_of_getElem? (i := 9) rfl), D9.kp, D9.bindsN fun _ _ _ _ _ _ us hl => match us, hl with | [_], _ => rfl⟩
    have cNextOf : Cal LP w K mg base CX0 "_next_of" ["word"] 3 (spNextOf K T) := ⟨_, d13, ok_next_of (fun_of D13) (st (List.mem_of_getElem? (i := 53) rfl)) cNums, g (List.mem_of_getElem? (i := 13) rfl), D13.kp, D13.bindsN fun _ _ _ _ _ _ us hl => match us, hl with | [_], _ => rfl⟩
    have cCellsOf : Cal LP w K mg base CX0 "_cells_of" ["row"] 3 (spCellsOf2 K T) := ⟨_, d11, ok_cells_of2 (fun_of D11) (st (List.mem_of_getElem? (i := 54) rfl)) cNums, g (List.mem_of_getElem? (i := 11) rfl), D11.kp, D11.bindsN fun _ _ _ _ _ _ us hl => match us, hl with | [_], _ => rfl⟩
    have cSlotOf : Cal LP w K mg base CX0 "_slot_of" ["row"] 4 (spSlotOf K T) := ⟨_, d12, ok_slot_of (fun_of D12) cNums cNextOf, g (List.mem_of_getElem? (i := 12) rfl), D12.kp, D12.bindsN fun _ _ _ _ _ _ us hl => match us, hl with | [_], _ => rfl⟩
    have U : BtF LP w K mg base (He.ga K "BadText") (He.fAd K btP) bfd := ⟨g (List.mem_of_getElem? (i := 29) rfl), box, biC, btI, ok_btinit bC, bB⟩
    have cRead : Cal LP w K mg base (L2.CX _ w) "read" ["text"] 5 (spRead K T (He.cT K ("are_values", none)).2 (He.ga K "BadText")) := ⟨_, d10, ok_read (fun_of D10) B Co (fr (List.mem_of_getElem? (i := 43) rfl)) U cRows cSlotOf cCellsOf cSlot cCells, g (List.mem_of_getElem? (i := 10) rfl), D10.kp, D10.bindsN fun _ _ _ _ _ _ us hl => match us, hl with | [_], _ => rfl⟩
    have cBegun : Cal LP w K mg base CX0 "_law_begun" ["_law_script"] 1 (spBegun K T) := ⟨_, d14, ok_begun (fun_of D14) B, g (List.mem_of_getElem? (i := 14) rfl), D14.kp, D14.bindsN fun _ _ _ _ _ _ us hl => match us, hl with | [_], _ => rfl⟩
    have cTake : Cal LP w K mg base CX0 "_law_take" ["_law_box", "_law_many"] 1 (spTake T) := ⟨_, d15, ok_take (fun_of D15), g (List.mem_of_getElem? (i := 15) rfl), D15.kp, D15.bindsN fun _ _ _ _ _ _ us hl => match us, hl with | [_, _], _ => rfl⟩
    have bAl : Binds K d16 ["_law_found", "_law_due"] [] := D16.bindsN fun _ _ _ _ _ _ us hl => match us, hl with | [_, _], _ => rfl
    have cAl : ∀ n, Cal LP w K mg base CX0 "_law_alike" ["_law_found", "_law_due"] n (spAl K n) := fun n => ⟨_, d16, ok_alike (fun_of D16) B (fr (List.mem_of_getElem? (i := 42) rfl)) (g (List.mem_of_getElem? (i := 16) rfl)) bAl n, g (List.mem_of_getElem? (i := 16) rfl), D16.kp, bAl⟩
    have cTold : Cal LP w K mg base CX0 "_law_told" ["_law_work"] 7 (spToldB _ w K mg base T (He.ga K "PageError") (csH K) 6) := ⟨_, d17, ok_toldB (fun_of D17) B (fr (List.mem_of_getElem? (i := 44) rfl)) Et, g (List.mem_of_getElem? (i := 17) rfl), D17.kp, D17.bindsN fun _ _ _ _ _ _ us hl => match us, hl with | [_], _ => rfl⟩
    have cPg : Cal LP w K mg base CX0 "_law_page" ["_law_box"] 2 (spPg T) := ⟨_, d18, ok_lpage (fun_of D18) B (fr (List.mem_of_getElem? (i := 42) rfl)) cTake, g (List.mem_of_getElem? (i := 18) rfl), D18.kp, D18.bindsN fun _ _ _ _ _ _ us hl => match us, hl with | [_], _ => rfl⟩
    have cLN : Cal LP w K mg base CX0 "_law_number" ["_law_word", "_law_most"] 1 (spLNum T) := ⟨_, d19, ok_lnumber (fun_of D19) B (fr (List.mem_of_getElem? (i := 42) rfl)), g (List.mem_of_getElem? (i := 19) rfl), D19.kp, D19.bindsN fun _ _ _ _ _ _ us hl => match us, hl with | [_, _], _ => rfl⟩
    have cLS : Cal LP w K mg base CX0 "_law_slot" ["_law_words"] 2 (spLSlot K T) := ⟨_, d20, ok_lslot (fun_of D20) B cLN, g (List.mem_of_getElem? (i := 20) rfl), D20.kp, D20.bindsN fun _ _ _ _ _ _ us hl => match us, hl with | [_], _ => rfl⟩
    have cLR : Cal LP w K mg base CX0 "_law_read" ["_law_text"] 3 (spLRead K T) := ⟨_, d21, ok_lread (fun_of D21) B cLN cLS, g (List.mem_of_getElem? (i := 21) rfl), D21.kp, D21.bindsN fun _ _ _ _ _ _ us hl => match us, hl with | [_], _ => rfl⟩
    have cSp : Cal LP w K mg base CX0 "_law_spoilt" ["_law_box", "_law_text"] 2 (spSpoilt T) := ⟨_, d22, ok_lspoilt (fun_of D22) B cTake, g (List.mem_of_getElem? (i := 22) rfl), D22.kp, D22.bindsN fun _ _ _ _ _ _ us hl => match us, hl with | [_, _], _ => rfl⟩
    exact ok_law (func_of (p := ("law", none)) D23) (TB (q := ("law", none)) (by simp [tfH])) (by simp [T]) huL B eB cBegun cTake cPg cSp cLR (cAl 6) cTold cRead
end GX
open PySem PySem.W PySem.Calls PyProof.Rows
set_option maxRecDepth 100000
set_option maxHeartbeats 0 in
theorem PySem.Challenge.cw_slotpages_k18_texts_of_no_pages_holds : PySem.Challenge.rw_slotpages_k18_texts_of_no_pages.Holds := by
  w_on; o_law
  refine HandSHeadRun.head_any (r := OpenLaw.row PySem.Challenge.rw_slotpages_k18_texts_of_no_pages) (q := view (OpenLaw.row PySem.Challenge.rw_slotpages_k18_texts_of_no_pages).prog [48]) (H := GX.hkH) (ob := GX.obH) (M := 60000) (loose := GX.looseH) (d := HandSHeadRun.topDef (OpenLaw.row PySem.Challenge.rw_slotpages_k18_texts_of_no_pages).prog 48) (kwd := []) GX.obH_eq
    (by kernel_rfl) (fun s => by kernel_rfl) GX.runH (by kernel_rfl) (by kernel_rfl) (by kernel_rfl) (by rfl) (by first | assumption | decide +kernel) (by decide +kernel) ⟨rfl, rfl, rfl, rfl, rfl, by decide +kernel⟩ ?hw ?hc
  case hw => w_witness2
  case hc =>
    refine LamX.walk_ofTsE (l := PySem.Challenge.rw_slotpages_k18_texts_of_no_pages) (n := 63) (k := 8) (x := "_law_script") (CX := fun _ => L2.CX0) rfl (by decide) (by kernel_rfl) ⟨rfl, by decide, by decide⟩ ?F (fun _ _ _ _ _ z => z)
    intro w mg fa h Y G hmg0
    obtain ⟨K, KX, c, hb⟩ := Y
    have hmg : mg ("law" : PySem.Str) = some (.ref fa) := by
      have e : (HandSHeadRun.topDef (OpenLaw.row PySem.Challenge.rw_slotpages_k18_texts_of_no_pages).prog 48).name = ("law" : PySem.Str) := by kernel_rfl
      rw [← e]
      exact hmg0
    exact ⟨K, KX, GX.law_at KX G hmg c hb⟩

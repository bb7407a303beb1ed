import PyProof.Rows.All
import Wide.All
import OpenK.AllK
import Wide.FinOn
import HandS.AnyAll
import HandS.GenBody
import HandS.GenCall
import HandS.GenList
import HandS.GenOver
import HandS.ForMost
import HandS.Deep
import HandS.Walk
import KE.KDictKeyed
import KE.KDictWalk
import HandS.TupAny
import HandS.Conv
import HandS.IsInst
import HandS.Style
import HandS.Wide
import HandS.SortRule
import KE.SortData
import KE.DataMinMax
import KE.GoesEnum
import HandS.Zip
import HandS.SetFor
import HandS.EndTab
import HandS.EndOwn
import HandS.Gcd
import KE.KMathGC
import OpenK.KMore
import KE.KIndexOf
import HandS.TupSets
import KE.DataCmp
import HandS.TupMul
import KE.KTupSum
import KE.KDictDisplayH
import HandS.CallLocal
import KE.OsMinMax
import KE.KDictCopyH
import KE.KDictSum
import KE.SortCalls
import PySem.Challenge.RW_starlands_k38_across_distances
import KE.Datum
set_option Elab.async false
set_option linter.all false
set_option maxRecDepth 90000
set_option maxHeartbeats 3900000
/-! all(..) of a generator expression over anything that a for walks, its element any expression that gives a bool -/
namespace LG
open PySem PySem.Spec PyProof.Rows L2
/-- the generator expression's own scope: no cells; captured names are cells of the def; its own names have places -/
structure GOk (N : List Str) (sc scope : Scope) (own : List (Str × Nat)) : Prop where
  blk : BlkOk N sc scope own
  nocell : ∀ y ∈ scope.names, y.2 ≠ NameKind.cell
  dot : scope.names.lookup (".0" : Str) = some NameKind.local
  co : scope.isCoroutine = false
abbrev gAr (X : Cx) (gE : Expr) (it : Value) (ge : Env) : Around := (X.A.in1.in1).over (.compLoop gE 0 it .none ge) []
/-- the context in which a turn of the generator runs -/
abbrev gcx (X : Cx) (s : Shared) (H : Hp) (scope : Scope) (A' : Around) (ge : Env) (fp : List Addr) : Cx :=
  { X with A := A', s_0 := s, H_0 := H, env := ge, outer := X.stack, stack := ge :: X.stack, ex := fp, fn := fun x => scope.names.lookup x == some .cell, pn := [], xe := fun _ _ => False }
abbrev gEnvOf (X : Cx) (scope : Scope) (C : Addr) (code : Value) : Env := genEnv scope (cloFrom X.env.cells scope.names []) C code builtinsNs X.env
section
variable {X : Cx} {pins : List (Addr × Obj)} {σ : L2.St} {H : Hp} {s : Shared}
theorem gAr_frames {elt : Expr} {gs : List Comprehension} {scope : Scope} {gp : Pos} {it : Value} {ge : Env} {l : List Env} (h : X.A.frames = some l) : (gAr X (.GeneratorExp elt gs scope gp) it ge).frames = some (ge :: l) := by
  have h2 : X.A.in1.in1.frames = some l := h
  simp [gAr, Around.over, envsOf, pushEnvs, Code.envs, Code.isFrame, h2]
  rw [h]
  rfl
theorem gen_start {scope : Scope} {own : List (Str × Nat)} {fp : List Addr} {A' : Around} {code : Value} {h' : Heap} {m0 : Str → Option Value} {g' : Array GenState} {tk : Nat}
    (I : Inv X pins σ H s) (ok : GOk X.N X.env.scope scope own) (hN : X.N.Nodup) (hfp : ∀ b ∈ fp, FpOk X pins H b ∧ b < s.heap.objs.size)
    (hA : A'.handled = X.A.handled) (hF : A'.frames = some (gEnvOf X scope s.heap.objs.size code :: X.stack))
    (hk : ∀ b o, s.heap.get? b = some o → h'.get? b = some o) (hns : h'.Ns s.heap.objs.size m0) (hg : AllBare g') :
    Inv (gcx X s H scope A' (gEnvOf X scope s.heap.objs.size code) fp) [] (wipe σ (own.map (·.2))) H { s with heap := h', gens := g', toks := tk } := by
  have captured : ∀ {y c}, (gEnvOf X scope s.heap.objs.size code).cells.lookup y = some c → X.env.cells.lookup y = some c := fun {y c} e => by
    rcases cloFrom_mem (PySem.mem_of_lookup (show (cloFrom X.env.cells scope.names []).lookup y = some c from e)) with hm | ⟨h1, rfl⟩
    · cases hm
    · obtain ⟨c, hc⟩ : ∃ c, X.env.cells.lookup y = some c := by
        rcases ok.blk.free _ h1 rfl with q | q
        · exact I.ok.has _ (.inl q)
        · exact I.ok.has _ (.inr q)
      rw [hc]
      rfl
  have cellOld : ∀ {y c}, (gEnvOf X scope s.heap.objs.size code).cells.lookup y = some c → c < s.heap.objs.size := fun {y c} e => by
    obtain ⟨v, z⟩ := I.cell _ _ (captured e)
    exact z.lt
  have found : ∀ {y}, scope.names.lookup y = some .free → ∃ c, (gEnvOf X scope s.heap.objs.size code).cells.lookup y = some c ∧ X.env.cells.lookup y = some c := fun {y} hl => by
    obtain ⟨c, e⟩ := mem_lookup (cloFrom_has (cells := X.env.cells) (acc := []) (PySem.mem_of_lookup hl))
    exact ⟨c, e, captured e⟩
  have notCell : ∀ {y}, scope.names.lookup y ≠ some .cell := fun {y} e => ok.nocell _ (PySem.mem_of_lookup e) rfl
  have okG : (gcx X s H scope A' (gEnvOf X scope s.heap.objs.size code) fp).Ok := by
    refine ⟨I.ok.mod, ok.blk.kind, I.ok.glob, rfl, Nat.le_refl _, fun y z c e1 e2 => I.ok.inj y z c (captured e1) (captured e2), fun y hy => ?_, fun y c z e => ?_, fun hc => hA.trans (I.ok.hd hc), hF, .inr ⟨rfl, rfl⟩, fun b hb => ⟨Nat.ne_of_lt (hfp b hb).2, fun y c e z => (hfp b hb).1.2.2.2.2.1 y c (captured e) z⟩, I.bs, Nat.le_trans I.ok.bsz I.sz, fun b o e hb => ?_, fun b hb z => ?_, I.stack, I.stkFree⟩
    · rcases hy with hy | hy
      · exact absurd hy notCell
      · obtain ⟨c, e, _⟩ := found hy
        exact ⟨c, e⟩
    · have z' : (scope.names.lookup y == some NameKind.cell) = true := z
      exact absurd (by simpa using z') (notCell (y := y))
    · rcases (hfp b hb).1.2.2.2.1 with z | z
      · exact I.ok.noex b o e z
      · have lt := Nat.lt_of_lt_of_le (Heap.lt_size e) (Nat.le_trans I.ok.bsz z)
        exact absurd lt (Nat.lt_irrefl _)
    · rcases List.mem_cons.mp (I.stkSub b z) with q | q
      · exact (hfp b hb).1.2.1 q
      · exact (hfp b hb).1.2.2.1 q
  refine ⟨okG, rfl, hg, Un.kept hk, ⟨m0, hns, fun i y av e1 e2 e3 => ?_⟩, fun y c e => ?_, I.hok.fresh (Nat.le_refl _), fun y c e => I.freeC y c (captured e), fun p hp => absurd (show p ∈ ([] : List (Addr × Obj)) ++ [] from hp) (by simp), I.hok.kept hk, by rw [wipe_length]; exact I.len⟩
  · obtain ⟨e2, hne⟩ := wipe_some e2
    have hfr : scope.names.lookup y = some .free := by
      have no : ∀ k, scope.names.lookup y = some k → ¬ (k = .local ∨ k = .cell) := fun k e hh => by
        rcases ok.blk.own _ (PySem.mem_of_lookup e) hh with q | q
        · obtain ⟨p, hp, hpy⟩ := List.mem_map.mp q
          have ei := ok.blk.ix p hp
          rw [show p.1 = y from hpy] at ei
          exact hne (List.mem_map.mpr ⟨p, hp, nodup_ix hN ei e1⟩)
        · exact q (List.mem_of_getElem? e1)
      rcases e3 with e3 | e3 | e3
      · exact absurd (.inl rfl) (no _ e3)
      · exact absurd (.inr rfl) (no _ e3)
      · exact e3
    obtain ⟨m, hn, hl⟩ := I.loc
    have vis : Vis X.env.scope y := by
      rcases ok.blk.free _ (PySem.mem_of_lookup hfr) rfl with k | k
      · exact .inr (.inl k)
      · exact .inr (.inr k)
    obtain ⟨u, r, q⟩ := hl i y av e1 e2 vis
    obtain ⟨c, h1, h2⟩ := found hfr
    refine ⟨u, r, .inr ⟨.inr hfr, c, h1, ?_⟩⟩
    rcases q with ⟨k, _⟩ | ⟨_, c', e', z⟩
    · have k : X.env.scope.names.lookup y = some .local := k
      rcases ok.blk.free _ (PySem.mem_of_lookup hfr) rfl with k' | k'
      · rw [show X.env.scope.names.lookup y = _ from k'] at k
        cases k
      · rw [show X.env.scope.names.lookup y = _ from k'] at k
        cases k
    · rw [h2] at e'
      cases e'
      exact z.keeps hk
  · obtain ⟨w, z⟩ := I.cell y c (captured e)
    exact ⟨w, z.keeps hk⟩
/-! ### the turns -/
/-- what is fixed through the turns: n of them; Pv ahead of each; Qf behind a false one, Qt behind the last -/
structure Plan (G : Cx) (vs : List Nat) (σ0 : L2.St) (tg elt : Expr) (J : It) (fp : List Addr) (it : Addr) (tn : Nat → Heap → Prop) (a : Addr) (go : Obj) (n : Nat) (Pv : Nat → Hp → Prop) (Qf Qt : Hp → Prop) : Prop where
  calm : G.calm = true
  turn : Turn G.prog G.w G.K tg J fp it tn
  hand : G.A.handled = none
  ng : ∀ b ∈ fp, a ≠ b
  step : ∀ i H, i < n → Pv i H → J.go i H
  ends : ∀ H, Pv n H → J.stop n H ∧ Qt H
  xex : G.ex = fp
  xpn : G.pn = []
  co : G.env.scope.isCoroutine = false
  body : ∀ i (H H' : Hp) (x : V) (s : Shared) (u : Value) (pins : List (Addr × Obj)) (E : Value → Shared → Prop), i < n → Pv i H → J.yld i H x H' → Inv G pins σ0 H' s → RelV x u →
    wpAny (model G.prog G.w) G.A (assign tg G.env u) (fun _ s2 => wpAny (model G.prog G.w) G.A (eval elt G.env) (fun y s3 => ∃ (b : Bool) (H3 : Hp), y = .bool b ∧ Inv G pins σ0 H3 s3 ∧ (b = true → Pv (i + 1) H3) ∧ (b = false → Qf H3)) E s2) E s
section
variable {G : Cx} {vs : List Nat} {σ0 : L2.St} {tg elt iter : Expr} {J : It} {fp : List Addr} {it a : Addr} {tn : Nat → Heap → Prop} {go : Obj} {n gn : Nat} {Pv : Nat → Hp → Prop} {Qf Qt : Hp → Prop} {A1 : Around} {scope : Scope} {gp : Pos}
/-- between two turns -/
def Mid (G : Cx) (σ0 : L2.St) (fp : List Addr) (tn : Nat → Heap → Prop) (a : Addr) (go : Obj) (gn i : Nat) (P : Hp → Prop) (s : Shared) : Prop :=
  ∃ H, Inv G [(a, go)] σ0 H s ∧ tn i s.heap ∧ (∀ b ∈ fp, H b = none) ∧ gn < s.gens.size ∧ P H
theorem inv_gens {G : Cx} {pins : List (Addr × Obj)} {σ0 : L2.St} {H : Hp} {s s' : Shared} (I : Inv G pins σ0 H s) (eh : s'.heap = s.heap) (eo : s'.os = s.os) (eb : AllBare s'.gens) : Inv G pins σ0 H s' := by
  refine ⟨I.ok, eo.trans I.os, eb, ?_, ?_, ?_, I.free, I.freeC, ?_, ?_, I.len⟩
  · rw [eh]; exact I.base
  · rw [eh]; exact I.loc
  · rw [eh]; exact I.cell
  · rw [eh]; exact I.pin
  · rw [eh]; exact I.hok
theorem Mid.gens {i : Nat} {P : Hp → Prop} {s s' : Shared} (h : Mid G σ0 fp tn a go gn i P s) (eh : s'.heap = s.heap) (eo : s'.os = s.os) (eb : AllBare s'.gens) (es : gn < s'.gens.size) : Mid G σ0 fp tn a go gn i P s' := by
  obtain ⟨H, I, t, f, g, p⟩ := h
  exact ⟨H, inv_gens I eh eo eb, by rw [eh]; exact t, f, es, p⟩
def yP (G : Cx) (σ0 : L2.St) (fp : List Addr) (tn : Nat → Heap → Prop) (a : Addr) (go : Obj) (gn n : Nat) (Pv : Nat → Hp → Prop) (Qf : Hp → Prop) : Protocol := fun m _ v s kap =>
  ∃ (i : Nat) (b : Bool), v = .bool b ∧ i < n ∧ i + m = n ∧ (b = false → Mid G σ0 fp tn a go gn (i + 1) Qf s) ∧
    (b = true → Mid G σ0 fp tn a go gn (i + 1) (Pv (i + 1)) s ∧ ∀ s'' : Shared, s''.heap = s.heap → s''.os = s.os → AllBare s''.gens → gn < s''.gens.size → kap (.send .none) s'')
def rP (G : Cx) (σ0 : L2.St) (fp : List Addr) (tn : Nat → Heap → Prop) (a : Addr) (go : Obj) (gn : Nat) (Qt : Hp → Prop) : Nat → Shared → Shared → Prop := fun m _ s => m = 1 ∧ ∃ H, Inv G [(a, go)] σ0 H s ∧ gn < s.gens.size ∧ Qt H
theorem fpok {σ' : L2.St} {H' : Hp} {s' : Shared} (P : Plan G vs σ0 tg elt J fp it tn a go n Pv Qf Qt) (I' : Inv G [(a, go)] σ' H' s') (hn : ∀ b ∈ fp, H' b = none) : ∀ b ∈ fp, FpOk G [(a, go)] H' b := fun b hb => by
  have hx : b ∈ G.ex := by rw [P.xex]; exact hb
  refine ⟨hn b hb, (I'.ok.exf b hx).1, I'.ok.exfs b hx, .inl hx, fun x c e => (I'.ok.exf b hx).2 x c e, fun p hp => ?_⟩
  rw [P.xpn] at hp
  have e : p = (a, go) := by simpa using hp
  rw [e]
  exact P.ng b hb
theorem seg_turns (P : Plan G vs σ0 tg elt J fp it tn a go n Pv Qf Qt) (hA : A1.over (.compLoop (.GeneratorExp elt [⟨tg, iter, [], 0⟩] scope gp) 0 (.ref it) .none G.env) [] = G.A) :
    ∀ (k i : Nat) (s₀ s : Shared), n - i = k → i ≤ n → Mid G σ0 fp tn a go gn i (Pv i) s →
      Seg (model G.prog G.w) A1 (fun m s₀ r s₁ => r = .ok .next ∧ rP G σ0 fp tn a go gn Qt m s₀ s₁) (yP G σ0 fp tn a go gn n Pv Qf) (n - i + 1) s₀
        (.compLoop (.GeneratorExp elt [⟨tg, iter, [], 0⟩] scope gp) 0 (.ref it) .none G.env)
        ((model G.prog G.w).den (.compLoop (.GeneratorExp elt [⟨tg, iter, [], 0⟩] scope gp) 0 (.ref it) .none G.env)) [] s := by
  intro k
  induction k with
  | zero =>
    intro i s₀ s hk hi ⟨H, I, ht, hf, hg, hp⟩
    have hin : i = n := by omega
    subst hin
    show Seg _ A1 _ _ _ s₀ _ ((compTurn (.GeneratorExp elt [⟨tg, iter, [], 0⟩] scope gp) 0 (.ref it) .none G.env).onRaise (leaving G.env)) [] s
    rw [compTurn_gen, Sem.onRaise_eq_wrap]
    refine seg_bind_wrap (wpAny_standAt ?_)
    refine seg_bind_wrap ?_
    rw [hA]
    refine GenW.wpAny_gsz (n := gn + 1) hg ?_
    refine wpAny_mono (P.turn.done G rfl rfl rfl P.calm i _ s _ H (fun _ _ => False) I (fpok P I hf) ht (P.ends H hp).1) (fun r s1 ⟨hr, I1⟩ hsz => ?_) fun _ _ z => z.elim
    subst hr
    refine seg_end (.ok .next) ⟨rfl, by omega, H, I1, hsz, (P.ends H hp).2⟩
  | succ k ih =>
    intro i s₀ s hk hi ⟨H, I, ht, hf, hg, hp⟩
    have hlt : i < n := by omega
    obtain ⟨m, hm⟩ : ∃ m, n - i = m + 1 := ⟨n - i - 1, by omega⟩
    rw [hm]
    show Seg _ A1 _ _ _ s₀ _ ((compTurn (.GeneratorExp elt [⟨tg, iter, [], 0⟩] scope gp) 0 (.ref it) .none G.env).onRaise (leaving G.env)) [] s
    rw [compTurn_gen, Sem.onRaise_eq_wrap]
    refine seg_bind_wrap (wpAny_standAt ?_)
    refine seg_bind_wrap ?_
    rw [hA]
    refine GenW.wpAny_gsz (n := gn + 1) hg ?_
    refine wpAny_mono (P.turn.item G rfl rfl rfl P.calm i _ s _ H (fun _ _ => False) I (fpok P I hf) ht (P.step i H hlt hp)) (fun r s1 ⟨u, hr, h1⟩ hs1 => ?_) fun _ _ z => z.elim
    subst hr
    refine seg_bind_wrap ?_
    rw [hA]
    refine GenW.wpAny_gsz (n := gn + 1) hs1 ?_
    refine wpAny_mono h1 (fun _ s2 ⟨x, H2, I2, r2, y2, t2, f2⟩ hs2 => ?_) fun _ _ z => z.elim
    refine seg_bind_wrap ?_
    rw [hA]
    have I2p := I2.pinned (fpok P I2 f2) (P.turn.obj _ _ t2)
    refine GenW.wpAny_gsz (n := gn + 1) hs2 ?_
    refine wpAny_mono (P.body i H H2 x s2 u _ (fun _ _ => False) hlt hp y2 I2p r2) (fun _ s3 h3 hs3 => ?_) fun _ _ z => z.elim
    refine seg_bind_wrap (wpAny_tests_nil ?_)
    simp only [if_true]
    have hy : ∀ v, yieldOut G.env v = yieldValue v := fun v => by simp only [yieldOut, P.co, Bool.false_eq_true, if_false]
    simp only [hy]
    rw [Sem.bind_eq_wrap', Sem.bind_eq_wrap', Sem.wrap_wrap, Sem.wrap_wrap]
    refine seg_wrap ?_
    rw [hA]
    refine GenW.wpAny_gsz (n := gn + 1) hs3 ?_
    refine wpAny_mono h3 (fun y s4 ⟨b, H4, e4, I4, pt, pf⟩ hs4 => ?_) fun _ _ z => z.elim
    subst e4
    have pin' : ∀ c ∈ fp, ∀ o, s2.heap.get? c = some o → s4.heap.get? c = some o ∧ H4 c = none := fun c hc o e =>
      let z := I4.pin (c, o) (List.mem_append_right _ (List.mem_append_right _ (mem_pinsAt hc e)))
      ⟨z.1, z.2.1⟩
    have mid : ∀ (Q : Hp → Prop), Q H4 → Mid G σ0 fp tn a go gn (i + 1) Q s4 := fun Q q =>
      ⟨H4, I4.unpinned, P.turn.keep _ _ _ t2 fun c hc o e => (pin' c hc o e).1, fun c hc => by
        obtain ⟨o, e, _⟩ := P.turn.obj _ _ t2 c hc
        exact (pin' c hc o e).2, hs4, q⟩
    refine seg_at (seg_yield rfl rfl rfl ⟨i, b, rfl, hlt, by omega, fun hb => mid Qf (pf hb), fun hb => ⟨mid _ (pt hb), fun s'' e1 e2 e3 e4 => ?_⟩⟩)
    refine seg_again rfl ?_
    have em : m + 1 = n - (i + 1) + 1 := by omega
    rw [em]
    exact ih (i + 1) s'' s'' (by omega) hlt ((mid _ (pt hb)).gens e1 e2 e3 e4)
theorem seg_first (P : Plan G vs σ0 tg elt J fp it tn a go n Pv Qf Qt) (hA : A1.over (.compLoop (.GeneratorExp elt [⟨tg, iter, [], 0⟩] scope gp) 0 (.ref it) .none G.env) [] = G.A)
    (s₀ s : Shared) (h : Mid G σ0 fp tn a go gn 0 (Pv 0) s) :
    Seg (model G.prog G.w) A1 (fun m s₀ r s₁ => r = .ok .next ∧ rP G σ0 fp tn a go gn Qt m s₀ s₁) (yP G σ0 fp tn a go gn n Pv Qf) (n + 1) s₀
      (.compStart (.GeneratorExp elt [⟨tg, iter, [], 0⟩] scope gp) 0 (.ref it) .none G.env)
      ((model G.prog G.w).den (.compStart (.GeneratorExp elt [⟨tg, iter, [], 0⟩] scope gp) 0 (.ref it) .none G.env)) [] s := by
  have loop := seg_turns (iter := iter) (scope := scope) (gp := gp) P hA n 0 s₀ s (Nat.sub_zero _) (Nat.zero_le _) h
  rw [Nat.sub_zero] at loop
  obtain ⟨H, I, ht, _⟩ := h
  show Seg _ A1 _ _ _ s₀ _ ((compStart (.GeneratorExp elt [⟨tg, iter, [], 0⟩] scope gp) 0 (.ref it) .none G.env).onRaise (leaving G.env)) [] s
  unfold compStart
  rw [Sem.onRaise_eq_wrap]
  show Seg _ A1 _ _ _ s₀ _ ((ask >>= _).wrap _ _ _ _) [] s
  refine seg_bind_wrap (wpAny_askSetting ?_)
  split
  · exact seg_again rfl loop
  · refine seg_bind_wrap (wpAny_rule ?_)
    show Seg _ A1 _ _ _ s₀ _ ((standAt iter.pos >>= _).wrap _ _ _ _) [] s
    refine seg_bind_wrap (wpAny_standAt ?_)
    exact seg_bind_wrap (P.turn.self _ 0 _ _ _ ht (seg_again rfl loop))
/-- asleep ahead of turn i -/
def Asleep (G : Cx) (σ0 : L2.St) (fp : List Addr) (tn : Nat → Heap → Prop) (a : Addr) (go : Obj) (gn n : Nat) (Pv : Nat → Hp → Prop) (Qf Qt : Hp → Prop) (A1 : Around) (i : Nat) (s : Shared) : Prop :=
  Mid G σ0 fp tn a go gn i (Pv i) s ∧ ∃ gs, s.gens[gn]? = some gs ∧ ∀ s'' : Shared, s''.heap = s.heap → s''.os = s.os → AllBare s''.gens → gn < s''.gens.size →
    gs.Goes (model G.prog G.w) A1 (fun m s₀ r s₁ => r = .ok .next ∧ rP G σ0 fp tn a go gn Qt m s₀ s₁) (yP G σ0 fp tn a go gn n Pv Qf) (n - i + 1) (.send .none) s''
theorem size_setGen (s : Shared) (g : Nat) (x : GenState) : (s.setGen g x).gens.size = s.gens.size := by simp [Shared.setGen]
theorem all_turns {A0 : Around} {R : Result → Shared → Prop} (hA1 : A1 = A0.in1.in1) (h0 : A0.handled = none) (hd : A0.depth < recursionLimit) (hgo : ∀ h : Heap, h.get? a = some go → h.IsGen a gn)
    (hf : ∀ H s, Inv G [(a, go)] σ0 H s → Qf H → R (.ok (.ret (.bool false))) s) (ht : ∀ H s, Inv G [(a, go)] σ0 H s → Qt H → R (.ok (.ret (.bool true))) s)
    (hkeep : ∀ H s h', Inv G [(a, go)] σ0 H s → (∀ b o, s.heap.get? b = some o → h'.get? b = some o) → Inv G [(a, go)] σ0 H { s with heap := h' }) :
    ∀ (k i : Nat) (s : Shared), n - i = k → i ≤ n → Asleep G σ0 fp tn a go gn n Pv Qf Qt A1 i s → codeAny (model G.prog G.w) A0 (.builtin "all.loop" ⟨[.ref a], []⟩) R s := by
  intro k
  induction k with
  | zero =>
    intro i s hk hi ⟨⟨H, I, t, f, g, p⟩, gs, hgs, hgoes⟩
    refine codeAny_builtin F.entry_all_loop ?_
    rw [Around.under_plainId F.plain_all_loop _]
    show wpAny _ A0.in1 (pyNext (.ref a) >>= _) _ _ s
    have pin := I.pin (a, go) (List.mem_append_right _ (by simp))
    have goes := hgoes (s.setGen gn .running) rfl rfl (allBare_setGen I.bare rfl) (by rw [size_setGen]; exact g)
    rw [hk, hA1] at goes
    refine wpAny_bind (wpAny_pyNext_genexpQ (P := rP G σ0 fp tn a go gn Qt) (show A0.in1.handled = none from h0) I.nolimit (show A0.in1.depth < recursionLimit from hd) (hgo _ pin.1) hgs goes (fun v s₁ gs' _ hv => ?_) (fun s₁ hp h' hk' => ?_))
    · obtain ⟨j, b, _, e1, e2, _⟩ := hv
      exfalso
      omega
    · obtain ⟨_, H1, I1, g1, q1⟩ := hp
      refine wpAny_bind (wpAny_rule (wpAny_pure ?_))
      have I2 : Inv G [(a, go)] σ0 H1 (s₁.setGen gn .finished) := inv_gens I1 rfl rfl (allBare_setGen I1.bare rfl)
      exact ht H1 _ (hkeep _ _ _ I2 hk') q1
  | succ k ih =>
    intro i s hk hi ⟨⟨H, I, t, f, g, p⟩, gs, hgs, hgoes⟩
    refine codeAny_builtin F.entry_all_loop ?_
    rw [Around.under_plainId F.plain_all_loop _]
    show wpAny _ A0.in1 (pyNext (.ref a) >>= _) _ _ s
    have pin := I.pin (a, go) (List.mem_append_right _ (by simp))
    have goes := hgoes (s.setGen gn .running) rfl rfl (allBare_setGen I.bare rfl) (by rw [size_setGen]; exact g)
    rw [hk, hA1] at goes
    refine wpAny_bind (wpAny_pyNext_genexpQ (P := rP G σ0 fp tn a go gn Qt) (show A0.in1.handled = none from h0) I.nolimit (show A0.in1.depth < recursionLimit from hd) (hgo _ pin.1) hgs goes (fun v s₁ gs' hbare hv => ?_) (fun s₁ hp h' hk' => ?_))
    · obtain ⟨j, b, rfl, e1, e2, hvf, hvt⟩ := hv
      refine wpAny_bind (wpAny_holding (wpAny_truthy_bool ?_))
      refine wpAny_bind (wpAny_letGo ?_)
      cases b with
      | false =>
        simp only [Bool.false_eq_true, if_false]
        refine wpAny_bind (wpAny_rule (wpAny_pure ?_))
        obtain ⟨H1, I1, _, _, g1, q1⟩ := hvf rfl
        exact hf H1 _ (inv_gens I1 rfl rfl (allBare_setGen I1.bare hbare)) q1
      | true =>
        simp only [if_true]
        obtain ⟨md, kap⟩ := hvt rfl
        have ej : j = i := by omega
        subst ej
        have bare1 : AllBare (s₁.setGen gn gs').gens := by
          obtain ⟨_, I1, _⟩ := md
          exact allBare_setGen I1.bare hbare
        have sz1 : gn < s₁.gens.size := by
          obtain ⟨_, _, _, _, g1, _⟩ := md
          exact g1
        refine wpAny_pure ⟨plainId_quiet F.plain_all_loop _, ih (j + 1) _ (by omega) (by omega) ⟨md.gens rfl rfl bare1 (by rw [size_setGen]; exact sz1), gs', setGen_at sz1, fun s'' e1 e2 e3 e4 => ?_⟩⟩
        have kk := kap s'' e1 e2 e3 e4
        have en : n - (j + 1) + 1 = k + 1 := by omega
        rw [en, hA1]
        exact kk
    · exact absurd hp.1 (by omega)
end
end
end LG
namespace LG
open PySem PySem.Spec PyProof.Rows L2 GxR
/-- all(e for x in ..): P the table of the def's code -/
def tAllG (wi : TI) (g : TG) (te : TE) (P : Addr) (vs : List Nat) : TE := fun σ H Q => wi σ H fun J H1 => TabG H1 P ∧ ∀ H2, Tabbed P H1 H2 → ∃ (n : Nat) (Pv : Nat → Hp → Prop), Pv 0 H2 ∧
  (∀ i H, i < n → Pv i H → J.go i H ∧ ∀ x H', J.yld i H x H' → g x (wipe σ vs) H' fun σ2 H3 => wipe σ2 vs = wipe σ vs ∧ te σ2 H3 fun y H4 => ∃ b, y = .bl b ∧ (b = true → Pv (i + 1) H4) ∧ (b = false → Q (.bl false) H4)) ∧
  ∀ H, Pv n H → J.stop n H ∧ Q (.bl true) H
theorem room_g {X : Cx} {k : Nat} (hr : Room (k + 1) X.A) {gE : Expr} {it : Value} {ge : Env} (h1 : (gAr X gE it ge).handled = X.A.handled) (h2 : (gAr X gE it ge).depth = X.A.depth + 1) (h3 : (gAr X gE it ge).units = X.A.units + 5) : Room k (gAr X gE it ge) := by
  refine ⟨by rw [h1]; exact hr.hd, ?_, ?_⟩
  · rw [h2]
    have := hr.dp
    omega
  · rw [h3]
    have := hr.un
    omega
theorem call_all_gen {X : Cx} {A1 : Around} {pins : List (Addr × Obj)} {σ : L2.St} {H4 : Hp} {s4 s5 : Shared} {G : Cx} {vs : List Nat} {tg elt iter : Expr} {scope : Scope} {gp : Pos} {J : It} {fp : List Addr} {it a : Addr} {tn : Nat → Heap → Prop} {go : Obj} {n gn : Nat} {Pv : Nat → Hp → Prop} {Q : VK}
    (eP : G.prog = X.prog) (ew : G.w = X.w) (eH : G.H_0 = H4) (es : G.s_0 = s4) (eo : G.outer = X.stack) (hr : X.A.handled = none) (hd : X.A.depth < recursionLimit)
    (P : Plan G vs (wipe σ vs) tg elt J fp it tn a go n Pv (Q (.bl false)) (Q (.bl true))) (hA : X.A.in1.in1.over (.compLoop (.GeneratorExp elt [⟨tg, iter, [], 0⟩] scope gp) 0 (.ref it) .none G.env) [] = G.A)
    (I4 : Inv X pins σ H4 s4) (hch : ∀ b ∈ fp, (b ∈ X.ex ∨ X.s_0.heap.objs.size ≤ b) ∧ b ≠ X.env.locals ∧ (∀ x c, X.env.cells.lookup x = some c → c ≠ b) ∧ ∀ p ∈ X.pn ++ pins, p.1 ≠ b)
    (hgo : ∀ h : Heap, h.get? a = some go → h.IsGen a gn) (hgs : s5.gens[gn]? = some (.fresh (.compStart (.GeneratorExp elt [⟨tg, iter, [], 0⟩] scope gp) 0 (.ref it) .none G.env))) (h : Mid G (wipe σ vs) fp tn a go gn 0 (Pv 0) s5) :
    wpAny (model X.prog X.w) X.A (call (.builtin "all") [.ref a]) (EP X pins σ Q) X.xe s5 := by
  refine call_function_tree F.kind_all F.plain_all F.entry_all (F.args_all1 _) ?_
  unfold Builtin.«all»
  refine wpAny_bind (m := oneArg "all" _) (wpAny_pure ?_)
  obtain ⟨H, I, ht, hf, hg, hp⟩ := id h
  have pin := I.pin (a, go) (List.mem_append_right _ (by simp))
  refine wpAny_bind (wpAny_pyIter_gen (hgo _ pin.1) ?_)
  refine wpAny_pure ⟨plainId_quiet F.plain_all_loop _, ?_⟩
  have back : ∀ (b : Bool) (H' : Hp) (s' : Shared), Inv G [(a, go)] (wipe σ vs) H' s' → Q (.bl b) H' → EP X pins σ Q (.bool b) s' := fun b H' s' I' q => by
    have un : Un (frs X.stack) fp H4 H' s4.heap s'.heap := by
      have u := I'.base
      rw [eH, es, P.xex] at u
      rw [← eo]
      exact u
    have os : s'.os = s4.os := by
      rw [← es]
      exact I'.os
    have ok : HOk X.prog X.w H' s'.heap := by
      rw [← eP, ← ew]
      exact I'.hok
    exact ⟨.bl b, H', I4.call' (ch := fp) os un ok I'.bare hch, rfl, q⟩
  have run := all_turns (G := G) (σ0 := wipe σ vs) (fp := fp) (tn := tn) (a := a) (go := go) (n := n) (gn := gn) (Pv := Pv) (Qf := Q (.bl false)) (Qt := Q (.bl true)) (A1 := X.A.in1.in1) (A0 := X.A)
    (R := fun r s' => match r with | .ok (.ret v) => EP X pins σ Q v s' | .ok _ => False | .error e => X.xe e s') rfl hr hd hgo (fun H' s' I' q => back false H' s' I' q) (fun H' s' I' q => back true H' s' I' q)
    (fun H' s' h' I' k => I'.kept (t' := s'.toks) k) n 0 s5 (Nat.sub_zero _) (Nat.zero_le _) ⟨h, _, hgs, fun s'' e1 e2 e3 e4 => ⟨rfl, ?_⟩⟩
  · rw [eP, ew] at run
    exact run
  · rw [Nat.sub_zero]
    exact seg_first P hA s'' s'' (h.gens e1 e2 e3 e4)
theorem pe_allG {X : Cx} {c P : Addr} {elt iter tg : Expr} {p pos gpos : Pos} {scope : Scope} {own : List (Str × Nat)} {wi : TI} {g : TG} {te : TE} {k : Nat}
    (hc : X.calm = true) (hN : X.N.Nodup) (hr : Room (k + 1) X.A) (hg : Gl X "all") (hm : X.mg "all" = none) (TB : TabB X.base X.mg c P) (hcode : X.env.code = .ref c) (ok : GOk X.N X.env.scope scope own) (hi : PI X tg iter wi)
    (pg : ∀ (s : Shared) (H : Hp) (A' : Around) (C : Addr) (code : Value) (fp : List Addr), PG (gcx X s H scope A' (gEnvOf X scope C code) fp) tg g)
    (pe : ∀ (s : Shared) (H : Hp) (A' : Around) (C : Addr) (code : Value) (fp : List Addr), Room k A' → PE (gcx X s H scope A' (gEnvOf X scope C code) fp) elt te)
    (hs : ∀ v, genFold iter X.env v = pure v := by intro _; rfl) (hb : bootBuiltins "all" = some (.builtin "all") := by decide +kernel)
    (he : starEach [.GeneratorExp elt [⟨tg, iter, [], 0⟩] scope gpos] X.env = (false, eval (.GeneratorExp elt [⟨tg, iter, [], 0⟩] scope gpos) X.env) :: starEach [] X.env := by rfl) :
    PE X (.Call (.Name "all" p) [.GeneratorExp elt [⟨tg, iter, [], 0⟩] scope gpos] [] pos) (tAllG wi g te P (own.map (·.2))) := by
  refine ⟨fun pins s σ H Q I h => ?_⟩
  refine wpAny_Call_Name_kw (ld_blt I hg hm hb ?_)
  refine PyProof.Rows.callWith_builtin1 ?_ he (by rfl)
  rw [he]
  show wpAny _ _ (spliced ((false, eval (.GeneratorExp elt [⟨tg, iter, [], 0⟩] scope gpos) X.env) :: backTo pos (starEach [] X.env))) _ _ s
  refine Calls.spliced_cons ?_
  have captured : ∀ y ∈ scope.names, y.2 = .free → ∃ c, X.env.cells.lookup y.1 = some c := fun y hy e => by
    rcases ok.blk.free y hy e with q | q
    · exact I.ok.has _ (.inl q)
    · exact I.ok.has _ (.inr q)
  refine wpAny_GeneratorExp_make ok.co (closure_ok captured) ok.nocell ok.dot ok.blk.kind (by have := hr.dp; omega) ?_ hs
  refine thn (hi.run pins s σ H _ I h) fun xv s1 hx => thn hx fun itv s2 ⟨it, fp, tn, J, H2, e, I2, T, st2, f2, hT, q⟩ => ?_
  subst e
  refine ⟨I2.nolimit, ?_⟩
  obtain ⟨ps, hP, htri⟩ := hT
  have hPs : s2.heap.get? P = some { cls := .none, data := .fields ps } := I2.hok P _ hP
  have nP : ∀ b, H2 b = none → b ≠ P := fun b e z => by
    rw [z, hP] at e
    cases e
  have cd : PySem.W.CodeHd s2.heap c P := TB.code.keeps fun b u e => I2.bk b u e
  have cont : ∀ (code : Value) (h3 : Heap) (tk : Nat) (more : Array Value), Heap.ExtBut P s2.heap h3 → h3.get? P = some { cls := .none, data := .fields (ps ++ more) } → TriplesOk (ps ++ more).toList →
      wpAny (model X.prog X.w) X.A (builtinsFor X.env.globals X.env.builtins) (fun bi s₄ => ∀ h' : Heap, h'.Ns s₄.heap.objs.size (fun y => if y = ".0" then some (.ref it) else none) → Heap.SameBut s₄.heap.objs.size (s₄.heap.push { cls := .type "frame", data := .dict #[] }) h' →
        wpAny (model X.prog X.w) X.A (spliced (backTo pos (starEach [] X.env))) (fun vs s₂ => wpAny (model X.prog X.w) X.A (call (.builtin "all") (.ref h'.objs.size :: vs)) (EP X pins σ Q) X.xe s₂) X.xe
          { s₄ with gens := s₄.gens.push (.fresh (.compStart (.GeneratorExp elt [⟨tg, iter, [], 0⟩] scope gpos) 0 (.ref it) .none (genEnv scope (cloFrom X.env.cells scope.names []) s₄.heap.objs.size code bi X.env))), toks := s₄.toks + 1 + 1 + 1,
                    heap := h'.push { cls := .type "generator", data := .fields #[.int s₄.gens.size 0, .str "<genexpr>" (s₄.toks + 1), .str (X.env.qual ++ "<genexpr>") (s₄.toks + 1 + 1)] } }) X.xe { s2 with heap := h3, toks := tk } := by
    intro code h3 tk more hx hP3 ht3
    obtain ⟨bm, ob, e1, e2, e3, e4, e5, e6, e7, e8⟩ := TB.bm
    refine wpAny_builtinsFor (m := X.mg) (by rw [I2.ok.glob]; exact (I2.mod.glob.keeps I2.bk).extBut hx TB.gP) e1 e2 (hx _ _ e4 (I2.bk _ _ e5)) e6 e7 e8 ?_
    intro h' hns hsame
    refine Calls.spliced_nil ?_
    have I4 : Inv X pins σ (upd H2 P (.tbl (ps ++ more))) { s2 with heap := h3, toks := tk } := inv_tab (g' := s2.gens) (d' := s2.drawn) I2 hP (fun b o hb e => hx b o hb e) hP3 I2.bare
    have tb : Tabbed P H2 (upd H2 P (.tbl (ps ++ more))) := ⟨⟨_, upd_same, ht3⟩, fun b hb => upd_ne hb⟩
    obtain ⟨n, Pv, p0, pstep, pend⟩ := q _ tb
    generalize upd H2 P (.tbl (ps ++ more)) = H4 at I4 tb p0
    generalize hs4 : ({ s2 with heap := h3, toks := tk } : Shared) = s4 at I4 hns hsame ⊢
    have hh4 : s4.heap = h3 := by rw [← hs4]
    have st4 : tn 0 s4.heap := T.keep _ _ _ st2 fun b hb o e => by
      rw [hh4]
      exact hx b o (nP b (f2 b hb).1) e
    have sz4 : ∀ b ∈ fp, b < s4.heap.objs.size := fun b hb => by
      obtain ⟨o, e, _⟩ := T.obj _ _ st4 b hb
      exact Heap.lt_size e
    have f4 : ∀ b ∈ fp, FpOk X pins H4 b ∧ b < s4.heap.objs.size := fun b hb => by
      refine ⟨⟨?_, (f2 b hb).2⟩, sz4 b hb⟩
      rw [tb.2 b (nP b (f2 b hb).1)]
      exact (f2 b hb).1
    have keep4 : ∀ b o, s4.heap.get? b = some o → h'.get? b = some o := fun b o e => by
      have lt := Heap.lt_size e
      rw [hsame.2 b (Nat.ne_of_lt lt)]
      exact Heap.get?_push_of_some _ e
    have szh : h'.objs.size = s4.heap.objs.size + 1 := by rw [hsame.1, Heap.size_push]
    generalize hgo : ({ cls := .type "generator", data := .fields #[.int s4.gens.size 0, .str "<genexpr>" (s4.toks + 1), .str (X.env.qual ++ "<genexpr>") (s4.toks + 1 + 1)] } : Obj) = go
    have kgo : ∀ b o, s4.heap.get? b = some o → (h'.push go).get? b = some o := fun b o e => Heap.get?_push_of_some _ (keep4 b o e)
    have nsgo : (h'.push go).Ns s4.heap.objs.size (fun y => if y = ".0" then some (.ref it) else none) := hns.keeps fun b o e => Heap.get?_push_of_some _ e
    generalize hge : gEnvOf X scope s4.heap.objs.size code = ge
    have hge' : genEnv scope (cloFrom X.env.cells scope.names []) s4.heap.objs.size code builtinsNs X.env = ge := hge
    rw [hge']
    have geC : ge.locals = s4.heap.objs.size := by
      rw [← hge]
      rfl
    have gfree : go.isFreed = false := by
      rw [← hgo]
      rfl
    have I5 := gen_start (A' := gAr X (.GeneratorExp elt [⟨tg, iter, [], 0⟩] scope gpos) (.ref it) ge) (code := code) (h' := h'.push go) (g' := s4.gens.push (.fresh (.compStart (.GeneratorExp elt [⟨tg, iter, [], 0⟩] scope gpos) 0 (.ref it) .none ge))) (tk := s4.toks + 1 + 1 + 1)
      I4 ok hN f4 rfl (by rw [hge]; exact gAr_frames I4.ok.frames) kgo nsgo (I4.bare.push rfl)
    have pg' := pg s4 H4 (gAr X (.GeneratorExp elt [⟨tg, iter, [], 0⟩] scope gpos) (.ref it) ge) s4.heap.objs.size code fp
    have pe' := pe s4 H4 (gAr X (.GeneratorExp elt [⟨tg, iter, [], 0⟩] scope gpos) (.ref it) ge) s4.heap.objs.size code fp (room_g hr rfl rfl rfl)
    rw [hge] at I5 pg' pe'
    have aC : h'.objs.size ≠ s4.heap.objs.size := by
      rw [szh]
      exact Nat.succ_ne_self _
    have aOld : ∀ b, b < s4.heap.objs.size → h'.objs.size ≠ b := fun b hb z => by
      rw [← z, szh] at hb
      exact absurd hb (Nat.not_lt.mpr (Nat.le_succ _))
    have fpa : ∀ b ∈ [h'.objs.size], FpOk (gcx X s4 H4 scope (gAr X (.GeneratorExp elt [⟨tg, iter, [], 0⟩] scope gpos) (.ref it) ge) ge fp) [] H4 b := fun b hb => by
      have eb : b = h'.objs.size := by simpa using hb
      rw [eb]
      refine ⟨I4.hok.fresh (by rw [szh]; exact Nat.le_succ _), by show h'.objs.size ≠ ge.locals; rw [geC]; exact aC, fun z => ?_, .inr (by show s4.heap.objs.size ≤ _; rw [szh]; exact Nat.le_succ _), fun x c e => ?_, fun p hp => absurd (show p ∈ ([] : List (Addr × Obj)) ++ [] from hp) (by simp)⟩
      · rcases List.mem_cons.mp (I4.stkSub _ z) with q | q
        · exact aOld _ I4.lt q
        · exact I4.nofs (by rw [szh]; exact Nat.le_succ _) q
      · obtain ⟨v, z⟩ := I5.cell x c e
        have hcl : c < s4.heap.objs.size := by
          rw [← hge] at e
          rcases cloFrom_mem (PySem.mem_of_lookup (show (cloFrom X.env.cells scope.names []).lookup x = some c from e)) with hm | ⟨h1, rfl⟩
          · cases hm
          · obtain ⟨c', hc'⟩ := captured _ h1 rfl
            rw [hc']
            obtain ⟨v', z'⟩ := I4.cell _ _ hc'
            exact z'.lt
        exact (aOld c hcl).symm
    have I6 := I5.pinned fpa (fun b hb => by
      have eb : b = h'.objs.size := by simpa using hb
      rw [eb]
      refine ⟨go, Heap.get?_push_size _ gfree, fun v z => ?_⟩
      rw [← hgo] at z
      cases z)
    have epin : ([] : List (Addr × Obj)) ++ pinsAt [h'.objs.size] (h'.push go) = [(h'.objs.size, go)] := by
      unfold pinsAt
      rw [List.filterMap_cons, Heap.get?_push_size _ gfree]
      rfl
    rw [epin] at I6
    have un4 : ∀ b ∈ fp, (b ∈ X.ex ∨ X.s_0.heap.objs.size ≤ b) ∧ b ≠ X.env.locals ∧ (∀ x c, X.env.cells.lookup x = some c → c ≠ b) ∧ ∀ p ∈ X.pn ++ pins, p.1 ≠ b := fun b hb =>
      ⟨(f4 b hb).1.2.2.2.1, (f4 b hb).1.2.1, (f4 b hb).1.2.2.2.2.1, (f4 b hb).1.2.2.2.2.2⟩
    refine call_all_gen (A1 := X.A) (G := gcx X s4 H4 scope (gAr X (.GeneratorExp elt [⟨tg, iter, [], 0⟩] scope gpos) (.ref it) ge) ge fp) (vs := own.map (·.2)) (J := J) (fp := fp) (it := it) (tn := tn) (go := go) (n := n) (gn := s4.gens.size) (Pv := Pv) (iter := iter) (scope := scope) (gp := gpos) (s4 := s4)
      rfl rfl rfl rfl rfl hr.hd (by have := hr.dp; omega) ⟨hc, T, hr.hd, fun b hb => aOld b (sz4 b hb), fun i H' hi hp => (pstep i H' hi hp).1, pend, rfl, rfl, by show ge.scope.isCoroutine = false; rw [← hge]; exact ok.co, ?_⟩ rfl I4 un4 (fun h e => ⟨go, _, _, e, by rw [← hgo], by rw [← hgo], by rw [← hgo]⟩) ?_
      ⟨H4, I6, T.keep _ _ _ st4 fun b _ o e => kgo b o e, fun b hb => (f4 b hb).1.1, ?_, p0⟩
    · intro i Ha Hb x sA u pinsA E hi hp hy IA ru
      refine wpAny_mono (pg'.run pinsA sA _ Hb x u _ IA ru ((pstep i Ha hi hp).2 x Hb hy)) (fun _ sB ⟨σB, HB, IB, ew, qB⟩ => ?_) fun _ _ z => z.elim
      refine wpAny_mono (pe'.run pinsA sB σB HB _ IB qB) (fun y sC ⟨v, HC, IC, rC, b, ev, hT, hF⟩ => ?_) fun _ _ z => z.elim
      subst ev
      refine ⟨b, HC, rC, IC.weak ?_ (fun j v e => ?_), hT, hF⟩
      · have l1 := wipe_length σ (own.map (·.2))
        have l2 := wipe_length σB (own.map (·.2))
        rw [ew] at l2
        omega
      · rw [← ew] at e
        exact (wipe_some e).1
    · show (s4.gens.push _)[s4.gens.size]? = _
      simp
    · show s4.gens.size < (s4.gens.push _).size
      rw [Array.size_push]
      exact Nat.lt_succ_self _
  cases hf : codeAmong gpos ps.toList with
  | none =>
    refine wpAny_genexprCodeX hcode (cd.code hPs htri) (cd.tab hPs) hf fun c' h' tk hx hge hlt hco' _ htab' _ => ?_
    obtain ⟨o1, vs, f1, tf, fl, tg', inF, tx, tt, op, _, _, _, _, _, _, _, _, _, htr, _⟩ := hco'
    exact cont _ h' tk _ hx htab'.2 htr
  | some cv =>
    refine wpAny_genexprCode_hit hcode (cd.code hPs htri) hf ?_
    have := cont cv s2.heap s2.toks #[] (Heap.ExtBut.refl _ _) (by simpa using hPs) (by simpa using htri)
    exact this
end LG
/-! Plain data over the hand layer: what an expression, a statement, a def makes of plain data, as a function -/
namespace PD
open PySem PySem.Spec PyProof.Rows L2 GxR
/-! ### dicts: keys that are tuples of ints, None and such tuples -/
/-- a key without texts -/
inductive Plk : NestedKey → Prop
  | none : Plk .none
  | num (i : Int) : Plk (.num i)
  | tup {ks : List NestedKey} : (∀ k ∈ ks, Plk k) → Plk (.tup ks)
/-- an entry as it lies in the heap -/
def dEnt (w : World) (q : NestedKey × Addr × Value) : DictEntry := ⟨q.1.hash w, .ref q.2.1, q.2.2⟩
/-- .. and its value without tokens -/
def DeR (p : NestedKey × Addr × V) (q : NestedKey × Addr × Value) : Prop := p.1 = q.1 ∧ p.2.1 = q.2.1 ∧ RelV p.2.2 q.2.2
/-- the object of a dict -/
def DctO (a : Addr) (xs : List (NestedKey × Addr × V)) : Heap → Prop := fun h => (a == sysModules) = false ∧ xs.length ≤ sizeLine ∧ (xs.map (·.1)).Nodup ∧ (∀ x ∈ xs, Plk x.1 ∧ x.1.depth ≤ 8) ∧ ∃ (w : World) (us : List (NestedKey × Addr × Value)) (o : Obj) (es : Array DictEntry) (ep : Nat),
  Paired DeR xs us ∧ h.get? a = some o ∧ o.ExactDict ∧ o.data = .dict es ep ∧ es.toList = us.map (dEnt w)
abbrev DkO (a : Addr) (xs : List (NestedKey × Addr × V)) : HO := .ext (DctO a xs)
mutual
def keyD : PyData → Option NestedKey
  | .none => some .none
  | .int i => some (.num i)
  | .tuple ds => (keysD ds).map .tup
  | _ => none
def keysD : List PyData → Option (List NestedKey)
  | [] => some []
  | d :: ds => match keyD d with
    | some k => (keysD ds).map (k :: ·)
    | none => none
end
mutual
/-- data, dicts too -/
inductive Dz (K : PySem.W.Frag) (H : Hp) : V → PyData → Prop
  | non : Dz K H .non .none
  | bl (b : Bool) : Dz K H (.bl b) (.bool b)
  | int (i : Int) : Dz K H (.int i) (.int i)
  | str (x : Str) : Dz K H (.str x) (.str x)
  | lst {a : Addr} {xs : List V} {ds : List PyData} : SqL K H a xs → DzAll K H xs ds → Dz K H (.ref a) (.list ds)
  | tup {a : Addr} {xs : List V} {ds : List PyData} : SqT K H a xs → DzAll K H xs ds → Dz K H (.ref a) (.tuple ds)
  | dct {a : Addr} {xs : List (NestedKey × Addr × V)} {kvs : List (PyData × PyData)} : H a = some (DkO a xs) → DzKv K H xs kvs → Dz K H (.ref a) (.dict kvs)
inductive DzAll (K : PySem.W.Frag) (H : Hp) : List V → List PyData → Prop
  | nil : DzAll K H [] []
  | cons {v : V} {vs : List V} {d : PyData} {ds : List PyData} : Dz K H v d → DzAll K H vs ds → DzAll K H (v :: vs) (d :: ds)
inductive DzKv (K : PySem.W.Frag) (H : Hp) : List (NestedKey × Addr × V) → List (PyData × PyData) → Prop
  | nil : DzKv K H [] []
  | cons {k : NestedKey} {a : Addr} {v : V} {xs : List (NestedKey × Addr × V)} {dk d : PyData} {kvs : List (PyData × PyData)} : keyD dk = some k → Dz K H (.ref a) dk → Dz K H v d → DzKv K H xs kvs → DzKv K H ((k, a, v) :: xs) ((dk, d) :: kvs)
end
/-! ### data stay -/
theorem sqT_same {K : PySem.W.Frag} {F G : Hp} {a : Addr} {xs : List V} (e : Same F G) (h : SqT K F a xs) : SqT K G a xs := by
  rcases h with (h | ⟨o, h⟩) | h
  · exact .inl (.inl (e _ _ h))
  · exact .inl (.inr ⟨o, e _ _ h⟩)
  · exact .inr h
mutual
theorem dp_same {K : PySem.W.Frag} {F G : Hp} (e : Same F G) : ∀ {v : V} {d : PyData}, Dz K F v d → Dz K G v d
  | _, _, .non => .non
  | _, _, .bl b => .bl b
  | _, _, .int i => .int i
  | _, _, .str x => .str x
  | _, _, .lst h hs => .lst (e.seq h) (dpAll_same e hs)
  | _, _, .tup h hs => .tup (sqT_same e h) (dpAll_same e hs)
  | _, _, .dct h hs => .dct (e _ _ h) (dpKv_same e hs)
theorem dpAll_same {K : PySem.W.Frag} {F G : Hp} (e : Same F G) : ∀ {vs : List V} {ds : List PyData}, DzAll K F vs ds → DzAll K G vs ds
  | _, _, .nil => .nil
  | _, _, .cons h hs => .cons (dp_same e h) (dpAll_same e hs)
theorem dpKv_same {K : PySem.W.Frag} {F G : Hp} (e : Same F G) : ∀ {xs : List (NestedKey × Addr × V)} {kvs : List (PyData × PyData)}, DzKv K F xs kvs → DzKv K G xs kvs
  | _, _, .nil => .nil
  | _, _, .cons q h1 h2 hs => .cons q (dp_same e h1) (dp_same e h2) (dpKv_same e hs)
end
mutual
/-- no dict within -/
def nod : PyData → Bool
  | .dict _ => false
  | .list xs => nodAll xs
  | .tuple xs => nodAll xs
  | _ => true
def nodAll : List PyData → Bool
  | [] => true
  | x :: xs => nod x && nodAll xs
end
mutual
theorem nod_lay : ∀ d : PyData, d.canLay0 = true → nod d = true
  | .none, _ => by simp [nod]
  | .bool _, _ => by simp [nod]
  | .int _, _ => by simp [nod]
  | .str _, _ => by simp [nod]
  | .list xs, h => by
    rw [nod]
    exact nodAll_lay xs (by simpa [PyData.canLay0] using h)
  | .tuple xs, h => by
    rw [nod]
    exact nodAll_lay xs (by simpa [PyData.canLay0] using h)
  | .dict _, h => nomatch h
theorem nodAll_lay : ∀ xs : List PyData, PyData.canLayAll0 xs = true → nodAll xs = true
  | [], _ => by simp [nodAll]
  | x :: xs, h => by
    have h' := Bool.and_eq_true_iff.mp (by simpa [PyData.canLayAll0] using h)
    rw [nodAll, nod_lay x h'.1, nodAll_lay xs h'.2]
    rfl
end
mutual
/-- data without dicts, as the library has it -/
theorem dz_N {K : PySem.W.Frag} {F : Hp} : ∀ {v : V} {d : PyData}, Dz K F v d → nod d = true → L2.Dp K F v d
  | _, _, .non, _ => .non
  | _, _, .bl b, _ => .bl b
  | _, _, .int i, _ => .int i
  | _, _, .str x, _ => .str x
  | _, _, .lst h hs, c => .lst h (dzAll_N hs (by rw [nod] at c; exact c))
  | _, _, .tup h hs, c => .tup h (dzAll_N hs (by rw [nod] at c; exact c))
  | _, _, .dct h hs, c => by rw [nod] at c; cases c
theorem dzAll_N {K : PySem.W.Frag} {F : Hp} : ∀ {vs : List V} {ds : List PyData}, DzAll K F vs ds → nodAll ds = true → L2.DpAll K F vs ds
  | _, _, .nil, _ => .nil
  | _, _, .cons h hs, c => by
    rw [nodAll] at c
    have c' := Bool.and_eq_true_iff.mp c
    exact .cons (dz_N h c'.1) (dzAll_N hs c'.2)
end
theorem dz_L {K : PySem.W.Frag} {F : Hp} {v : V} {d : PyData} (h : Dz K F v d) (c : d.canLay0 = true) : L2.Dp K F v d := dz_N h (nod_lay d c)
section
variable {K : PySem.W.Frag} {F : Hp}
theorem dpAll_len : ∀ {vs : List V} {ds : List PyData}, DzAll K F vs ds → vs.length = ds.length
  | _, _, .nil => rfl
  | _, _, .cons _ h => congrArg (· + 1) (dpAll_len h)
theorem dpAll_at : ∀ {vs : List V} {ds : List PyData} {i : Nat} {d : PyData}, DzAll K F vs ds → ds[i]? = some d → ∃ v, vs[i]? = some v ∧ Dz K F v d
  | _, _, _, _, .nil, e => by cases e
  | _, _, 0, _, .cons h _, e => by cases e; exact ⟨_, rfl, h⟩
  | _, _, i + 1, v, .cons _ h, e => dpAll_at (i := i) h e
theorem dpAll_app : ∀ {vs us : List V} {ds es : List PyData}, DzAll K F vs ds → DzAll K F us es → DzAll K F (vs ++ us) (ds ++ es)
  | _, _, _, _, .nil, h => h
  | _, _, _, _, .cons a b, h => .cons a (dpAll_app b h)
theorem dpAll_take : ∀ {vs : List V} {ds : List PyData} (n : Nat), DzAll K F vs ds → DzAll K F (vs.take n) (ds.take n)
  | _, _, 0, _ => .nil
  | _, _, _ + 1, .nil => .nil
  | _, _, n + 1, .cons a b => .cons a (dpAll_take n b)
theorem dpAll_drop : ∀ {vs : List V} {ds : List PyData} (n : Nat), DzAll K F vs ds → DzAll K F (vs.drop n) (ds.drop n)
  | _, _, 0, h => h
  | _, _, _ + 1, .nil => .nil
  | _, _, n + 1, .cons a b => dpAll_drop n b
theorem dpAll_set : ∀ {vs : List V} {ds : List PyData} (n : Nat) {v : V} {d : PyData}, DzAll K F vs ds → Dz K F v d → DzAll K F (vs.set n v) (ds.set n d)
  | _, _, _, _, _, .nil, _ => .nil
  | _, _, 0, _, _, .cons a b, h => .cons h b
  | _, _, n + 1, _, _, .cons a b, h => .cons a (dpAll_set n b h)
theorem dpAll_ints : ∀ {vs : List V} {ns : List Int}, DzAll K F vs (ns.map PyData.int) → vs = ns.map V.int
  | [], [], _ => rfl
  | _, [], h => by cases h; rfl
  | _, n :: ns, .cons h hs => by
    cases h
    rw [dpAll_ints hs]
    rfl
theorem ints_dpAll : ∀ (ns : List Int), DzAll K F (ns.map V.int) (ns.map PyData.int)
  | [] => .nil
  | n :: ns => .cons (.int n) (ints_dpAll ns)
end
/-! ### slots -/
/-- what a slot holds: nothing that is known; data; a list of the def's own; the list that the def was handed to change -/
inductive Sl where
  | un | dat (d : PyData) | own (ds : List PyData) | io (ds : List PyData) | dic (kvs : List (PyData × PyData)) | fn (n : Nat)
abbrev Ev := List Sl
/-- a value: data, or the list in a slot -/
inductive Ob where
  | d (x : PyData) | s (i : Nat)
/-- what is fixed through a def's run -/
structure Co where
  K : PySem.W.Frag
  T : List Addr
  H0 : Hp
  F0 : Hp
  io : List Addr
  /-- the defs that the def was handed -/
  fv : List Addr
/-- an object with nothing besides its data -/
def PlT (o : Obj) : Prop := o.dict = none ∧ o.slots = #[]
/-- a tuple among the data is known to be so -/
def TFo : HO → Prop
  | .tup _ => False
  | .frz o (.tup _) => PlT o
  | _ => True
structure TF (K : PySem.W.Frag) (F : Hp) : Prop where
  a : ∀ b o, F b = some o → TFo o
  k : ∀ b o, K.lookup b = some o → o.cls = .type "tuple" → PlT o
theorem TF.lst {K : PySem.W.Frag} {F : Hp} {a : Addr} {vs : List V} (h : TF K F) : TF K (upd F a (.lst vs)) :=
  ⟨fun b o e => by
    by_cases hb : b = a
    · rw [hb, upd_same] at e
      cases e
      trivial
    · rw [upd_ne hb] at e
      exact h.a b o e, h.k⟩
theorem TF.dict {K : PySem.W.Frag} {F : Hp} {a : Addr} {vs : List V} (h : TF K F) (q : SqT K F a vs) : (∃ o, F a = some (.frz o (.tup vs)) ∧ PlT o) ∨ ∃ o, K.lookup a = some o ∧ o.cls = .type "tuple" ∧ PlT o := by
  rcases q with (q | ⟨o, q⟩) | ⟨o, its, n, q, hc, _⟩
  · exact (h.a _ _ q).elim
  · exact .inl ⟨o, q, h.a _ _ q⟩
  · exact .inr ⟨o, q, hc, h.k _ _ q hc⟩
def vAt (σ : L2.St) (i : Nat) : Option V := (σ[i]?).join
theorem vAt_eq {σ : L2.St} {i : Nat} {v : V} (h : vAt σ i = some v) : σ[i]? = some (some v) := by
  unfold vAt at h
  cases e : σ[i]? with
  | none => rw [e] at h; cases h
  | some o => rw [e] at h; cases o with
    | none => cases h
    | some w => cases h; rfl
theorem vAt_set {σ : L2.St} {i : Nat} {v : V} (h : i < σ.length) : vAt (σ.set i (some v)) i = some v := by
  unfold vAt
  rw [List.getElem?_set_self h]
  rfl
theorem vAt_ne {σ : L2.St} {i j : Nat} {v : Option V} (h : i ≠ j) : vAt (σ.set i v) j = vAt σ j := by
  unfold vAt
  rw [List.getElem?_set_ne h]
def SlOk (c : Co) (F H : Hp) (v : Option V) : Sl → Prop
  | .un => True
  | .fn n => ∃ a, c.fv[n]? = some a ∧ v = some (.ref a)
  | .dat d => ∃ x, v = some x ∧ Dz c.K F x d
  | .own ds => ∃ a vs, v = some (.ref a) ∧ H a = some (.lst vs) ∧ DzAll c.K F vs ds ∧ F a = none ∧ a ∉ c.T ∧ c.H0 a = none
  | .io ds => ∃ a vs, c.io = [a] ∧ v = some (.ref a) ∧ H a = some (.lst vs) ∧ DzAll c.K F vs ds ∧ F a = none ∧ a ∉ c.T
  | .dic kvs => ∃ a xs, v = some (.ref a) ∧ H a = some (DkO a xs) ∧ DzKv c.K F xs kvs ∧ F a = none ∧ a ∉ c.T ∧ c.H0 a = none
structure Rl (c : Co) (F H : Hp) (σ : L2.St) (ρ : Ev) : Prop where
  len : σ.length = ρ.length
  sub : Same F H
  ft : ∀ P ∈ c.T, F P = none
  tb : ∀ P ∈ c.T, TabG H P
  mono : Same c.F0 F
  fr : ∀ b o, c.H0 b = some o → b ∉ c.T → b ∉ c.io → H b = some o
  ioh : ∀ a ∈ c.io, c.H0 a ≠ none ∧ a ∉ c.T ∧ F a = none ∧ ∃ vs, H a = some (.lst vs)
  sl : ∀ i sl, ρ[i]? = some sl → SlOk c F H (vAt σ i) sl
  dj : ∀ (i j : Nat) a ds es, ρ[i]? = some (Sl.own ds) → ρ[j]? = some (Sl.own es) → vAt σ i = some (.ref a) → vAt σ j = some (.ref a) → i = j
  iu : ∀ (i j : Nat) ds es, ρ[i]? = some (Sl.io ds) → ρ[j]? = some (Sl.io es) → i = j
  nw : ∀ a, c.H0 a ≠ none → c.F0 a = none → F a = none
  tf : TF c.K F
  dk : ∀ (i j : Nat) a ds es, ρ[i]? = some (Sl.dic ds) → ρ[j]? = some (Sl.dic es) → vAt σ i = some (.ref a) → vAt σ j = some (.ref a) → i = j
/-- the heap has grown; what is new in F is new in H -/
structure Xt (F H F' H' : Hp) : Prop where
  f : Same F F'
  s : Same F' H'
  h : Same H H'
  n : ∀ a, H a ≠ none → F a = none → F' a = none
  t : ∀ b o, F' b = some o → F b = some o ∨ TFo o
theorem Xt.refl {F H : Hp} (s : Same F H) : Xt F H F H := ⟨Same.refl _, s, Same.refl _, fun _ _ e => e, fun _ _ e => .inl e⟩
theorem Xt.tf {K : PySem.W.Frag} {F H F' H' : Hp} (x : Xt F H F' H') (h : TF K F) : TF K F' := ⟨fun b o e => (x.t b o e).elim (h.a b o) id, h.k⟩
theorem Xt.trans {F H F1 H1 F2 H2 : Hp} (a : Xt F H F1 H1) (b : Xt F1 H1 F2 H2) : Xt F H F2 H2 :=
  ⟨a.f.trans b.f, b.s, a.h.trans b.h, fun p h1 h2 => b.n p (fun z => by
    cases e : H p with
    | none => exact h1 e
    | some o => rw [a.h p o e] at z; cases z) (a.n p h1 h2), fun p o e => (b.t p o e).elim (a.t p o) .inr⟩
/-- a new object -/
theorem Xt.new {F H : Hp} {p : Addr} {o : HO} (s : Same F H) (hp : H p = none) (ho : TFo o := by trivial) : Xt F H (upd F p o) (upd H p o) := by
  have fp : F p = none := s.free hp
  refine ⟨fun b x e => ?_, fun b x e => ?_, fun b x e => ?_, fun a h1 h2 => ?_, fun b x e => ?_⟩
  · rw [upd_ne (ne_of_none e fp)]
    exact e
  · by_cases hb : b = p
    · rw [hb, upd_same] at e ⊢
      exact e
    · rw [upd_ne hb] at e ⊢
      exact s _ _ e
  · rw [upd_ne (ne_of_none e hp)]
    exact e
  · have : a ≠ p := fun z => h1 (by rw [z]; exact hp)
    rw [upd_ne this]
    exact h2
  · by_cases hb : b = p
    · rw [hb, upd_same] at e
      cases e
      exact .inr ho
    · rw [upd_ne hb] at e
      exact .inl e
/-- a new object that isn't data yet -/
theorem Xt.raw {F H : Hp} {p : Addr} {o : HO} (s : Same F H) (hp : H p = none) : Xt F H F (upd H p o) := by
  refine ⟨Same.refl _, fun b x e => ?_, fun b x e => ?_, fun _ _ h2 => h2, fun _ _ e => .inl e⟩
  · rw [upd_ne (ne_of_none (s _ _ e) hp)]
    exact s _ _ e
  · rw [upd_ne (ne_of_none e hp)]
    exact e
section
variable {c : Co} {F F' H H' : Hp} {σ : L2.St} {ρ : Ev}
theorem SlOk.xt {v : Option V} {sl : Sl} (h : SlOk c F H v sl) (x : Xt F H F' H') : SlOk c F' H' v sl := by
  cases sl with
  | un => trivial
  | fn n => exact h
  | dat d =>
    obtain ⟨w, e, h⟩ := h
    exact ⟨w, e, dp_same x.f h⟩
  | own ds =>
    obtain ⟨a, vs, e, h1, h2, h3, h4⟩ := h
    exact ⟨a, vs, e, x.h _ _ h1, dpAll_same x.f h2, x.n a (by rw [h1]; exact fun z => by cases z) h3, h4⟩
  | io ds =>
    obtain ⟨a, vs, e0, e, h1, h2, h3, h4⟩ := h
    exact ⟨a, vs, e0, e, x.h _ _ h1, dpAll_same x.f h2, x.n a (by rw [h1]; exact fun z => by cases z) h3, h4⟩
  | dic kvs =>
    obtain ⟨a, vs, e, h1, h2, h3, h4⟩ := h
    exact ⟨a, vs, e, x.h _ _ h1, dpKv_same x.f h2, x.n a (by rw [h1]; exact fun z => by cases z) h3, h4⟩
theorem Rl.xt (R : Rl c F H σ ρ) (x : Xt F H F' H') : Rl c F' H' σ ρ where
  len := R.len
  sub := x.s
  ft := fun P hP => x.n P (by
    obtain ⟨ps, e, _⟩ := R.tb P hP
    rw [e]
    exact fun z => by cases z) (R.ft P hP)
  tb := fun P hP => by
    obtain ⟨ps, e, t⟩ := R.tb P hP
    exact ⟨ps, x.h _ _ e, t⟩
  mono := R.mono.trans x.f
  fr := fun b o e h1 h2 => x.h _ _ (R.fr b o e h1 h2)
  ioh := fun a ha => by
    obtain ⟨h1, h2, h3, vs, h4⟩ := R.ioh a ha
    exact ⟨h1, h2, x.n a (by rw [h4]; exact fun z => by cases z) h3, vs, x.h _ _ h4⟩
  sl := fun i sl e => (R.sl i sl e).xt x
  dj := R.dj
  iu := R.iu
  nw := fun a h1 h2 => by
    have old := R.nw a h1 h2
    by_cases hT : a ∈ c.T
    · exact x.n a (by
        obtain ⟨ps, e, _⟩ := R.tb a hT
        rw [e]
        exact fun z => by cases z) old
    · by_cases hi : a ∈ c.io
      · obtain ⟨_, _, _, vs, h4⟩ := R.ioh a hi
        exact x.n a (by rw [h4]; exact fun z => by cases z) old
      · cases e : c.H0 a with
        | none => exact absurd e h1
        | some o => exact x.n a (by rw [R.fr a o e hT hi]; exact fun z => by cases z) old
  tf := x.tf R.tf
  dk := R.dk
/-- forgetting, or knowing again, slots -/
theorem Rl.slots {σ' : L2.St} {ρ' : Ev} (R : Rl c F H σ ρ) (hl : σ'.length = ρ'.length) (h : ∀ i sl, ρ'[i]? = some sl → SlOk c F H (vAt σ' i) sl)
    (dj : ∀ (i j : Nat) a ds es, ρ'[i]? = some (Sl.own ds) → ρ'[j]? = some (Sl.own es) → vAt σ' i = some (.ref a) → vAt σ' j = some (.ref a) → i = j) (iu : ∀ (i j : Nat) ds es, ρ'[i]? = some (Sl.io ds) → ρ'[j]? = some (Sl.io es) → i = j)
    (dk : ∀ (i j : Nat) a ds es, ρ'[i]? = some (Sl.dic ds) → ρ'[j]? = some (Sl.dic es) → vAt σ' i = some (.ref a) → vAt σ' j = some (.ref a) → i = j) : Rl c F H σ' ρ' :=
  ⟨hl, R.sub, R.ft, R.tb, R.mono, R.fr, R.ioh, h, dj, iu, R.nw, R.tf, dk⟩
/-- data stored at a slot -/
theorem Rl.set {i : Nat} {v : V} {d : PyData} (R : Rl c F H σ ρ) (h : Dz c.K F v d) : Rl c F H (σ.set i (some v)) (ρ.set i (.dat d)) := by
  refine R.slots (by rw [List.length_set, List.length_set]; exact R.len) (fun j sl e => ?_) (fun j k a ds es e1 e2 e3 e4 => ?_) (fun j k ds es e1 e2 => ?_) (fun j k a ds es e1 e2 e3 e4 => ?_)
  · by_cases hj : i = j
    · subst hj
      by_cases hi : i < ρ.length
      · rw [List.getElem?_set_self hi] at e
        cases e
        exact ⟨v, vAt_set (by rw [R.len]; exact hi), h⟩
      · rw [List.getElem?_eq_none (by simpa using hi)] at e
        cases e
    · rw [List.getElem?_set_ne hj] at e
      rw [vAt_ne hj]
      exact R.sl j sl e
  · have n1 : i ≠ j := fun z => by
      subst z
      by_cases hi : i < ρ.length
      · rw [List.getElem?_set_self hi] at e1; cases e1
      · rw [List.getElem?_eq_none (by simpa using hi)] at e1; cases e1
    have n2 : i ≠ k := fun z => by
      subst z
      by_cases hi : i < ρ.length
      · rw [List.getElem?_set_self hi] at e2; cases e2
      · rw [List.getElem?_eq_none (by simpa using hi)] at e2; cases e2
    rw [List.getElem?_set_ne n1] at e1
    rw [List.getElem?_set_ne n2] at e2
    rw [vAt_ne n1] at e3
    rw [vAt_ne n2] at e4
    exact R.dj j k a ds es e1 e2 e3 e4
  · have n1 : i ≠ j := fun z => by
      subst z
      by_cases hi : i < ρ.length
      · rw [List.getElem?_set_self hi] at e1; cases e1
      · rw [List.getElem?_eq_none (by simpa using hi)] at e1; cases e1
    have n2 : i ≠ k := fun z => by
      subst z
      by_cases hi : i < ρ.length
      · rw [List.getElem?_set_self hi] at e2; cases e2
      · rw [List.getElem?_eq_none (by simpa using hi)] at e2; cases e2
    rw [List.getElem?_set_ne n1] at e1
    rw [List.getElem?_set_ne n2] at e2
    exact R.iu j k ds es e1 e2
  · have n1 : i ≠ j := fun z => by
      subst z
      by_cases hi : i < ρ.length
      · rw [List.getElem?_set_self hi] at e1; cases e1
      · rw [List.getElem?_eq_none (by simpa using hi)] at e1; cases e1
    have n2 : i ≠ k := fun z => by
      subst z
      by_cases hi : i < ρ.length
      · rw [List.getElem?_set_self hi] at e2; cases e2
      · rw [List.getElem?_eq_none (by simpa using hi)] at e2; cases e2
    rw [List.getElem?_set_ne n1] at e1
    rw [List.getElem?_set_ne n2] at e2
    rw [vAt_ne n1] at e3
    rw [vAt_ne n2] at e4
    exact R.dk j k a ds es e1 e2 e3 e4
/-- behind a call that changes the tables alone, and lays new things -/
theorem Rl.call (R : Rl c F H σ ρ) (f : Same F F') (s : Same F' H') (t : ∀ P ∈ c.T, F' P = none ∧ TabG H' P) (h : ∀ b o, H b = some o → b ∉ c.T → H' b = some o) (n : ∀ a, H a ≠ none → F a = none → F' a = none) (tf : TF c.K F') : Rl c F' H' σ ρ where
  len := R.len
  sub := s
  ft := fun P hP => (t P hP).1
  tb := fun P hP => (t P hP).2
  mono := R.mono.trans f
  fr := fun b o e h1 h2 => h _ _ (R.fr b o e h1 h2) h1
  ioh := fun a ha => by
    obtain ⟨h1, h2, h3, vs, h4⟩ := R.ioh a ha
    exact ⟨h1, h2, n a (by rw [h4]; exact fun z => by cases z) h3, vs, h _ _ h4 h2⟩
  sl := fun i sl e => by
    have old := R.sl i sl e
    cases sl with
    | un => trivial
    | fn n => exact old
    | dat d =>
      obtain ⟨w, e, h⟩ := old
      exact ⟨w, e, dp_same f h⟩
    | own ds =>
      obtain ⟨a, vs, e, h1, h2, h3, h4, h5⟩ := old
      exact ⟨a, vs, e, h _ _ h1 h4, dpAll_same f h2, n a (by rw [h1]; exact fun z => by cases z) h3, h4, h5⟩
    | io ds =>
      obtain ⟨a, vs, e0, e, h1, h2, h3, h4⟩ := old
      exact ⟨a, vs, e0, e, h _ _ h1 h4, dpAll_same f h2, n a (by rw [h1]; exact fun z => by cases z) h3, h4⟩
    | dic kvs =>
      obtain ⟨a, vs, e, h1, h2, h3, h4, h5⟩ := old
      exact ⟨a, vs, e, h _ _ h1 h4, dpKv_same f h2, n a (by rw [h1]; exact fun z => by cases z) h3, h4, h5⟩
  dj := R.dj
  iu := R.iu
  nw := fun a h1 h2 => by
    have old := R.nw a h1 h2
    by_cases hT : a ∈ c.T
    · exact (t a hT).1
    · by_cases hi : a ∈ c.io
      · obtain ⟨_, _, _, vs, h4⟩ := R.ioh a hi
        exact n a (by rw [h4]; exact fun z => by cases z) old
      · cases e : c.H0 a with
        | none => exact absurd e h1
        | some o => exact n a (by rw [R.fr a o e hT hi]; exact fun z => by cases z) old
  tf := tf
  dk := R.dk
/-- a list that is nobody's yet -/
structure Fresh (c : Co) (F H : Hp) (σ : L2.St) (ρ : Ev) (a : Addr) (ds : List PyData) : Prop where
  at_ : ∃ vs, H a = some (.lst vs) ∧ DzAll c.K F vs ds
  nf : F a = none
  nt : a ∉ c.T
  h0 : c.H0 a = none
  no : ∀ i es, ρ[i]? = some (Sl.own es) → vAt σ i ≠ some (.ref a)
theorem Rl.h0_of_new (R : Rl c F H σ ρ) {p : Addr} (hp : H p = none) : c.H0 p = none := by
  cases e : c.H0 p with
  | none => rfl
  | some o =>
    have nt : p ∉ c.T := fun z => by
      obtain ⟨ps, q, _⟩ := R.tb p z
      rw [hp] at q
      cases q
    have ni : p ∉ c.io := fun z => by
      obtain ⟨_, _, _, vs, q⟩ := R.ioh p z
      rw [hp] at q
      cases q
    rw [R.fr p o e nt ni] at hp
    cases hp
theorem Rl.fresh (R : Rl c F H σ ρ) {p : Addr} {vs : List V} {ds : List PyData} (hp : H p = none) (h : DzAll c.K F vs ds) : Rl c F (upd H p (.lst vs)) σ ρ ∧ Fresh c F (upd H p (.lst vs)) σ ρ p ds := by
  refine ⟨R.xt (Xt.raw R.sub hp), ⟨vs, upd_same, h⟩, R.sub.free hp, fun z => ?_, R.h0_of_new hp, fun i es e z => ?_⟩
  · obtain ⟨ps, q, _⟩ := R.tb p z
    rw [hp] at q
    cases q
  · obtain ⟨a, ws, e1, e2, _⟩ := R.sl i _ e
    rw [z] at e1
    cases e1
    rw [hp] at e2
    cases e2
/-- .. becomes data -/
theorem Rl.freeze {a : Addr} {ds : List PyData} {vs : List V} (R : Rl c F H σ ρ) (f : Fresh c F H σ ρ a ds) (hv : H a = some (.lst vs)) : Rl c (upd F a (.lst vs)) H σ ρ := by
  have sF : Same F (upd F a (.lst vs)) := fun b o e => by
    rw [upd_ne (ne_of_none e f.nf)]
    exact e
  have nio : ∀ b ∈ c.io, b ≠ a := fun b hb z => (R.ioh b hb).1 (by rw [z]; exact f.h0)
  refine ⟨R.len, fun b o e => ?_, fun P hP => ?_, R.tb, R.mono.trans sF, R.fr, fun b hb => ?_, fun i sl e => ?_, R.dj, R.iu, fun b h1 h2 => ?_, R.tf.lst, R.dk⟩
  · by_cases hb : b = a
    · rw [hb, upd_same] at e
      rw [hb, hv]
      exact e
    · rw [upd_ne hb] at e
      exact R.sub _ _ e
  · have : P ≠ a := fun z => f.nt (by rw [← z]; exact hP)
    rw [upd_ne this]
    exact R.ft P hP
  · obtain ⟨h1, h2, h3, h4⟩ := R.ioh b hb
    exact ⟨h1, h2, by rw [upd_ne (nio b hb)]; exact h3, h4⟩
  · have old := R.sl i sl e
    cases sl with
    | un => trivial
    | fn n => exact old
    | dat d =>
      obtain ⟨w, e1, h1⟩ := old
      exact ⟨w, e1, dp_same sF h1⟩
    | own es =>
      obtain ⟨b, ws, e1, h1, h2, h3, h4⟩ := old
      have nb : b ≠ a := fun z => f.no i es e (by rw [e1, z])
      exact ⟨b, ws, e1, h1, dpAll_same sF h2, by rw [upd_ne nb]; exact h3, h4⟩
    | io es =>
      obtain ⟨b, ws, e0, e1, h1, h2, h3, h4⟩ := old
      exact ⟨b, ws, e0, e1, h1, dpAll_same sF h2, by rw [upd_ne (nio b (by rw [e0]; simp))]; exact h3, h4⟩
    | dic kvs =>
      obtain ⟨b, ws, e1, h1, h2, h3, h4⟩ := old
      have nb : b ≠ a := fun z => by
        rw [z, hv] at h1
        cases h1
      exact ⟨b, ws, e1, h1, dpKv_same sF h2, by rw [upd_ne nb]; exact h3, h4⟩
  · have nb : b ≠ a := fun z => h1 (by rw [z]; exact f.h0)
    rw [upd_ne nb]
    exact R.nw b h1 h2
theorem dp_frozen {K : PySem.W.Frag} {F : Hp} {a : Addr} {vs : List V} {ds : List PyData} (nf : F a = none) (h : DzAll K F vs ds) : Dz K (upd F a (.lst vs)) (.ref a) (.list ds) :=
  .lst (.inl (.inl upd_same)) (dpAll_same (fun b o e => by
    rw [upd_ne (ne_of_none e nf)]
    exact e) h)
/-- a value as it is read -/
def Vw (K : PySem.W.Frag) (F H : Hp) (x : V) (d : PyData) : Prop := Dz K F x d ∨ (∃ a vs ds, x = .ref a ∧ d = .list ds ∧ H a = some (.lst vs) ∧ DzAll K F vs ds) ∨ ∃ a xs kvs, x = .ref a ∧ d = .dict kvs ∧ H a = some (DkO a xs) ∧ DzKv K F xs kvs
theorem Vw.dp {K : PySem.W.Frag} {x : V} {d : PyData} (h : Vw K F H x d) (s : Same F H) : Dz K H x d := by
  rcases h with h | ⟨a, vs, ds, rfl, rfl, h, hs⟩ | ⟨a, xs, kvs, rfl, rfl, h, hs⟩
  · exact dp_same s h
  · exact .lst (.inl (.inl h)) (dpAll_same s hs)
  · exact .dct h (dpKv_same s hs)
theorem Vw.list {K : PySem.W.Frag} {x : V} {ds : List PyData} (h : Vw K F H x (.list ds)) (s : Same F H) : ∃ a vs, x = .ref a ∧ SqL K H a vs ∧ DzAll K F vs ds := by
  rcases h with h | ⟨a, vs, ds, rfl, e, h, hs⟩ | ⟨a, xs, kvs, rfl, e, h, hs⟩
  · cases h with
    | lst h hs => exact ⟨_, _, rfl, s.seq h, hs⟩
  · cases e
    exact ⟨a, vs, rfl, .inl (.inl h), hs⟩
  · cases e
theorem Vw.tup {K : PySem.W.Frag} {x : V} {ds : List PyData} (h : Vw K F H x (.tuple ds)) (s : Same F H) : ∃ a vs, x = .ref a ∧ SqT K H a vs ∧ DzAll K F vs ds := by
  rcases h with h | ⟨a, vs, ds, rfl, e, h, hs⟩ | ⟨a, xs, kvs, rfl, e, h, hs⟩
  · cases h with
    | tup h hs => exact ⟨_, _, rfl, sqT_same s h, hs⟩
  · cases e
  · cases e
theorem Vw.int {K : PySem.W.Frag} {x : V} {i : Int} (h : Vw K F H x (.int i)) : x = .int i := by
  rcases h with h | ⟨a, vs, ds, rfl, e, h, hs⟩ | ⟨a, xs, kvs, rfl, e, h, hs⟩
  · cases h
    rfl
  · cases e
  · cases e
theorem Vw.bool {K : PySem.W.Frag} {x : V} {b : Bool} (h : Vw K F H x (.bool b)) : x = .bl b := by
  rcases h with h | ⟨a, vs, ds, rfl, e, h, hs⟩ | ⟨a, xs, kvs, rfl, e, h, hs⟩
  · cases h
    rfl
  · cases e
  · cases e
def ObOk (c : Co) (F : Hp) (σ : L2.St) (v : V) : Ob → Prop
  | .d d => Dz c.K F v d
  | .s i => vAt σ i = some v
theorem ObOk.same {v : V} {x : Ob} (h : ObOk c F σ v x) (s : Same F F') : ObOk c F' σ v x := by
  cases x with
  | d d => exact dp_same s h
  | s i => exact h
def res (ρ : Ev) : Ob → Option PyData
  | .d d => some d
  | .s i => match ρ[i]? with
    | some (Sl.own ds) => some (.list ds)
    | some (Sl.io ds) => some (.list ds)
    | some (.dat d) => some d
    | some (Sl.dic kvs) => some (.dict kvs)
    | _ => none
theorem Rl.vw (R : Rl c F H σ ρ) {v : V} {x : Ob} {d : PyData} (h : ObOk c F σ v x) (e : res ρ x = some d) : Vw c.K F H v d := by
  cases x with
  | d d' => cases e; exact .inl h
  | s i =>
    have h : vAt σ i = some v := h
    unfold res at e
    cases q : ρ[i]? with
    | none => simp [q] at e
    | some sl =>
      have ok := R.sl i sl q
      cases sl with
      | un => simp [q] at e
      | fn n => simp [q] at e
      | dat d' =>
        simp only [q, Option.some.injEq] at e
        subst e
        obtain ⟨w, e1, e2⟩ := ok
        rw [h] at e1
        cases e1
        exact .inl e2
      | own ds =>
        simp only [q, Option.some.injEq] at e
        subst e
        obtain ⟨a, vs, e1, e2, e3, _⟩ := ok
        rw [h] at e1
        cases e1
        exact .inr (.inl ⟨a, vs, ds, rfl, rfl, e2, e3⟩)
      | io ds =>
        simp only [q, Option.some.injEq] at e
        subst e
        obtain ⟨a, vs, _, e1, e2, e3, _⟩ := ok
        rw [h] at e1
        cases e1
        exact .inr (.inl ⟨a, vs, ds, rfl, rfl, e2, e3⟩)
      | dic kvs =>
        simp only [q, Option.some.injEq] at e
        subst e
        obtain ⟨a, xs, e1, e2, e3, _⟩ := ok
        rw [h] at e1
        cases e1
        exact .inr (.inr ⟨a, xs, kvs, rfl, rfl, e2, e3⟩)
end
end PD
/-! Plain data: expressions and tests -/
namespace PD
open PySem PySem.Spec PyProof.Rows L2 GxR
abbrev SE := Ev → Option (Ob × Ev)
abbrev STe := Ev → Option (Bool × Ev)
abbrev SA := Ev → Option (List Ob × Ev)
def rE (c : Co) (f : SE) : TE := fun σ H Q => ∃ F ρ x ρ', Rl c F H σ ρ ∧ f ρ = some (x, ρ') ∧ ∀ v H' F', Same F F' → Rl c F' H' σ ρ' → ObOk c F' σ v x → Q v H'
def rT (c : Co) (f : STe) : TT := fun σ H Q => ∃ F ρ b ρ', Rl c F H σ ρ ∧ f ρ = some (b, ρ') ∧ ∀ H' F', Same F F' → Rl c F' H' σ ρ' → Q b H'
def ObsOk (c : Co) (F : Hp) (σ : L2.St) : List V → List Ob → Prop
  | [], [] => True
  | v :: vs, x :: xs => ObOk c F σ v x ∧ ObsOk c F σ vs xs
  | _, _ => False
def rA (c : Co) (f : SA) : TA := fun σ H Q => ∃ F ρ xs ρ', Rl c F H σ ρ ∧ f ρ = some (xs, ρ') ∧ ∀ vs H' F', Same F F' → Rl c F' H' σ ρ' → ObsOk c F' σ vs xs → Q vs H'
structure EO (c : Co) (X : Cx) (e : Expr) (f : SE) : Prop where
  pe : PE X e (rE c f)
structure ET (c : Co) (X : Cx) (e : Expr) (f : STe) : Prop where
  pt : PT X e (rT c f)
structure EW (c : Co) (X : Cx) (e : Expr) (f : STe) : Prop where
  pw : PW X e (rT c f)
structure EA (c : Co) (X : Cx) (es : List Expr) (f : SA) : Prop where
  pa : PA X es (rA c f)
theorem pe_imp {X : Cx} {e : Expr} {t t' : TE} (h : PE X e t) (i : ∀ σ H Q, t' σ H Q → t σ H Q) : PE X e t' := ⟨fun pins s σ H Q I q => h.run pins s σ H Q I (i σ H Q q)⟩
theorem pt_imp {X : Cx} {e : Expr} {t t' : TT} (h : PT X e t) (i : ∀ σ H Q, t' σ H Q → t σ H Q) : PT X e t' := ⟨fun pins s σ H Q I q => h.run pins s σ H Q I (i σ H Q q)⟩
theorem pw_imp {X : Cx} {e : Expr} {t t' : TT} (h : PW X e t) (i : ∀ σ H Q, t' σ H Q → t σ H Q) : PW X e t' := ⟨fun wh pins s σ H Q I q => h.run wh pins s σ H Q I (i σ H Q q)⟩
theorem pa_imp {X : Cx} {e : List Expr} {t t' : TA} (h : PA X e t) (i : ∀ σ H Q, t' σ H Q → t σ H Q) : PA X e t' := ⟨fun pos pins s σ H Q I q => h.run pos pins s σ H Q I (i σ H Q q)⟩
/-! ### names, constants -/
def sV (i : Nat) : SE := fun ρ => match ρ[i]? with
  | some (.dat d) => some (.d d, ρ)
  | some (.own ds) => some (.d (.list ds), ρ.set i (.dat (.list ds)))
  | some (.dic kvs) => some (.d (.dict kvs), ρ.set i (.dat (.dict kvs)))
  | _ => none
def sB (i : Nat) : SE := fun ρ => match ρ[i]? with
  | some (.dat d) => some (.d d, ρ)
  | some (.own _) => some (.s i, ρ)
  | some (.io _) => some (.s i, ρ)
  | some (.dic _) => some (.s i, ρ)
  | _ => none
def sC (d : PyData) : SE := fun ρ => some (.d d, ρ)
section
variable {c : Co} {X : Cx} {a b e : Expr} {fa fb : SE} {pos : Pos}
theorem eo_b (i : Nat) {x : Str} (h : PE X (.Name x pos) (tVar i)) : EO c X (.Name x pos) (sB i) := by
  refine ⟨pe_imp h fun σ H Q ⟨F, ρ, y, ρ', R, e, k⟩ => ?_⟩
  unfold sB at e
  cases q : ρ[i]? with
  | none => simp [q] at e
  | some sl =>
    have ok := R.sl i sl q
    cases sl with
    | un => simp [q] at e
    | fn n => simp [q] at e
    | dat d =>
      simp only [q, Option.some.injEq, Prod.mk.injEq] at e
      obtain ⟨rfl, rfl⟩ := e
      obtain ⟨w, e1, e2⟩ := ok
      exact ⟨w, vAt_eq e1, k w H F (Same.refl _) R e2⟩
    | own ds =>
      simp only [q, Option.some.injEq, Prod.mk.injEq] at e
      obtain ⟨rfl, rfl⟩ := e
      obtain ⟨a, vs, e1, _⟩ := ok
      exact ⟨.ref a, vAt_eq e1, k (.ref a) H F (Same.refl _) R e1⟩
    | io ds =>
      simp only [q, Option.some.injEq, Prod.mk.injEq] at e
      obtain ⟨rfl, rfl⟩ := e
      obtain ⟨a, vs, _, e1, _⟩ := ok
      exact ⟨.ref a, vAt_eq e1, k (.ref a) H F (Same.refl _) R e1⟩
    | dic kvs =>
      simp only [q, Option.some.injEq, Prod.mk.injEq] at e
      obtain ⟨rfl, rfl⟩ := e
      obtain ⟨a, vs, e1, _⟩ := ok
      exact ⟨.ref a, vAt_eq e1, k (.ref a) H F (Same.refl _) R e1⟩
theorem set_self {σ : L2.St} {i : Nat} {v : V} (h : vAt σ i = some v) : σ.set i (some v) = σ := by
  have e := vAt_eq h
  obtain ⟨hi, e⟩ := List.getElem?_eq_some_iff.mp e
  rw [← e]
  exact List.set_getElem_self hi
theorem Rl.own_fresh {F H : Hp} {σ : L2.St} {ρ : Ev} {i : Nat} {ds : List PyData} (R : Rl c F H σ ρ) (q : ρ[i]? = some (Sl.own ds)) : ∃ a vs, vAt σ i = some (.ref a) ∧ H a = some (.lst vs) ∧ Fresh c F H σ (ρ.set i .un) a ds ∧ Rl c F H σ (ρ.set i .un) := by
  obtain ⟨a, vs, e1, e2, e3, e4, e5, e6⟩ := R.sl i _ q
  have hi : i < ρ.length := (List.getElem?_eq_some_iff.mp q).1
  have old : ∀ j es, (ρ.set i .un)[j]? = some (Sl.own es) → i ≠ j ∧ ρ[j]? = some (Sl.own es) := fun j es h => by
    have n : i ≠ j := fun z => by
      subst z
      rw [List.getElem?_set_self hi] at h
      cases h
    rw [List.getElem?_set_ne n] at h
    exact ⟨n, h⟩
  have oldk : ∀ j es, (ρ.set i .un)[j]? = some (Sl.dic es) → ρ[j]? = some (Sl.dic es) := fun j es h => by
    have n : i ≠ j := fun z => by
      subst z
      rw [List.getElem?_set_self hi] at h
      cases h
    rw [List.getElem?_set_ne n] at h
    exact h
  refine ⟨a, vs, e1, e2, ⟨⟨vs, e2, e3⟩, e4, e5, e6, fun j es h z => ?_⟩, R.slots (by rw [List.length_set]; exact R.len) (fun j sl h => ?_) (fun j k b es fs h1 h2 h3 h4 => R.dj j k b es fs (old j es h1).2 (old k fs h2).2 h3 h4) (fun j k es fs h1 h2 => ?_) (fun j k b es fs h1 h2 h3 h4 => R.dk j k b es fs (oldk j es h1) (oldk k fs h2) h3 h4)⟩
  · obtain ⟨n, h⟩ := old j es h
    exact n (R.dj i j a ds es q h e1 z)
  · by_cases n : i = j
    · subst n
      rw [List.getElem?_set_self hi] at h
      cases h
      trivial
    · rw [List.getElem?_set_ne n] at h
      exact R.sl j sl h
  · have n1 : i ≠ j := fun z => by
      subst z
      rw [List.getElem?_set_self hi] at h1
      cases h1
    have n2 : i ≠ k := fun z => by
      subst z
      rw [List.getElem?_set_self hi] at h2
      cases h2
    rw [List.getElem?_set_ne n1] at h1
    rw [List.getElem?_set_ne n2] at h2
    exact R.iu j k es fs h1 h2
theorem set_set_ev (ρ : Ev) (i : Nat) (a b : Sl) : (ρ.set i a).set i b = ρ.set i b := by
  apply List.ext_getElem?
  intro j
  by_cases h : i = j
  · subst h
    by_cases hi : i < ρ.length
    · rw [List.getElem?_set_self (by rw [List.length_set]; exact hi), List.getElem?_set_self hi]
    · rw [List.getElem?_eq_none (by simpa using hi), List.getElem?_eq_none (by simpa using hi)]
  · rw [List.getElem?_set_ne h, List.getElem?_set_ne h, List.getElem?_set_ne h]
/-- a dict becomes data -/
theorem Rl.dic_freeze {F H : Hp} {σ : L2.St} {ρ : Ev} {i : Nat} {kvs : List (PyData × PyData)} (R : Rl c F H σ ρ) (q : ρ[i]? = some (Sl.dic kvs)) : ∃ a xs, vAt σ i = some (.ref a) ∧ H a = some (DkO a xs) ∧ F a = none ∧ Dz c.K (upd F a (DkO a xs)) (.ref a) (.dict kvs) ∧ Same F (upd F a (DkO a xs)) ∧ Rl c (upd F a (DkO a xs)) H σ (ρ.set i (.dat (.dict kvs))) := by
  obtain ⟨a, xs, e1, e2, e3, e4, e5, e6⟩ := R.sl i _ q
  have hi : i < ρ.length := (List.getElem?_eq_some_iff.mp q).1
  have sF : Same F (upd F a (DkO a xs)) := fun b o z => by
    rw [upd_ne (ne_of_none z e4)]
    exact z
  have dd : Dz c.K (upd F a (DkO a xs)) (.ref a) (.dict kvs) := .dct upd_same (dpKv_same sF e3)
  have nio : ∀ b ∈ c.io, b ≠ a := fun b hb z => (R.ioh b hb).1 (by rw [z]; exact e6)
  have tf : TF c.K (upd F a (DkO a xs)) := ⟨fun b o e => by
    by_cases hb : b = a
    · rw [hb, upd_same] at e
      cases e
      trivial
    · rw [upd_ne hb] at e
      exact R.tf.a b o e, R.tf.k⟩
  refine ⟨a, xs, e1, e2, e4, dd, sF, ?_, fun b o e => ?_, fun P hP => ?_, R.tb, R.mono.trans sF, R.fr, fun b hb => ?_, fun j sl e => ?_, fun j k b es fs h1 h2 h3 h4 => ?_, fun j k es fs h1 h2 => ?_, fun b h1 h2 => ?_, tf, fun j k b es fs h1 h2 h3 h4 => ?_⟩
  · rw [List.length_set]
    exact R.len
  · by_cases hb : b = a
    · rw [hb, upd_same] at e
      rw [hb, e2]
      exact e
    · rw [upd_ne hb] at e
      exact R.sub _ _ e
  · have : P ≠ a := fun z => e5 (by rw [← z]; exact hP)
    rw [upd_ne this]
    exact R.ft P hP
  · obtain ⟨h1, h2, h3, h4⟩ := R.ioh b hb
    exact ⟨h1, h2, by rw [upd_ne (nio b hb)]; exact h3, h4⟩
  · by_cases hj : i = j
    · subst hj
      rw [List.getElem?_set_self hi] at e
      cases e
      exact ⟨_, e1, dd⟩
    · rw [List.getElem?_set_ne hj] at e
      have old := R.sl j sl e
      cases sl with
      | un => trivial
      | fn n => exact old
      | dat d =>
        obtain ⟨w, x1, h1⟩ := old
        exact ⟨w, x1, dp_same sF h1⟩
      | own es =>
        obtain ⟨b, ws, x1, h1, h2, h3, h4⟩ := old
        have nb : b ≠ a := fun z => by
          rw [z, e2] at h1
          cases h1
        exact ⟨b, ws, x1, h1, dpAll_same sF h2, by rw [upd_ne nb]; exact h3, h4⟩
      | io es =>
        obtain ⟨b, ws, x0, x1, h1, h2, h3, h4⟩ := old
        exact ⟨b, ws, x0, x1, h1, dpAll_same sF h2, by rw [upd_ne (nio b (by rw [x0]; simp))]; exact h3, h4⟩
      | dic es =>
        obtain ⟨b, ws, x1, h1, h2, h3, h4⟩ := old
        have nb : b ≠ a := fun z => hj (R.dk i j a kvs es q e e1 (by rw [x1, z]))
        exact ⟨b, ws, x1, h1, dpKv_same sF h2, by rw [upd_ne nb]; exact h3, h4⟩
  · have n1 : i ≠ j := fun z => by
      subst z
      rw [List.getElem?_set_self hi] at h1
      cases h1
    have n2 : i ≠ k := fun z => by
      subst z
      rw [List.getElem?_set_self hi] at h2
      cases h2
    rw [List.getElem?_set_ne n1] at h1
    rw [List.getElem?_set_ne n2] at h2
    exact R.dj j k b es fs h1 h2 h3 h4
  · have n1 : i ≠ j := fun z => by
      subst z
      rw [List.getElem?_set_self hi] at h1
      cases h1
    have n2 : i ≠ k := fun z => by
      subst z
      rw [List.getElem?_set_self hi] at h2
      cases h2
    rw [List.getElem?_set_ne n1] at h1
    rw [List.getElem?_set_ne n2] at h2
    exact R.iu j k es fs h1 h2
  · have nb : b ≠ a := fun z => h1 (by rw [z]; exact e6)
    rw [upd_ne nb]
    exact R.nw b h1 h2
  · have n1 : i ≠ j := fun z => by
      subst z
      rw [List.getElem?_set_self hi] at h1
      cases h1
    have n2 : i ≠ k := fun z => by
      subst z
      rw [List.getElem?_set_self hi] at h2
      cases h2
    rw [List.getElem?_set_ne n1] at h1
    rw [List.getElem?_set_ne n2] at h2
    exact R.dk j k b es fs h1 h2 h3 h4
theorem eo_v (i : Nat) {x : Str} (h : PE X (.Name x pos) (tVar i)) : EO c X (.Name x pos) (sV i) := by
  refine ⟨pe_imp h fun σ H Q ⟨F, ρ, y, ρ', R, e, k⟩ => ?_⟩
  unfold sV at e
  cases q : ρ[i]? with
  | none => simp [q] at e
  | some sl =>
    have ok := R.sl i sl q
    cases sl with
    | un => simp [q] at e
    | fn n => simp [q] at e
    | io ds => simp [q] at e
    | dat d =>
      simp only [q, Option.some.injEq, Prod.mk.injEq] at e
      obtain ⟨rfl, rfl⟩ := e
      obtain ⟨w, e1, e2⟩ := ok
      exact ⟨w, vAt_eq e1, k w H F (Same.refl _) R e2⟩
    | own ds =>
      simp only [q, Option.some.injEq, Prod.mk.injEq] at e
      obtain ⟨rfl, rfl⟩ := e
      obtain ⟨a, vs, e1, e2, fr, R1⟩ := R.own_fresh q
      have R2 := (R1.freeze fr e2)
      have e3' : DzAll c.K F vs ds := by
        obtain ⟨us, u1, u2⟩ := fr.at_
        rw [e2] at u1
        cases u1
        exact u2
      have dd : Dz c.K (upd F a (.lst vs)) (.ref a) (.list ds) := dp_frozen fr.nf e3'
      have R3 := R2.set (i := i) dd
      rw [set_self e1, set_set_ev] at R3
      exact ⟨.ref a, vAt_eq e1, k (.ref a) H _ (fun b o z => by rw [upd_ne (ne_of_none z fr.nf)]; exact z) R3 dd⟩
    | dic kvs =>
      simp only [q, Option.some.injEq, Prod.mk.injEq] at e
      obtain ⟨rfl, rfl⟩ := e
      obtain ⟨a, xs, e1, e2, nf, dd, sF, R1⟩ := R.dic_freeze q
      exact ⟨.ref a, vAt_eq e1, k (.ref a) H _ sF R1 dd⟩
theorem eo_c {v : V} {d : PyData} (h : PE X e (tC v)) (hd : ∀ F, Dz c.K F v d) : EO c X e (sC d) := by
  refine ⟨pe_imp h fun σ H Q ⟨F, ρ, y, ρ', R, e, k⟩ => ?_⟩
  simp only [sC, Option.some.injEq, Prod.mk.injEq] at e
  obtain ⟨rfl, rfl⟩ := e
  exact k v H F (Same.refl _) R (hd F)
theorem eo_int {i : Int} {j : Nat} : EO c X (.Constant (.int i) j pos) (sC (.int i)) := eo_c pe_int fun _ => .int i
theorem eo_bl {i : Bool} {j : Nat} : EO c X (.Constant (.bool i) j pos) (sC (.bool i)) := eo_c pe_bl fun _ => .bl i
theorem eo_non {j : Nat} : EO c X (.Constant .none j pos) (sC .none) := eo_c pe_non fun _ => .non
/-- an int of the module -/
theorem eo_gint {x : Str} {i : Int} {t : Tok} (hg : Gl X x) (hm : X.mg x = some (.int i t)) (hd : (x == ("__debug__" : Str)) = false := by decide) : EO c X (.Name x pos) (sC (.int i)) := eo_c (pe_glob (v := .int i) hg hm ⟨t, rfl⟩ hd) fun _ => .int i
/-! ### two-place operations -/
def s2 (f : PyData → PyData → Option PyData) (fa fb : SE) : SE := fun ρ => match fa ρ with
  | none => none
  | some (x, ρ1) => match fb ρ1 with
    | none => none
    | some (y, ρ2) => match res ρ2 x, res ρ2 y with
      | some d, some e => (f d e).map fun z => (.d z, ρ2)
      | _, _ => none
theorem s2_inv {f : PyData → PyData → Option PyData} {ρ ρ' : Ev} {x : Ob} (h : s2 f fa fb ρ = some (x, ρ')) :
    ∃ u ρ1 v d e z, fa ρ = some (u, ρ1) ∧ fb ρ1 = some (v, ρ') ∧ res ρ' u = some d ∧ res ρ' v = some e ∧ f d e = some z ∧ x = .d z := by
  unfold s2 at h
  cases h1 : fa ρ with
  | none => simp [h1] at h
  | some p =>
    obtain ⟨u, ρ1⟩ := p
    simp only [h1] at h
    cases h2 : fb ρ1 with
    | none => simp [h2] at h
    | some q =>
      obtain ⟨v, ρ2⟩ := q
      simp only [h2] at h
      cases h3 : res ρ2 u with
      | none => simp [h3] at h
      | some d =>
        cases h4 : res ρ2 v with
        | none => simp [h3, h4] at h
        | some e =>
          simp only [h3, h4] at h
          cases h5 : f d e with
          | none => simp [h5] at h
          | some z =>
            simp only [h5, Option.map_some, Option.some.injEq, Prod.mk.injEq] at h
            obtain ⟨rfl, rfl⟩ := h
            exact ⟨u, ρ1, v, d, e, z, rfl, h2, h3, h4, h5, rfl⟩
/-- what r asks of the values holds where f gives data -/
def L2ok (K : PySem.W.Frag) (r : R2) (f : PyData → PyData → Option PyData) : Prop :=
  ∀ (F H : Hp) (x y : V) (d e z : PyData) (Q : VK), Same F H → Vw K F H x d → Vw K F H y e → f d e = some z → (∀ v F' H', Xt F H F' H' → Dz K F' v z → Q v H') → r x y H Q
theorem op2_use {r : R2} {f : PyData → PyData → Option PyData} (hl : L2ok c.K r f) {σ : L2.St} {H : Hp} {Q : VK} (h : rE c (s2 f fa fb) σ H Q) : tOp r (rE c fa) (rE c fb) σ H Q := by
  obtain ⟨F, ρ, x, ρ', R, e, k⟩ := h
  obtain ⟨u, ρ1, v, d, e', z, h1, h2, h3, h4, h5, rfl⟩ := s2_inv e
  refine ⟨F, ρ, u, ρ1, R, h1, fun xv H1 F1 s1 R1 o1 => ⟨F1, ρ1, v, ρ', R1, h2, fun yv H2 F2 s2 R2 o2 => ?_⟩⟩
  exact hl F2 H2 xv yv d e' z Q R2.sub (R2.vw (o1.same s2) h3) (R2.vw o2 h4) h5 fun w F3 H3 xt dz => k w H3 F3 (s1.trans (s2.trans xt.f)) (R2.xt xt) dz
theorem eo_op {op : Operator} {r : R2} {f : PyData → PyData → Option PyData} (ho : OpR X (binaryOp op) r) (hl : L2ok c.K r f) (ha : EO c X a fa) (hb : EO c X b fb) : EO c X (.BinOp a op b pos) (s2 f fa fb) :=
  ⟨pe_imp (pe_op ho ha.pe hb.pe) fun _ _ _ h => op2_use hl h⟩
theorem eo_cmp {op : CmpOp} {r : R2} {f : PyData → PyData → Option PyData} (ho : OpR X (compareOp op) r) (hl : L2ok c.K r f) (ha : EO c X a fa) (hb : EO c X b fb) (hm : behindInMarks op b = false) : EO c X (.Compare a [op] [b] pos) (s2 f fa fb) :=
  ⟨pe_imp (pe_cmpR ho ha.pe hb.pe hm) fun _ _ _ h => op2_use hl h⟩
theorem eo_ix {r : R2} {f : PyData → PyData → Option PyData} (ho : IxR X r) (hl : L2ok c.K r f) (ha : EO c X a fa) (hb : EO c X b fb) (hs : PlainIx b) : EO c X (.Subscript a b pos) (s2 f fa fb) :=
  ⟨pe_imp (pe_ix ho ha.pe hb.pe hs) fun _ _ _ h => op2_use hl h⟩
/-- the same as a test -/
def toT (f : SE) : STe := fun ρ => match f ρ with
  | some (.d (.bool b), ρ') => some (b, ρ')
  | _ => none
theorem toT_inv {f : SE} {ρ ρ' : Ev} {b : Bool} (h : toT f ρ = some (b, ρ')) : f ρ = some (.d (.bool b), ρ') := by
  unfold toT at h
  cases e : f ρ with
  | none => simp [e] at h
  | some p =>
    obtain ⟨x, ρ1⟩ := p
    cases x with
    | s i => simp [e] at h
    | d z =>
      cases z with
      | bool b' =>
        simp only [e, Option.some.injEq, Prod.mk.injEq] at h
        obtain ⟨rfl, rfl⟩ := h
        rfl
      | _ => simp [e] at h
theorem rT_toT {f : SE} {σ : L2.St} {H : Hp} {Q : Bool → Hp → Prop} (h : rT c (toT f) σ H Q) : rE c f σ H fun x H' => ∃ k, x = .bl k ∧ Q k H' := by
  obtain ⟨F, ρ, b, ρ', R, e, k⟩ := h
  refine ⟨F, ρ, _, ρ', R, toT_inv e, fun v H' F' s R' o => ?_⟩
  cases o
  exact ⟨b, rfl, k H' F' s R'⟩
theorem et_cmp {op : CmpOp} {r : R2} {f : PyData → PyData → Option PyData} (ho : OpR X (compareOp op) r) (hl : L2ok c.K r f) (ha : EO c X a fa) (hb : EO c X b fb) (hm : behindInMarks op b = false) : ET c X (.Compare a [op] [b] pos) (toT (s2 f fa fb)) :=
  ⟨pt_imp (pt_cmpR ho ha.pe hb.pe hm) fun _ _ _ h => op2_use hl (rT_toT h)⟩
def truth : PyData → Option Bool
  | .none => some false
  | .bool b => some b
  | .int i => some (i != 0)
  | .list xs => some (!xs.isEmpty)
  | .tuple xs => some (!xs.isEmpty)
  | _ => none
def sTr (f : SE) : STe := fun ρ => match f ρ with
  | some (x, ρ') => match res ρ' x with
    | some d => (truth d).map fun b => (b, ρ')
    | none => none
  | none => none
/-! ### chains -/
def sChain (f g : PyData → PyData → Option PyData) (fa fb fc : SE) : SE := fun ρ => match fa ρ with
  | none => none
  | some (x, ρ1) => match fb ρ1 with
    | none => none
    | some (y, ρ2) => match res ρ2 x, res ρ2 y with
      | some d, some e => match f d e with
        | some (.bool true) => match fc ρ2 with
          | none => none
          | some (z, ρ3) => match res ρ3 y, res ρ3 z with
            | some e', some h => (g e' h).map fun w => (.d w, ρ3)
            | _, _ => none
        | some (.bool false) => some (.d (.bool false), ρ2)
        | _ => none
      | _, _ => none
/-! ### and, or, not, the choice -/
def sAnd (fa fb : SE) : SE := fun ρ => match fa ρ with
  | some (.d (.bool true), ρ1) => fb ρ1
  | some (.d (.bool false), ρ1) => some (.d (.bool false), ρ1)
  | _ => none
def sOr (fa fb : SE) : SE := fun ρ => match fa ρ with
  | some (.d (.bool false), ρ1) => fb ρ1
  | some (.d (.bool true), ρ1) => some (.d (.bool true), ρ1)
  | _ => none
def sNot (fa : SE) : SE := fun ρ => match fa ρ with
  | some (.d (.bool b), ρ1) => some (.d (.bool (!b)), ρ1)
  | _ => none
theorem bool_cases {f : SE} {ρ : Ev} {α : Type} {k1 k2 : Ev → Option α} {z : α} (h : (match f ρ with
    | some (.d (.bool true), ρ1) => k1 ρ1
    | some (.d (.bool false), ρ1) => k2 ρ1
    | _ => none) = some z) : ∃ b ρ1, f ρ = some (.d (.bool b), ρ1) ∧ (if b = true then k1 ρ1 else k2 ρ1) = some z := by
  cases e : f ρ with
  | none => simp [e] at h
  | some p =>
    obtain ⟨x, ρ1⟩ := p
    cases x with
    | s i => simp [e] at h
    | d w =>
      cases w with
      | bool b =>
        cases b with
        | true => exact ⟨true, ρ1, rfl, by simpa [e] using h⟩
        | false => exact ⟨false, ρ1, rfl, by simpa [e] using h⟩
      | _ => simp [e] at h
theorem eo_and {rest : List Expr} (ha : EO c X a fa) (hb : EO c X (.BoolOp .And (b :: rest) pos) fb) : EO c X (.BoolOp .And (a :: b :: rest) pos) (sAnd fa fb) := by
  refine ⟨pe_imp (pe_and ha.pe hb.pe) fun σ H Q ⟨F, ρ, x, ρ', R, e, k⟩ => ?_⟩
  obtain ⟨t, ρ1, h1, h2⟩ := bool_cases (f := fa) (k1 := fb) (k2 := fun ρ1 => some (.d (.bool false), ρ1)) e
  refine ⟨F, ρ, _, ρ1, R, h1, fun v H' F' s R' o => ?_⟩
  cases o
  refine ⟨t, rfl, ?_⟩
  cases t with
  | true => exact ⟨F', ρ1, x, ρ', R', h2, fun w H2 F2 s2 R2 o2 => k w H2 F2 (s.trans s2) R2 o2⟩
  | false =>
    simp only [Bool.false_eq_true, if_false, Option.some.injEq, Prod.mk.injEq] at h2 ⊢
    obtain ⟨rfl, rfl⟩ := h2
    exact k _ H' F' s R' (.bl false)
theorem eo_one {op : BoolOp} (ha : EO c X a fa) : EO c X (.BoolOp op [a] pos) fa := ⟨pe_one ha.pe⟩
theorem eo_not (ha : EO c X a fa) : EO c X (.UnaryOp .Not a pos) (sNot fa) := by
  refine ⟨pe_imp (pe_not ha.pe) fun σ H Q ⟨F, ρ, x, ρ', R, e, k⟩ => ?_⟩
  obtain ⟨t, ρ1, h1, h2⟩ := bool_cases (f := fa) (k1 := fun ρ1 => some (Ob.d (.bool false), ρ1)) (k2 := fun ρ1 => some (Ob.d (.bool true), ρ1)) (z := (x, ρ')) (by
    rw [← e]
    unfold sNot
    cases fa ρ with
    | none => rfl
    | some p =>
      obtain ⟨y, r⟩ := p
      cases y with
      | s i => rfl
      | d w => cases w with
        | bool b => cases b <;> rfl
        | _ => rfl)
  refine ⟨F, ρ, _, ρ1, R, h1, fun v H' F' s R' o => ?_⟩
  cases o
  refine ⟨t, rfl, ?_⟩
  cases t with
  | true =>
    simp only [if_true, Option.some.injEq, Prod.mk.injEq] at h2
    obtain ⟨rfl, rfl⟩ := h2
    exact k _ H' F' s R' (.bl false)
  | false =>
    simp only [Bool.false_eq_true, if_false, Option.some.injEq, Prod.mk.injEq] at h2
    obtain ⟨rfl, rfl⟩ := h2
    exact k _ H' F' s R' (.bl true)
def sIf (t : STe) (fa fb : SE) : SE := fun ρ => match t ρ with
  | some (true, ρ1) => fa ρ1
  | some (false, ρ1) => fb ρ1
  | none => none
theorem eo_if {t : STe} {q : Expr} (ht : ET c X q t) (ha : EO c X a fa) (hb : EO c X b fb) : EO c X (.IfExp q a b pos) (sIf t fa fb) := by
  refine ⟨pe_imp (pe_ifExp ht.pt ha.pe hb.pe) fun σ H Q ⟨F, ρ, x, ρ', R, e, k⟩ => ?_⟩
  unfold sIf at e
  cases h1 : t ρ with
  | none => simp [h1] at e
  | some p =>
    obtain ⟨bb, ρ1⟩ := p
    refine ⟨F, ρ, bb, ρ1, R, h1, fun H' F' s R' => ?_⟩
    cases bb with
    | true =>
      simp only [h1] at e
      exact ⟨F', ρ1, x, ρ', R', e, fun w H2 F2 s2 R2 o2 => k w H2 F2 (s.trans s2) R2 o2⟩
    | false =>
      simp only [h1] at e
      exact ⟨F', ρ1, x, ρ', R', e, fun w H2 F2 s2 R2 o2 => k w H2 F2 (s.trans s2) R2 o2⟩
/-! ### tests -/
def tAnd' (ta tb : STe) : STe := fun ρ => match ta ρ with
  | some (true, ρ1) => tb ρ1
  | some (false, ρ1) => some (false, ρ1)
  | none => none
def tOr' (ta tb : STe) : STe := fun ρ => match ta ρ with
  | some (false, ρ1) => tb ρ1
  | some (true, ρ1) => some (true, ρ1)
  | none => none
def tNot' (ta : STe) : STe := fun ρ => match ta ρ with
  | some (b, ρ1) => some (!b, ρ1)
  | none => none
theorem ew_and {ta tb : STe} {rest : List Expr} (ha : ET c X a ta) (hb : EW c X (.BoolOp .And (b :: rest) pos) tb) : EW c X (.BoolOp .And (a :: b :: rest) pos) (tAnd' ta tb) := by
  refine ⟨pw_imp (pw_and ha.pt hb.pw) fun σ H Q ⟨F, ρ, x, ρ', R, e, k⟩ => ?_⟩
  unfold tAnd' at e
  cases h1 : ta ρ with
  | none => simp [h1] at e
  | some p =>
    obtain ⟨bb, ρ1⟩ := p
    refine ⟨F, ρ, bb, ρ1, R, h1, fun H' F' s R' => ?_⟩
    cases bb with
    | true =>
      simp only [h1] at e
      exact ⟨F', ρ1, x, ρ', R', e, fun H2 F2 s2 R2 => k H2 F2 (s.trans s2) R2⟩
    | false =>
      simp only [h1, Option.some.injEq, Prod.mk.injEq] at e
      obtain ⟨rfl, rfl⟩ := e
      exact k H' F' s R'
theorem ew_or {ta tb : STe} {rest : List Expr} (ha : ET c X a ta) (hb : EW c X (.BoolOp .Or (b :: rest) pos) tb) : EW c X (.BoolOp .Or (a :: b :: rest) pos) (tOr' ta tb) := by
  refine ⟨pw_imp (pw_or ha.pt hb.pw) fun σ H Q ⟨F, ρ, x, ρ', R, e, k⟩ => ?_⟩
  unfold tOr' at e
  cases h1 : ta ρ with
  | none => simp [h1] at e
  | some p =>
    obtain ⟨bb, ρ1⟩ := p
    refine ⟨F, ρ, bb, ρ1, R, h1, fun H' F' s R' => ?_⟩
    cases bb with
    | false =>
      simp only [h1] at e
      exact ⟨F', ρ1, x, ρ', R', e, fun H2 F2 s2 R2 => k H2 F2 (s.trans s2) R2⟩
    | true =>
      simp only [h1, Option.some.injEq, Prod.mk.injEq] at e
      obtain ⟨rfl, rfl⟩ := e
      exact k H' F' s R'
theorem ew_and1 {ta : STe} (ha : ET c X a ta) : EW c X (.BoolOp .And [a] pos) ta := ⟨pw_and1 ha.pt⟩
theorem ew_or1 {ta : STe} (ha : ET c X a ta) : EW c X (.BoolOp .Or [a] pos) ta := ⟨pw_or1 ha.pt⟩
theorem et_w {ta : STe} (h : EW c X e ta) : ET c X e ta := ⟨h.pw.pt⟩
theorem et_not {ta : STe} (ha : ET c X a ta) : ET c X (.UnaryOp .Not a pos) (tNot' ta) := by
  refine ⟨pt_imp (pt_not ha.pt) fun σ H Q ⟨F, ρ, x, ρ', R, e, k⟩ => ?_⟩
  unfold tNot' at e
  cases h1 : ta ρ with
  | none => simp [h1] at e
  | some p =>
    obtain ⟨bb, ρ1⟩ := p
    simp only [h1, Option.some.injEq, Prod.mk.injEq] at e
    obtain ⟨rfl, rfl⟩ := e
    exact ⟨F, ρ, bb, ρ1, R, h1, fun H' F' s R' => k H' F' s R'⟩
/-! ### argument lists -/
def sNil : SA := fun ρ => some ([], ρ)
def sCons (fa : SE) (fr : SA) : SA := fun ρ => match fa ρ with
  | none => none
  | some (x, ρ1) => match fr ρ1 with
    | none => none
    | some (xs, ρ2) => some (x :: xs, ρ2)
theorem ea_nil : EA c X [] sNil := by
  refine ⟨pa_imp pa_nil fun σ H Q ⟨F, ρ, x, ρ', R, e, k⟩ => ?_⟩
  simp only [sNil, Option.some.injEq, Prod.mk.injEq] at e
  obtain ⟨rfl, rfl⟩ := e
  exact k [] H F (Same.refl _) R trivial
theorem ea_cons {es : List Expr} {fr : SA} (ha : EO c X e fa) (hr : EA c X es fr) (hs : starEach (e :: es) X.env = (false, eval e X.env) :: starEach es X.env := by rfl) : EA c X (e :: es) (sCons fa fr) := by
  refine ⟨pa_imp (pa_cons ha.pe hr.pa hs) fun σ H Q ⟨F, ρ, x, ρ', R, e, k⟩ => ?_⟩
  unfold sCons at e
  cases h1 : fa ρ with
  | none => simp [h1] at e
  | some p =>
    obtain ⟨u, ρ1⟩ := p
    simp only [h1] at e
    cases h2 : fr ρ1 with
    | none => simp [h2] at e
    | some q =>
      obtain ⟨us, ρ2⟩ := q
      simp only [h2, Option.some.injEq, Prod.mk.injEq] at e
      obtain ⟨rfl, rfl⟩ := e
      exact ⟨F, ρ, u, ρ1, R, h1, fun v H1 F1 s1 R1 o1 => ⟨F1, ρ1, us, ρ2, R1, h2, fun vs H2 F2 s2 R2 o2 => k (v :: vs) H2 F2 (s1.trans s2) R2 ⟨o1.same s2, o2⟩⟩⟩
end
end PD
/-! Plain data: targets, statements, loops -/
namespace PD
open PySem PySem.Spec PyProof.Rows L2 GxR
inductive Fl where
  | nx | rt (d : PyData) | bk | ct
abbrev SS := Ev → Option (Fl × Ev)
abbrev SG := PyData → Ev → Option Ev
abbrev SGs := List PyData → Ev → Option Ev
abbrev SI := Ev → Option (List PyData × Ev)
def FlK (c : Co) (F : Hp) (D : Ends) (fl : Fl) (σ : L2.St) (H : Hp) : Prop := match fl with
  | .nx => D.nx σ H
  | .bk => D.bk σ H
  | .ct => D.ct σ H
  | .rt d => ∀ v, Dz c.K F v d → D.rt v H
def rS (c : Co) (f : SS) : TS := fun D σ H => ∃ F ρ fl ρ', Rl c F H σ ρ ∧ f ρ = some (fl, ρ') ∧ ∀ σ' H' F', Same F F' → Rl c F' H' σ' ρ' → FlK c F' D fl σ' H'
/-- alike but at the places ks -/
def But (ks : List Nat) (σ σ' : L2.St) : Prop := σ'.length = σ.length ∧ ∀ j : Nat, j ∉ ks → σ'[j]? = σ[j]?
def rG (c : Co) (g : SG) (ks : List Nat) : TG := fun x σ H Q => ∃ F ρ d ρ', Rl c F H σ ρ ∧ Dz c.K F x d ∧ g d ρ = some ρ' ∧ ∀ σ', But ks σ σ' → Rl c F H σ' ρ' → Q σ' H
def rGs (c : Co) (g : SGs) (ks : List Nat) : TGs := fun xs σ H Q => ∃ F ρ ds ρ', Rl c F H σ ρ ∧ DzAll c.K F xs ds ∧ g ds ρ = some ρ' ∧ ∀ σ', But ks σ σ' → Rl c F H σ' ρ' → Q σ' H
/-- from F on, J yields the items -/
structure Wk (c : Co) (J : It) (F : Hp) (items : List PyData) : Prop where
  go : ∀ i d F2 H2, items[i]? = some d → Same F F2 → Same F2 H2 → J.go i H2 ∧ ∀ x H3, J.yld i H2 x H3 → ∃ F3, Xt F2 H2 F3 H3 ∧ Dz c.K F3 x d
  stop : ∀ F2 H2, Same F F2 → Same F2 H2 → J.stop items.length H2
def rIt (c : Co) (f : SI) : TI := fun σ H R => ∃ F ρ items ρ', Rl c F H σ ρ ∧ f ρ = some (items, ρ') ∧ ∀ J H' F', Same F F' → Rl c F' H' σ ρ' → Wk c J F' items → R J H'
structure ES (c : Co) (X : Cx) (s : Stmt) (f : SS) : Prop where
  ps : PS X s (rS c f)
structure ESs (c : Co) (X : Cx) (s : List Stmt) (f : SS) : Prop where
  pss : PSs X s (rS c f)
structure EG (c : Co) (X : Cx) (e : Expr) (g : SG) (ks : List Nat) : Prop where
  pg : PG X e (rG c g ks)
structure EGs (c : Co) (X : Cx) (e : List Expr) (g : SGs) (ks : List Nat) : Prop where
  pgs : PGs X e (rGs c g ks)
structure EI (c : Co) (X : Cx) (tg e : Expr) (f : SI) : Prop where
  pi : PI X tg e (rIt c f)
theorem ps_imp {X : Cx} {e : Stmt} {t t' : TS} (h : PS X e t) (i : ∀ D σ H, t' D σ H → t D σ H) : PS X e t' := ⟨fun pins s σ H D I q => h.run pins s σ H D I (i D σ H q)⟩
theorem pss_imp {X : Cx} {e : List Stmt} {t t' : TS} (h : PSs X e t) (i : ∀ D σ H, t' D σ H → t D σ H) : PSs X e t' := ⟨fun pins s σ H D I q => h.run pins s σ H D I (i D σ H q)⟩
theorem pg_imp {X : Cx} {e : Expr} {t t' : TG} (h : PG X e t) (i : ∀ x σ H Q, t' x σ H Q → t x σ H Q) : PG X e t' := ⟨fun pins s σ H v u Q I r q => h.run pins s σ H v u Q I r (i v σ H Q q)⟩
theorem pgs_imp {X : Cx} {e : List Expr} {t t' : TGs} (h : PGs X e t) (i : ∀ x σ H Q, t' x σ H Q → t x σ H Q) : PGs X e t' := ⟨fun pins s σ H v u Q I r q => h.run pins s σ H v u Q I r (i v σ H Q q)⟩
section
variable {c : Co} {X : Cx} {e tg : Expr} {pos : Pos}
/-! ### targets -/
def gN (i : Nat) : SG := fun d ρ => some (ρ.set i (.dat d))
theorem eg_n (i : Nat) {x : Str} (h : PG X (.Name x pos) (gName i)) : EG c X (.Name x pos) (gN i) [i] := by
  refine ⟨pg_imp h fun x σ H Q ⟨F, ρ, d, ρ', R, hx, e, k⟩ => ?_⟩
  cases e
  exact k _ ⟨List.length_set, fun j hj => List.getElem?_set_ne (fun z => hj (by rw [z]; simp))⟩ (R.set hx)
def gsNil : SGs := fun ds ρ => match ds with
  | [] => some ρ
  | _ => none
def gsCons (g : SG) (gs : SGs) : SGs := fun ds ρ => match ds with
  | d :: r => match g d ρ with
    | some ρ1 => gs r ρ1
    | none => none
  | _ => none
theorem egs_nil : EGs c X [] gsNil [] := by
  refine ⟨pgs_imp pgs_nil fun xs σ H Q ⟨F, ρ, ds, ρ', R, hx, e, k⟩ => ?_⟩
  cases hx with
  | nil =>
    cases e
    exact ⟨rfl, k _ ⟨rfl, fun _ _ => rfl⟩ R⟩
  | cons a b => cases e
theorem egs_cons {es : List Expr} {g : SG} {gs : SGs} {ks ls : List Nat} (hg : EG c X e g ks) (hs : EGs c X es gs ls) (h : ∀ {t u}, PG X e t → PGs X es u → PGs X (e :: es) (gCons t u)) : EGs c X (e :: es) (gsCons g gs) (ks ++ ls) := by
  refine ⟨pgs_imp (h hg.pg hs.pgs) fun xs σ H Q ⟨F, ρ, ds, ρ', R, hx, e, k⟩ => ?_⟩
  cases hx with
  | nil => cases e
  | cons a b =>
    unfold gsCons at e
    dsimp only at e
    cases e1 : g _ ρ with
    | none => rw [e1] at e; cases e
    | some ρ1 =>
      rw [e1] at e
      refine ⟨_, _, rfl, F, ρ, _, ρ1, R, a, e1, fun σ1 b1 R1 => ?_⟩
      exact ⟨F, ρ1, _, ρ', R1, b, e, fun σ2 b2 R2 => k σ2 ⟨b2.1.trans b1.1, fun j hj => (b2.2 j fun z => hj (List.mem_append_right _ z)).trans (b1.2 j fun z => hj (List.mem_append_left _ z))⟩ R2⟩
def gT (gs : SGs) (n : Nat) : SG := fun d ρ => match d with
  | .tuple ds => if ds.length = n then gs ds ρ else none
  | _ => none
theorem eg_t {es : List Expr} {k n : Nat} {gs : SGs} {ks : List Nat} (h : EGs c X es gs ks) (hp : ∀ {t}, PGs X es t → PG X (.Tuple es k pos) (gTup X.K n t)) (hK : X.K = c.K) : EG c X (.Tuple es k pos) (gT gs n) ks := by
  refine ⟨pg_imp (hp h.pgs) fun x σ H Q ⟨F, ρ, d, ρ', R, hx, e, k⟩ => ?_⟩
  unfold gT at e
  cases d with
  | tuple ds =>
    simp only at e
    split at e
    · rename_i hn
      cases hx with
      | tup hS hs =>
        refine ⟨_, _, rfl, ?_, by rw [dpAll_len hs]; exact hn, F, ρ, ds, ρ', R, hs, e, k⟩
        rw [hK]
        exact sqT_same R.sub hS
    · cases e
  | _ => cases e
/-! ### statements -/
def sNx : SS := fun ρ => some (.nx, ρ)
def sSeq (f g : SS) : SS := fun ρ => match f ρ with
  | some (.nx, ρ1) => g ρ1
  | r => r
theorem ess_nil : ESs c X [] sNx := by
  refine ⟨pss_imp pss_nil fun D σ H ⟨F, ρ, fl, ρ', R, e, k⟩ => ?_⟩
  cases e
  exact k σ H F (Same.refl _) R
theorem ess_cons {s : Stmt} {ss : List Stmt} {f g : SS} (h1 : ES c X s f) (h2 : ESs c X ss g) : ESs c X (s :: ss) (sSeq f g) := by
  refine ⟨pss_imp (pss_cons h1.ps h2.pss) fun D σ H ⟨F, ρ, fl, ρ', R, e, k⟩ => ?_⟩
  unfold sSeq at e
  cases e1 : f ρ with
  | none => simp [e1] at e
  | some p =>
    obtain ⟨f1, ρ1⟩ := p
    refine ⟨F, ρ, f1, ρ1, R, e1, fun σ' H' F' s' R' => ?_⟩
    cases f1 with
    | nx =>
      simp only [e1] at e
      exact ⟨F', ρ1, fl, ρ', R', e, fun σ2 H2 F2 s2 R2 => k σ2 H2 F2 (s'.trans s2) R2⟩
    | bk =>
      simp only [e1, Option.some.injEq, Prod.mk.injEq] at e
      obtain ⟨rfl, rfl⟩ := e
      exact k σ' H' F' s' R'
    | ct =>
      simp only [e1, Option.some.injEq, Prod.mk.injEq] at e
      obtain ⟨rfl, rfl⟩ := e
      exact k σ' H' F' s' R'
    | rt d =>
      simp only [e1, Option.some.injEq, Prod.mk.injEq] at e
      obtain ⟨rfl, rfl⟩ := e
      exact k σ' H' F' s' R'
def sAsg (f : SE) (g : SG) : SS := fun ρ => match f ρ with
  | some (.d d, ρ1) => (g d ρ1).map fun ρ2 => (.nx, ρ2)
  | _ => none
theorem es_asg {f : SE} {g : SG} {st : Stmt} (h : ∀ {te : TE} {tg' : TG}, PE X e te → PG X tg tg' → PS X st (tAsg te tg')) (he : EO c X e f) {ks : List Nat} (hg : EG c X tg g ks) : ES c X st (sAsg f g) := by
  refine ⟨ps_imp (h he.pe hg.pg) fun D σ H ⟨F, ρ, fl, ρ', R, e, k⟩ => ?_⟩
  unfold sAsg at e
  cases e1 : f ρ with
  | none => simp [e1] at e
  | some p =>
    obtain ⟨x, ρ1⟩ := p
    cases x with
    | s i => simp [e1] at e
    | d d =>
      simp only [e1] at e
      cases e2 : g d ρ1 with
      | none => simp [e2] at e
      | some ρ2 =>
        simp only [e2, Option.map_some, Option.some.injEq, Prod.mk.injEq] at e
        obtain ⟨rfl, rfl⟩ := e
        exact ⟨F, ρ, _, ρ1, R, e1, fun v H' F' s' R' o => ⟨F', ρ1, d, ρ2, R', o, e2, fun σ2 _ R2 => k σ2 H' F' s' R2⟩⟩
def sRet (f : SE) : SS := fun ρ => match f ρ with
  | some (.d d, ρ1) => some (.rt d, ρ1)
  | _ => none
def sExp (f : SE) : SS := fun ρ => match f ρ with
  | some (_, ρ1) => some (.nx, ρ1)
  | _ => none
theorem es_exp {f : SE} (he : EO c X e f) (hs : swapsWith e none pos.line X.env = pure false := by rfl) : ES c X (.Expr e pos) (sExp f) := by
  refine ⟨ps_imp (ps_expr he.pe hs) fun D σ H ⟨F, ρ, fl, ρ', R, e, k⟩ => ?_⟩
  unfold sExp at e
  cases e1 : f ρ with
  | none => simp [e1] at e
  | some p =>
    obtain ⟨x, ρ1⟩ := p
    simp only [e1, Option.some.injEq, Prod.mk.injEq] at e
    obtain ⟨rfl, rfl⟩ := e
    exact ⟨F, ρ, x, ρ1, R, e1, fun v H' F' s' R' o => k σ H' F' s' R'⟩
def sIfS (t : STe) (f g : SS) : SS := fun ρ => match t ρ with
  | some (true, ρ1) => f ρ1
  | some (false, ρ1) => g ρ1
  | none => none
theorem es_if {t : STe} {f g : SS} {q : Expr} {a b : List Stmt} (ht : ET c X q t) (ha : ESs c X a f) (hb : ESs c X b g) : ES c X (.If q a b pos) (sIfS t f g) := by
  refine ⟨ps_imp (ps_if ht.pt ha.pss hb.pss) fun D σ H ⟨F, ρ, fl, ρ', R, e, k⟩ => ?_⟩
  unfold sIfS at e
  cases h1 : t ρ with
  | none => simp [h1] at e
  | some p =>
    obtain ⟨bb, ρ1⟩ := p
    refine ⟨F, ρ, bb, ρ1, R, h1, fun H' F' s R' => ?_⟩
    cases bb with
    | true =>
      simp only [h1] at e
      exact ⟨F', ρ1, fl, ρ', R', e, fun σ2 H2 F2 s2 R2 => k σ2 H2 F2 (s.trans s2) R2⟩
    | false =>
      simp only [h1] at e
      exact ⟨F', ρ1, fl, ρ', R', e, fun σ2 H2 F2 s2 R2 => k σ2 H2 F2 (s.trans s2) R2⟩
def sNever : SS := fun _ => none
theorem es_never {s : Stmt} : ES c X s sNever := ⟨⟨fun pins s σ H D I ⟨F, ρ, fl, ρ', R, e, k⟩ => by cases e⟩⟩
theorem es_break : ES c X (.Break pos) (fun ρ => some (.bk, ρ)) := by
  refine ⟨ps_imp ps_break fun D σ H ⟨F, ρ, fl, ρ', R, e, k⟩ => ?_⟩
  cases e
  exact k σ H F (Same.refl _) R
/-! ### loops -/
def loopS (g : SG) (b : SS) : List PyData → Ev → Option (Fl × Ev)
  | [], ρ => some (.nx, ρ)
  | d :: ds, ρ => match g d ρ with
    | none => none
    | some ρ1 => match b ρ1 with
      | none => none
      | some (.nx, ρ2) => loopS g b ds ρ2
      | some (.ct, ρ2) => loopS g b ds ρ2
      | some (.bk, ρ2) => some (.nx, ρ2)
      | some (.rt d, ρ2) => some (.rt d, ρ2)
def sFor (g : SG) (fi : SI) (b : SS) : SS := fun ρ => match fi ρ with
  | some (items, ρ1) => loopS g b items ρ1
  | none => none
theorem es_for {iter : Expr} {body : List Stmt} {g : SG} {fi : SI} {b : SS} {st : Stmt} (h : ∀ {wi : TI} {g' : TG} {tb : TS}, PI X tg iter wi → PG X tg g' → PSs X body tb → PS X st (tFor wi g' tb)) (hi : EI c X tg iter fi) {ks : List Nat} (hg : EG c X tg g ks) (hb : ESs c X body b) : ES c X st (sFor g fi b) := by
  refine ⟨ps_imp (h hi.pi hg.pg hb.pss) fun D σ H ⟨F, ρ, fl, ρ', R, e, k⟩ => ?_⟩
  unfold sFor at e
  cases e1 : fi ρ with
  | none => simp [e1] at e
  | some p =>
    obtain ⟨items, ρ1⟩ := p
    simp only [e1] at e
    refine ⟨F, ρ, items, ρ1, R, e1, fun J H1 F1 s1 R1 wk => ?_⟩
    refine ⟨fun i m σ H => i + m = items.length ∧ ∃ F2 ρ2, Same F1 F2 ∧ Rl c F2 H σ ρ2 ∧ loopS g b (items.drop i) ρ2 = some (fl, ρ'), ⟨items.length, by omega, F1, ρ1, Same.refl _, R1, e⟩, ?_⟩
    rintro i m σ2 H2 ⟨him, F2, ρ2, s2, R2, e2⟩
    cases m with
    | zero =>
      have hi : i = items.length := by omega
      rw [hi, List.drop_length] at e2
      simp only [loopS, Option.some.injEq, Prod.mk.injEq] at e2
      obtain ⟨rfl, rfl⟩ := e2
      rw [hi]
      exact .inl ⟨wk.stop F2 H2 s2 R2.sub, k σ2 H2 F2 (s1.trans s2) R2⟩
    | succ m =>
      have hi : i < items.length := by omega
      rw [List.drop_eq_getElem_cons hi] at e2
      have at_ : items[i]? = some items[i] := List.getElem?_eq_getElem hi
      obtain ⟨go, yl⟩ := wk.go i _ F2 H2 at_ s2 R2.sub
      simp only [loopS] at e2
      cases e3 : g items[i] ρ2 with
      | none => simp [e3] at e2
      | some ρ3 =>
        simp only [e3] at e2
        cases e4 : b ρ3 with
        | none => simp [e4] at e2
        | some q =>
          obtain ⟨f4, ρ4⟩ := q
          simp only [e4] at e2
          refine .inr ⟨go, fun σ' H' => i + 1 + m = items.length ∧ ∃ F2 ρ2, Same F1 F2 ∧ Rl c F2 H' σ' ρ2 ∧ loopS g b (items.drop (i + 1)) ρ2 = some (fl, ρ'), fun σ' H' hN => ⟨m, by omega, hN⟩, fun x H3 hy => ?_⟩
          obtain ⟨F3, xt, dx⟩ := yl x H3 hy
          refine ⟨F3, ρ2, _, ρ3, R2.xt xt, dx, e3, fun σ5 _ R5 => ⟨F3, ρ3, f4, ρ4, R5, e4, fun σ6 H6 F6 s6 R6 => ?_⟩⟩
          have s16 : Same F1 F6 := s2.trans (xt.f.trans s6)
          cases f4 with
          | nx => exact ⟨by omega, F6, ρ4, s16, R6, e2⟩
          | ct => exact ⟨by omega, F6, ρ4, s16, R6, e2⟩
          | bk =>
            simp only [Option.some.injEq, Prod.mk.injEq] at e2
            obtain ⟨rfl, rfl⟩ := e2
            exact k σ6 H6 F6 (s1.trans s16) R6
          | rt d =>
            simp only [Option.some.injEq, Prod.mk.injEq] at e2
            obtain ⟨rfl, rfl⟩ := e2
            exact k σ6 H6 F6 (s1.trans s16) R6
def loopW (t : STe) (b : SS) : Nat → Ev → Option (Fl × Ev)
  | 0, _ => none
  | n + 1, ρ => match t ρ with
    | none => none
    | some (false, ρ1) => some (.nx, ρ1)
    | some (true, ρ1) => match b ρ1 with
      | none => none
      | some (.nx, ρ2) => loopW t b n ρ2
      | some (.ct, ρ2) => loopW t b n ρ2
      | some (.bk, ρ2) => some (.nx, ρ2)
      | some (.rt d, ρ2) => some (.rt d, ρ2)
theorem es_while {n : Nat} {q : Expr} {body : List Stmt} {t : STe} {b : SS} {st : Stmt} (h : ∀ {tc : TT} {tb : TS}, PT X q tc → PSs X body tb → PS X st (tWhile tc tb)) (ht : ET c X q t) (hb : ESs c X body b) : ES c X st (loopW t b n) := by
  refine ⟨ps_imp (h ht.pt hb.pss) fun D σ H ⟨F, ρ, fl, ρ', R, e, k⟩ => ?_⟩
  refine ⟨fun m σ H => ∃ F2 ρ2, Same F F2 ∧ Rl c F2 H σ ρ2 ∧ loopW t b m ρ2 = some (fl, ρ'), ⟨n, F, ρ, Same.refl _, R, e⟩, ?_⟩
  rintro m σ2 H2 ⟨F2, ρ2, s2, R2, e2⟩
  cases m with
  | zero => cases e2
  | succ m =>
    simp only [loopW] at e2
    cases e3 : t ρ2 with
    | none => simp [e3] at e2
    | some p =>
      obtain ⟨bb, ρ3⟩ := p
      refine ⟨F2, ρ2, bb, ρ3, R2, e3, fun H3 F3 s3 R3 => ?_⟩
      cases bb with
      | false =>
        simp only [e3, Option.some.injEq, Prod.mk.injEq] at e2
        obtain ⟨rfl, rfl⟩ := e2
        exact k σ2 H3 F3 (s2.trans s3) R3
      | true =>
        simp only [e3] at e2
        cases e4 : b ρ3 with
        | none => simp [e4] at e2
        | some q =>
          obtain ⟨f4, ρ4⟩ := q
          simp only [e4] at e2
          refine ⟨fun σ' H' => ∃ F5 ρ5, Same F F5 ∧ Rl c F5 H' σ' ρ5 ∧ loopW t b m ρ5 = some (fl, ρ'), fun σ' H' hN => ⟨m, Nat.lt_succ_self m, hN⟩, F3, ρ3, f4, ρ4, R3, e4, fun σ6 H6 F6 s6 R6 => ?_⟩
          have s16 : Same F F6 := s2.trans (s3.trans s6)
          cases f4 with
          | nx => exact ⟨F6, ρ4, s16, R6, e2⟩
          | ct => exact ⟨F6, ρ4, s16, R6, e2⟩
          | bk =>
            simp only [Option.some.injEq, Prod.mk.injEq] at e2
            obtain ⟨rfl, rfl⟩ := e2
            exact k σ6 H6 F6 s16 R6
          | rt d =>
            simp only [Option.some.injEq, Prod.mk.injEq] at e2
            obtain ⟨rfl, rfl⟩ := e2
            exact k σ6 H6 F6 s16 R6
/-! ### what is walked -/
def sSq (f : SE) : SI := fun ρ => match f ρ with
  | some (.d (.list ds), ρ1) => some (ds, ρ1)
  | some (.d (.tuple ds), ρ1) => some (ds, ρ1)
  | _ => none
theorem wk_list {F : Hp} {a : Addr} {vs : List V} {ds : List PyData} (hK : X.K = c.K) (h : SqL c.K F a vs) (hs : DzAll c.K F vs ds) : Wk c (Itl X.K a) F ds := by
  rw [hK]
  refine ⟨fun i d F2 H2 e s1 s2 => ?_, fun F2 H2 s1 s2 => ⟨vs, s2.seq (s1.seq h), by rw [dpAll_len hs]; exact Nat.le_refl _⟩⟩
  obtain ⟨v, ev, dv⟩ := dpAll_at hs e
  refine ⟨⟨vs, v, s2.seq (s1.seq h), ev⟩, fun x H3 ⟨e1, e2⟩ => ?_⟩
  subst e1
  have := e2 vs (s2.seq (s1.seq h))
  rw [ev] at this
  cases this
  exact ⟨F2, Xt.refl s2, dp_same s1 dv⟩
theorem wk_tup {F : Hp} {a : Addr} {vs : List V} {ds : List PyData} (hK : X.K = c.K) (h : SqT c.K F a vs) (hs : DzAll c.K F vs ds) : Wk c (Itt X.K a) F ds := by
  rw [hK]
  refine ⟨fun i d F2 H2 e s1 s2 => ?_, fun F2 H2 s1 s2 => ⟨vs, sqT_same s2 (sqT_same s1 h), by rw [dpAll_len hs]; exact Nat.le_refl _⟩⟩
  obtain ⟨v, ev, dv⟩ := dpAll_at hs e
  refine ⟨⟨vs, v, sqT_same s2 (sqT_same s1 h), ev⟩, fun x H3 ⟨e1, e2⟩ => ?_⟩
  subst e1
  have := e2 vs (sqT_same s2 (sqT_same s1 h))
  rw [ev] at this
  cases this
  exact ⟨F2, Xt.refl s2, dp_same s1 dv⟩
theorem ei_sq {f : SE} (hK : X.K = c.K) (he : EO c X e f) : EI c X tg e (sSq f) := by
  refine ⟨⟨fun pins s σ H R I ⟨F, ρ, items, ρ', RR, e1, k⟩ => ?_⟩⟩
  unfold sSq at e1
  cases e2 : f ρ with
  | none => simp [e2] at e1
  | some p =>
    obtain ⟨x, ρ1⟩ := p
    cases x with
    | s i => simp [e2] at e1
    | d d =>
      cases d with
      | list ds =>
        simp only [e2, Option.some.injEq, Prod.mk.injEq] at e1
        obtain ⟨rfl, rfl⟩ := e1
        refine (pi_list (tg := tg) he.pe).run pins s σ H R I ⟨F, ρ, _, ρ1, RR, e2, fun v H' F' s' R' o => ?_⟩
        cases o with
        | lst h hs => exact ⟨_, rfl, ⟨_, by rw [hK]; exact R'.sub.seq h⟩, k _ H' F' s' R' (wk_list hK h hs)⟩
      | tuple ds =>
        simp only [e2, Option.some.injEq, Prod.mk.injEq] at e1
        obtain ⟨rfl, rfl⟩ := e1
        refine (pi_tup (tg := tg) he.pe).run pins s σ H R I ⟨F, ρ, _, ρ1, RR, e2, fun v H' F' s' R' o => ?_⟩
        cases o with
        | tup h hs => exact ⟨_, rfl, ⟨_, by rw [hK]; exact sqT_same R'.sub h⟩, k _ H' F' s' R' (wk_tup hK h hs)⟩
      | _ => simp [e2] at e1
/-- range(a), range(a, b) -/
def rangeD (a b : Int) : List PyData := (List.range (b - a).toNat).map fun i => .int (a + (i : Nat))
def sRg1 (f : SA) : SI := fun ρ => match f ρ with
  | some ([.d (.int n)], ρ1) => if n.natAbs < 4611686018427387904 then some (rangeD 0 n, ρ1) else none
  | _ => none
def sRg2 (f : SA) : SI := fun ρ => match f ρ with
  | some ([.d (.int a), .d (.int b)], ρ1) => if a.natAbs < 4611686018427387904 ∧ b.natAbs < 4611686018427387904 then some (rangeD a b, ρ1) else none
  | _ => none
theorem wk_range {F : Hp} {a b : Int} : Wk c (Itr a (b - a).toNat) F (rangeD a b) := by
  refine ⟨fun i d F2 H2 e s1 s2 => ?_, fun F2 H2 s1 s2 => ?_⟩
  · unfold rangeD at e
    rw [List.getElem?_map] at e
    obtain ⟨j, e1, e2⟩ := Option.map_eq_some_iff.mp e
    obtain ⟨hj, e3⟩ := List.getElem?_eq_some_iff.mp e1
    rw [List.getElem_range] at e3
    rw [List.length_range] at hj
    subst e3
    refine ⟨hj, fun x H3 ⟨e4, e5⟩ => ?_⟩
    subst e4
    subst e5
    rw [← e2]
    exact ⟨F2, Xt.refl s2, .int _⟩
  · show (b - a).toNat ≤ (rangeD a b).length
    unfold rangeD
    rw [List.length_map, List.length_range]
    exact Nat.le_refl _
end
end PD
/-! Plain data: defs and their calls -/
namespace PD
open PySem PySem.Spec PyProof.Rows L2 GxR
def allD : List Ob → Option (List PyData)
  | [] => some []
  | .d d :: r => (allD r).map (d :: ·)
  | .s _ :: _ => none
theorem allD_ok {c : Co} {F : Hp} {σ : L2.St} : ∀ {vs : List V} {xs : List Ob} {ds : List PyData}, ObsOk c F σ vs xs → allD xs = some ds → DzAll c.K F vs ds
  | [], [], _, _, e => by cases e; exact .nil
  | v :: vs, .d d :: xs, ds, h, e => by
    simp only [allD, Option.map_eq_some_iff] at e
    obtain ⟨r, e1, rfl⟩ := e
    exact .cons h.1 (allD_ok h.2 e1)
  | _ :: _, .s _ :: _, _, _, e => by cases e
  | [], _ :: _, _, h, _ => h.elim
  | _ :: _, [], _, h, _ => h.elim
/-- the promise of a def on data -/
def spP (K : PySem.W.Frag) (T : List Addr) (f : List PyData → Option PyData) : Sp := fun vs H Q _ => ∃ F ds d, DzAll K F vs ds ∧ Same F H ∧ (∀ P ∈ T, F P = none ∧ TabG H P) ∧ TF K F ∧ f ds = some d ∧
  ∀ v H' F', Same F F' → Same F' H' → (∀ P ∈ T, F' P = none ∧ TabG H' P) → (∀ b o, H b = some o → b ∉ T → H' b = some o) → (∀ a, H a ≠ none → F a = none → F' a = none) → TF K F' → Dz K F' v d → Q v H'
/-- .. of a def that changes the list that is its first argument -/
def spI (K : PySem.W.Frag) (T : List Addr) (f : List PyData → List PyData → Option (PyData × List PyData)) : Sp := fun vs H Q _ => ∃ F r ws rs us ds d rs', vs = .ref r :: us ∧ H r = some (.lst ws) ∧ DzAll K F ws rs ∧ DzAll K F us ds ∧ Same F H ∧ F r = none ∧ r ∉ T ∧
  (∀ P ∈ T, F P = none ∧ TabG H P) ∧ TF K F ∧ f rs ds = some (d, rs') ∧
  ∀ v H' F' ws', Same F F' → Same F' H' → (∀ P ∈ T, F' P = none ∧ TabG H' P) → (∀ b o, H b = some o → b ∉ T → b ≠ r → H' b = some o) → H' r = some (.lst ws') → DzAll K F' ws' rs' → F' r = none → (∀ a, H a ≠ none → F a = none → F' a = none) → TF K F' → Dz K F' v d → Q v H'
def startE (n : Nat) (ds : List PyData) : Ev := ds.map Sl.dat ++ List.replicate (n - ds.length) Sl.un
def bodyP (g : SS) (n : Nat) (ds : List PyData) : Option PyData := match g (startE n ds) with
  | some (.rt d, _) => some d
  | some (.nx, _) => some .none
  | _ => none
def startI (n : Nat) (rs ds : List PyData) : Ev := Sl.io rs :: (ds.map Sl.dat ++ List.replicate (n - 1 - ds.length) Sl.un)
def bodyI (g : SS) (n : Nat) (rs ds : List PyData) : Option (PyData × List PyData) := match g (startI n rs ds) with
  | some (.rt d, ρ) => match (ρ[0]? : Option Sl) with
    | some (Sl.io rs') => some (d, rs')
    | _ => none
  | some (.nx, ρ) => match (ρ[0]? : Option Sl) with
    | some (Sl.io rs') => some (.none, rs')
    | _ => none
  | _ => none
section
variable {K : PySem.W.Frag} {T : List Addr} {F H : Hp}
theorem vAt_start {N : List Str} {vs : List V} {i : Nat} (h : i < vs.length) : vAt (L2.start N vs) i = some vs[i] := by
  unfold vAt L2.start
  rw [List.getElem?_append_left (by rw [List.length_map]; exact h), List.getElem?_map, List.getElem?_eq_getElem h]
  rfl
theorem startE_cases {n : Nat} {ds : List PyData} {i : Nat} {sl : Sl} (h : (startE n ds)[i]? = some sl) : (∃ d, ds[i]? = some d ∧ sl = .dat d) ∨ sl = .un := by
  unfold startE at h
  by_cases hi : i < ds.length
  · rw [List.getElem?_append_left (by rw [List.length_map]; exact hi), List.getElem?_map, List.getElem?_eq_getElem hi] at h
    cases h
    exact .inl ⟨_, List.getElem?_eq_getElem hi, rfl⟩
  · rw [List.getElem?_append_right (by rw [List.length_map]; omega)] at h
    obtain ⟨_, e⟩ := List.getElem?_eq_some_iff.mp h
    rw [List.getElem_replicate] at e
    exact .inr e.symm
theorem rl_start {N : List Str} {vs : List V} {ds : List PyData} (hd : DzAll K F vs ds) (hn : ds.length ≤ N.length) (s : Same F H) (t : ∀ P ∈ T, F P = none ∧ TabG H P) (tf : TF K F) :
    Rl ⟨K, T, H, F, [], []⟩ F H (L2.start N vs) (startE N.length ds) := by
  have hl := dpAll_len hd
  refine ⟨?_, s, fun P hP => (t P hP).1, fun P hP => (t P hP).2, Same.refl _, fun b o e _ _ => e, fun a ha => (by cases ha), fun i sl e => ?_, fun i j a x y e1 => ?_, fun i j x y e1 => ?_, fun a _ h => h, tf, fun i j a x y e1 => ?_⟩
  · unfold L2.start startE
    rw [List.length_append, List.length_append, List.length_map, List.length_map, List.length_replicate, List.length_replicate, hl]
  · rcases startE_cases e with ⟨d, e1, rfl⟩ | rfl
    · obtain ⟨v, e2, dv⟩ := dpAll_at hd e1
      obtain ⟨hi, e3⟩ := List.getElem?_eq_some_iff.mp e2
      exact ⟨v, by rw [vAt_start hi, e3], dv⟩
    · trivial
  · rcases startE_cases e1 with ⟨d, _, h⟩ | h <;> cases h
  · rcases startE_cases e1 with ⟨d, _, h⟩ | h <;> cases h
  · rcases startE_cases e1 with ⟨d, _, h⟩ | h <;> cases h
/-- a def on data, by its body -/
theorem fn_pure {P : Program} {w : World} {mg : Str → Option Value} {base : Heap} {x qual : Str} {st : Stmt} {f : Addr} {fd : FuncData} {N ps : List Str} {k : Nat} (Fu : Fun K x qual st f fd) (S : FnScope N ps (defScope st)) (g : SS) (hnp : ps.length ≤ N.length)
    (hb : ∀ (cdv : Value) (A : Around) (outer : List Env) (s : Shared) (H : Hp) (E : XK) (H0 F0 : Hp) (io : List Addr), Room k (A.deeper (envOfC qual (defScope st) s.heap.objs.size f cdv)) →
      ESs ⟨K, T, H0, F0, io, []⟩ (cxOf CX0 P w K mg base N qual (defScope st) f cdv A outer s H E).nox (defBody st) g) :
    FnOk P w K mg base CX0 (k + 1) f fd ps (spP K T (fun ds => if ds.length = ps.length then bodyP g N.length ds else none)) := by
  refine Fu.ok S (fun vs H Q E h => ?_) (fun cdv A outer s H vs Q E hr h => ?_)
  · obtain ⟨F, ds, d, hd, _, _, _, e, _⟩ := h
    dsimp only at e
    split at e
    · rename_i hl
      rw [dpAll_len hd, hl]
    · cases e
  · obtain ⟨F, ds, d, hd, sF, t, tf, e, q⟩ := h
    dsimp only at e
    split at e
    · rename_i hl
      have es := hb cdv A outer s H E H F [] hr
      refine ⟨_, es.pss, ?_⟩
      have R := rl_start (N := N) hd (by rw [hl]; exact hnp) sF t tf
      unfold bodyP at e
      cases e1 : g (startE N.length ds) with
      | none => rw [e1] at e; cases e
      | some p =>
        obtain ⟨fl, ρ'⟩ := p
        rw [e1] at e
        refine ⟨F, _, fl, ρ', R, e1, fun σ' H' F' s' R' => ?_⟩
        have fin : ∀ v, Dz K F' v d → Q v H' := fun v dv => q v H' F' s' R'.sub (fun P hP => ⟨R'.ft P hP, R'.tb P hP⟩) (fun b o e1 e2 => R'.fr b o e1 e2 (by simp)) R'.nw R'.tf dv
        cases fl with
        | rt d' =>
          cases e
          exact fun v dv => fin v dv
        | nx =>
          cases e
          exact fin .non .non
        | bk => cases e
        | ct => cases e
    · cases e
/-- .. that holds a generator expression: its code object at cA -/
theorem fn_pureC {P : Program} {w : World} {mg : Str → Option Value} {base : Heap} {x qual : Str} {st : Stmt} {f : Addr} {N ps : List Str} {k : Nat} {oc : Value} {od an : Option Addr} {osl : Array (Option Value)} {dV kV doc pm cA ct : Value}
    (l : K.lookup f = some ⟨oc, od, .func (PySem.W.fnOf x qual (defArgs st) (defBody st) (defScope st) dV kV doc pm an cA ct), osl⟩) (cd : PySem.W.codeIn K cA qual = true) (S : FnScope N ps (defScope st)) (g : SS) (hnp : ps.length ≤ N.length)
    (hb : ∀ (A : Around) (outer : List Env) (s : Shared) (H : Hp) (E : XK) (H0 F0 : Hp) (io : List Addr), Room k (A.deeper (envOfC qual (defScope st) s.heap.objs.size f cA)) →
      ESs ⟨K, T, H0, F0, io, []⟩ (cxOf CX0 P w K mg base N qual (defScope st) f cA A outer s H E).nox (defBody st) g) :
    FnOk P w K mg base CX0 (k + 1) f (PySem.W.fnOf x qual (defArgs st) (defBody st) (defScope st) dV kV doc pm an cA ct) ps (spP K T (fun ds => if ds.length = ps.length then bodyP g N.length ds else none)) := by
  refine fn_of l cd S (fun vs H Q E h => ?_) fun A outer s H vs Q E hr h => ?_
  · obtain ⟨F, ds, d, hd, _, _, _, e, _⟩ := h
    dsimp only at e
    split at e
    · rename_i hl
      rw [dpAll_len hd, hl]
    · cases e
  · obtain ⟨F, ds, d, hd, sF, t, tf, e, q⟩ := h
    dsimp only at e
    split at e
    · rename_i hl
      have es := hb A outer s H E H F [] hr
      refine ⟨_, es.pss.nox, ?_⟩
      have R := rl_start (N := N) hd (by rw [hl]; exact hnp) sF t tf
      unfold bodyP at e
      cases e1 : g (startE N.length ds) with
      | none => rw [e1] at e; cases e
      | some p =>
        obtain ⟨fl, ρ'⟩ := p
        rw [e1] at e
        refine ⟨F, _, fl, ρ', R, e1, fun σ' H' F' s' R' => ?_⟩
        have fin : ∀ v, Dz K F' v d → Q v H' := fun v dv => q v H' F' s' R'.sub (fun P hP => ⟨R'.ft P hP, R'.tb P hP⟩) (fun b o e1 e2 => R'.fr b o e1 e2 (by simp)) R'.nw R'.tf dv
        cases fl with
        | rt d' =>
          cases e
          exact fun v dv => fin v dv
        | nx =>
          cases e
          exact fin .non .non
        | bk => cases e
        | ct => cases e
    · cases e
theorem startI_cases {n : Nat} {rs ds : List PyData} {i : Nat} {sl : Sl} (h : (startI n rs ds)[i]? = some sl) : (i = 0 ∧ sl = .io rs) ∨ (∃ j d, i = j + 1 ∧ ds[j]? = some d ∧ sl = .dat d) ∨ sl = .un := by
  unfold startI at h
  cases i with
  | zero =>
    cases h
    exact .inl ⟨rfl, rfl⟩
  | succ j =>
    rw [List.getElem?_cons_succ] at h
    refine .inr ?_
    by_cases hi : j < ds.length
    · rw [List.getElem?_append_left (by rw [List.length_map]; exact hi), List.getElem?_map, List.getElem?_eq_getElem hi] at h
      cases h
      exact .inl ⟨j, _, rfl, List.getElem?_eq_getElem hi, rfl⟩
    · rw [List.getElem?_append_right (by rw [List.length_map]; omega)] at h
      obtain ⟨_, e⟩ := List.getElem?_eq_some_iff.mp h
      rw [List.getElem_replicate] at e
      exact .inr e.symm
theorem rl_startI {N : List Str} {r : Addr} {ws us : List V} {rs ds : List PyData} (hr : H r = some (.lst ws)) (hw : DzAll K F ws rs) (hd : DzAll K F us ds) (hn : ds.length + 1 ≤ N.length) (s : Same F H) (fr : F r = none) (nr : r ∉ T) (t : ∀ P ∈ T, F P = none ∧ TabG H P) (tf : TF K F) :
    Rl ⟨K, T, H, F, [r], []⟩ F H (L2.start N (.ref r :: us)) (startI N.length rs ds) := by
  have hl := dpAll_len hd
  refine ⟨?_, s, fun P hP => (t P hP).1, fun P hP => (t P hP).2, Same.refl _, fun b o e _ _ => e, fun a ha => ?_, fun i sl e => ?_, fun i j a x y e1 => ?_, fun i j x y e1 e2 => ?_, fun a _ h => h, tf, fun i j a x y e1 => ?_⟩
  · unfold L2.start startI
    simp only [List.length_append, List.length_map, List.length_replicate, List.length_cons]
    omega
  · have e : a = r := by simpa using ha
    subst e
    exact ⟨(by show H a ≠ none; rw [hr]; exact fun z => (by cases z)), nr, fr, ws, hr⟩
  · rcases startI_cases e with ⟨rfl, rfl⟩ | ⟨j, d, rfl, e1, rfl⟩ | rfl
    · exact ⟨r, ws, rfl, by rw [vAt_start (by simp)]; rfl, hr, hw, fr, nr⟩
    · obtain ⟨v, e2, dv⟩ := dpAll_at hd e1
      obtain ⟨hi, e3⟩ := List.getElem?_eq_some_iff.mp e2
      refine ⟨v, ?_, dv⟩
      rw [vAt_start (by simp; exact hi)]
      simp [e3]
    · trivial
  · rcases startI_cases e1 with ⟨_, h⟩ | ⟨_, d, _, _, h⟩ | h <;> cases h
  · rcases startI_cases e1 with ⟨h1, _⟩ | ⟨_, d, _, _, h⟩ | h
    · rcases startI_cases e2 with ⟨h2, _⟩ | ⟨_, d, _, _, h⟩ | h
      · rw [h1, h2]
      · cases h
      · cases h
    · cases h
    · cases h
  · rcases startI_cases e1 with ⟨_, h⟩ | ⟨_, d, _, _, h⟩ | h <;> cases h
theorem fn_io {P : Program} {w : World} {mg : Str → Option Value} {base : Heap} {x qual : Str} {st : Stmt} {f : Addr} {fd : FuncData} {N ps : List Str} {k : Nat} (Fu : Fun K x qual st f fd) (S : FnScope N ps (defScope st)) (g : SS) (hnp : ps.length ≤ N.length)
    (hb : ∀ (cdv : Value) (A : Around) (outer : List Env) (s : Shared) (H : Hp) (E : XK) (H0 F0 : Hp) (io : List Addr), Room k (A.deeper (envOfC qual (defScope st) s.heap.objs.size f cdv)) →
      ESs ⟨K, T, H0, F0, io, []⟩ (cxOf CX0 P w K mg base N qual (defScope st) f cdv A outer s H E).nox (defBody st) g) :
    FnOk P w K mg base CX0 (k + 1) f fd ps (spI K T (fun rs ds => if ds.length + 1 = ps.length then bodyI g N.length rs ds else none)) := by
  refine Fu.ok S (fun vs H Q E h => ?_) (fun cdv A outer s H vs Q E hr h => ?_)
  · obtain ⟨F, r, ws, rs, us, ds, d, rs', rfl, _, _, hd, _, _, _, _, _, e, _⟩ := h
    dsimp only at e
    split at e
    · rename_i hl
      rw [List.length_cons, dpAll_len hd, hl]
    · cases e
  · obtain ⟨F, r, ws, rs, us, ds, d, rs', rfl, hH, hw, hd, sF, fF, nT, t, tf, e, q⟩ := h
    dsimp only at e
    split at e
    · rename_i hl
      have es := hb cdv A outer s H E H F [r] hr
      refine ⟨_, es.pss, ?_⟩
      have R := rl_startI (N := N) hH hw hd (by rw [hl]; exact hnp) sF fF nT t tf
      unfold bodyI at e
      cases e1 : g (startI N.length rs ds) with
      | none => rw [e1] at e; cases e
      | some p =>
        obtain ⟨fl, ρ'⟩ := p
        rw [e1] at e
        refine ⟨F, _, fl, ρ', R, e1, fun σ' H' F' s' R' => ?_⟩
        have fin : ∀ v, ρ'[0]? = some (Sl.io rs') → Dz K F' v d → Q v H' := fun v e0 dv => by
          obtain ⟨a, vs, ea, e3, e4, e5, e6, e7⟩ := R'.sl 0 _ e0
          have ea : [r] = [a] := ea
          cases ea
          exact q v H' F' vs s' R'.sub (fun P hP => ⟨R'.ft P hP, R'.tb P hP⟩) (fun b o x1 x2 x3 => R'.fr b o x1 x2 (by simpa using x3)) e4 e5 e6 R'.nw R'.tf dv
        cases fl with
        | rt d' =>
          dsimp only at e
          cases e0 : ρ'[0]? with
          | none => rw [e0] at e; cases e
          | some sl =>
            rw [e0] at e
            cases sl with
            | io rs2 =>
              cases e
              exact fun v dv => fin v e0 dv
            | _ => cases e
        | nx =>
          dsimp only at e
          cases e0 : ρ'[0]? with
          | none => rw [e0] at e; cases e
          | some sl =>
            rw [e0] at e
            cases sl with
            | io rs2 =>
              cases e
              exact fin .non e0 .non
            | _ => cases e
        | bk => cases e
        | ct => cases e
    · cases e
end
section
variable {c : Co} {X : Cx} {e : Expr} {es : List Expr} {pos : Pos}
def sCall (f : List PyData → Option PyData) (dds : List PyData) (fa : SA) : SE := fun ρ => match fa ρ with
  | none => none
  | some (xs, ρ1) => match allD xs with
    | none => none
    | some ds => (f (ds ++ dds)).map fun d => (.d d, ρ1)
theorem eo_call {f : List PyData → Option PyData} {dds : List PyData} {dvs : List V} {fa : SA} {ce : Expr} {E : XK} (h : ∀ {t : TA}, PA X es t → PE X ce (tCall (spP c.K c.T f) dvs E t)) (ha : EA c X es fa) (hd : ∀ F, DzAll c.K F dvs dds) : EO c X ce (sCall f dds fa) := by
  refine ⟨pe_imp (h ha.pa) fun σ H Q ⟨F, ρ, x, ρ', R, e, k⟩ => ?_⟩
  unfold sCall at e
  cases e1 : fa ρ with
  | none => rw [e1] at e; cases e
  | some p =>
    obtain ⟨xs, ρ1⟩ := p
    rw [e1] at e
    dsimp only at e
    cases e2 : allD xs with
    | none => rw [e2] at e; cases e
    | some ds =>
      rw [e2] at e
      dsimp only at e
      cases e3 : f (ds ++ dds) with
      | none => rw [e3] at e; cases e
      | some d =>
        rw [e3] at e
        cases e
        refine ⟨F, ρ, xs, _, R, e1, fun vs H1 F1 s1 R1 o1 => ?_⟩
        exact ⟨F1, ds ++ dds, d, dpAll_app (allD_ok o1 e2) (hd F1), R1.sub, fun P hP => ⟨R1.ft P hP, R1.tb P hP⟩, R1.tf, e3, fun v H' F' f1 s2 t h1 n tf dv => k v H' F' (s1.trans f1) (R1.call f1 s2 t h1 n tf) dv⟩
def cont? (ρ : Ev) (i : Nat) : Option (List PyData) := match ρ[i]? with
  | some (.own ds) => some ds
  | some (.io ds) => some ds
  | _ => none
def setCont (ρ : Ev) (i : Nat) (ds : List PyData) : Ev := match ρ[i]? with
  | some (.own _) => ρ.set i (.own ds)
  | some (.io _) => ρ.set i (.io ds)
  | _ => ρ
/-- the list of a slot is changed; the rest as at a call -/
theorem Rl.callI {F F' H H' : Hp} {σ : L2.St} {ρ : Ev} {i : Nat} {r : Addr} {ws : List V} {rs rs' : List PyData} (R : Rl c F H σ ρ) (hc : cont? ρ i = some rs) (hv : vAt σ i = some (.ref r)) (f : Same F F') (s : Same F' H') (t : ∀ P ∈ c.T, F' P = none ∧ TabG H' P)
    (h : ∀ b o, H b = some o → b ∉ c.T → b ≠ r → H' b = some o) (h' : H' r = some (.lst ws)) (hw : DzAll c.K F' ws rs') (hF : F' r = none) (n : ∀ a, H a ≠ none → F a = none → F' a = none) (tf : TF c.K F') : Rl c F' H' σ (setCont ρ i rs') := by
  have hi : i < ρ.length := by
    unfold cont? at hc
    cases e : ρ[i]? with
    | none => rw [e] at hc; cases hc
    | some sl => exact (List.getElem?_eq_some_iff.mp e).1
  -- who r is
  have who : (∃ ds, ρ[i]? = some (Sl.own ds) ∧ c.H0 r = none ∧ r ∉ c.T ∧ setCont ρ i rs' = ρ.set i (.own rs')) ∨ (∃ ds, ρ[i]? = some (Sl.io ds) ∧ c.io = [r] ∧ r ∉ c.T ∧ setCont ρ i rs' = ρ.set i (.io rs')) := by
    unfold cont? at hc
    unfold setCont
    cases e : ρ[i]? with
    | none => rw [e] at hc; cases hc
    | some sl =>
      have ok := R.sl i sl e
      cases sl with
      | un => rw [e] at hc; cases hc
      | fn n => rw [e] at hc; cases hc
      | dat d => rw [e] at hc; cases hc
      | dic kvs => rw [e] at hc; cases hc
      | own ds =>
        obtain ⟨a, vs, e1, e2, e3, e4, e5, e6⟩ := ok
        rw [hv] at e1
        cases e1
        exact .inl ⟨ds, rfl, e6, e5, rfl⟩
      | io ds =>
        obtain ⟨a, vs, e0, e1, e2, e3, e4, e5⟩ := ok
        rw [hv] at e1
        cases e1
        exact .inr ⟨ds, rfl, e0, e5, rfl⟩
  have nioOf : ∀ b, c.H0 b ≠ none → b ∉ c.io → b ≠ r := fun b h0 hb z => by
    rcases who with ⟨ds, _, e, _⟩ | ⟨ds, _, e, _⟩
    · exact h0 (by rw [z]; exact e)
    · exact hb (by rw [e, z]; simp)
  have other : ∀ j sl, i ≠ j → ρ[j]? = some sl → SlOk c F' H' (vAt σ j) sl := fun j sl hj e => by
    have ok := R.sl j sl e
    cases sl with
    | un => trivial
    | fn n => exact ok
    | dat d =>
      obtain ⟨w, e1, e2⟩ := ok
      exact ⟨w, e1, dp_same f e2⟩
    | own ds =>
      obtain ⟨a, vs, e1, e2, e3, e4, e5, e6⟩ := ok
      have na : a ≠ r := fun z => by
        subst z
        rcases who with ⟨es, q, _⟩ | ⟨es, q, q2, _⟩
        · exact hj (R.dj i j a es ds q e hv e1)
        · exact (R.ioh a (by rw [q2]; simp)).1 e6
      exact ⟨a, vs, e1, h _ _ e2 e5 na, dpAll_same f e3, n a (by rw [e2]; exact fun z => by cases z) e4, e5, e6⟩
    | io ds =>
      obtain ⟨a, vs, e0, e1, e2, e3, e4, e5⟩ := ok
      have na : a ≠ r := fun z => by
        subst z
        rcases who with ⟨es, q, q2, _⟩ | ⟨es, q, q2, _⟩
        · exact (R.ioh a (by rw [e0]; simp)).1 q2
        · exact hj (R.iu i j es ds q e)
      exact ⟨a, vs, e0, e1, h _ _ e2 e5 na, dpAll_same f e3, n a (by rw [e2]; exact fun z => by cases z) e4, e5⟩
    | dic kvs =>
      obtain ⟨a, vs, e1, e2, e3, e4, e5, e6⟩ := ok
      have na : a ≠ r := fun z => by
        subst z
        have hr : ∃ ws', H a = some (.lst ws') := by
          rcases who with ⟨es, q, _⟩ | ⟨es, q, q2, _⟩
          · obtain ⟨b, ws', x1, x2, _⟩ := R.sl i _ q
            rw [hv] at x1
            cases x1
            exact ⟨_, x2⟩
          · obtain ⟨_, _, _, ws', x⟩ := R.ioh a (by rw [q2]; simp)
            exact ⟨_, x⟩
        obtain ⟨ws', x⟩ := hr
        rw [e2] at x
        cases x
      exact ⟨a, vs, e1, h _ _ e2 e5 na, dpKv_same f e3, n a (by rw [e2]; exact fun z => by cases z) e4, e5, e6⟩
  have slots : ∀ j sl, (setCont ρ i rs')[j]? = some sl → SlOk c F' H' (vAt σ j) sl := fun j sl e => by
    by_cases hj : i = j
    · subst hj
      rcases who with ⟨ds, q, q1, q2, q3⟩ | ⟨ds, q, q1, q2, q3⟩
      · rw [q3, List.getElem?_set_self hi] at e
        cases e
        exact ⟨r, ws, hv, h', hw, hF, q2, q1⟩
      · rw [q3, List.getElem?_set_self hi] at e
        cases e
        exact ⟨r, ws, q1, hv, h', hw, hF, q2⟩
    · refine other j sl hj ?_
      rcases who with ⟨ds, q, q1, q2, q3⟩ | ⟨ds, q, q1, q2, q3⟩
      · rw [q3, List.getElem?_set_ne hj] at e
        exact e
      · rw [q3, List.getElem?_set_ne hj] at e
        exact e
  have kinds : ∀ j : Nat, (∀ ds, (setCont ρ i rs')[j]? = some (Sl.own ds) → ∃ es, ρ[j]? = some (Sl.own es)) ∧ (∀ ds, (setCont ρ i rs')[j]? = some (Sl.io ds) → ∃ es, ρ[j]? = some (Sl.io es)) ∧ (∀ ds, (setCont ρ i rs')[j]? = some (Sl.dic ds) → ρ[j]? = some (Sl.dic ds)) := fun j => by
    have step : ∀ sl : Sl, (setCont ρ i rs')[j]? = some sl → ρ[j]? = some sl ∨ (∃ ds, ρ[j]? = some (Sl.own ds) ∧ sl = Sl.own rs') ∨ (∃ ds, ρ[j]? = some (Sl.io ds) ∧ sl = Sl.io rs') := fun sl e => by
      rcases who with ⟨ds, q, q1, q2, q3⟩ | ⟨ds, q, q1, q2, q3⟩
      · rw [q3] at e
        by_cases hj : i = j
        · subst hj
          rw [List.getElem?_set_self hi] at e
          cases e
          exact .inr (.inl ⟨ds, q, rfl⟩)
        · rw [List.getElem?_set_ne hj] at e
          exact .inl e
      · rw [q3] at e
        by_cases hj : i = j
        · subst hj
          rw [List.getElem?_set_self hi] at e
          cases e
          exact .inr (.inr ⟨ds, q, rfl⟩)
        · rw [List.getElem?_set_ne hj] at e
          exact .inl e
    refine ⟨fun es e => ?_, fun es e => ?_, fun es e => ?_⟩
    · rcases step _ e with h | ⟨ds, h, _⟩ | ⟨ds, h, h2⟩
      · exact ⟨_, h⟩
      · exact ⟨_, h⟩
      · cases h2
    · rcases step _ e with h | ⟨ds, h, h2⟩ | ⟨ds, h, _⟩
      · exact ⟨_, h⟩
      · cases h2
      · exact ⟨_, h⟩
    · rcases step _ e with h | ⟨ds, h, h2⟩ | ⟨ds, h, h2⟩
      · exact h
      · cases h2
      · cases h2
  have len : (setCont ρ i rs').length = ρ.length := by
    rcases who with ⟨ds, q, q1, q2, q3⟩ | ⟨ds, q, q1, q2, q3⟩ <;> rw [q3, List.length_set]
  refine ⟨by rw [len]; exact R.len, s, fun P hP => (t P hP).1, fun P hP => (t P hP).2, R.mono.trans f, fun b o e h1 h2 => h _ _ (R.fr b o e h1 h2) h1 (nioOf b (by rw [e]; exact fun z => by cases z) h2), fun a ha => ?_, slots, fun j k a ds es e1 e2 e3 e4 => ?_, fun j k ds es e1 e2 => ?_, fun a h1 h2 => ?_, tf, fun j k a ds es e1 e2 e3 e4 => R.dk j k a ds es ((kinds j).2.2 ds e1) ((kinds k).2.2 es e2) e3 e4⟩
  · obtain ⟨h1, h2, h3, vs, h4⟩ := R.ioh a ha
    by_cases ha' : a = r
    · subst ha'
      exact ⟨h1, h2, hF, ws, h'⟩
    · exact ⟨h1, h2, n a (by rw [h4]; exact fun z => by cases z) h3, vs, h _ _ h4 h2 ha'⟩
  · obtain ⟨ds', q1⟩ := (kinds j).1 ds e1
    obtain ⟨es', q2⟩ := (kinds k).1 es e2
    exact R.dj j k a ds' es' q1 q2 e3 e4
  · obtain ⟨ds', q1⟩ := (kinds j).2.1 ds e1
    obtain ⟨es', q2⟩ := (kinds k).2.1 es e2
    exact R.iu j k ds' es' q1 q2
  · have old := R.nw a h1 h2
    by_cases hT : a ∈ c.T
    · exact (t a hT).1
    · by_cases hio : a ∈ c.io
      · obtain ⟨_, _, _, vs, h4⟩ := R.ioh a hio
        exact n a (by rw [h4]; exact fun z => by cases z) old
      · cases e : c.H0 a with
        | none => exact absurd e h1
        | some o => exact n a (by rw [R.fr a o e hT hio]; exact fun z => by cases z) old
def sCallI (f : List PyData → List PyData → Option (PyData × List PyData)) (fa : SA) : SE := fun ρ => match fa ρ with
  | some (.s i :: xs, ρ1) => match cont? ρ1 i, allD xs with
    | some rs, some ds => (f rs ds).map fun p => (.d p.1, setCont ρ1 i p.2)
    | _, _ => none
  | _ => none
theorem eo_callI {f : List PyData → List PyData → Option (PyData × List PyData)} {fa : SA} {ce : Expr} {E : XK} (h : ∀ {t : TA}, PA X es t → PE X ce (tCall (spI c.K c.T f) [] E t)) (ha : EA c X es fa) : EO c X ce (sCallI f fa) := by
  refine ⟨pe_imp (h ha.pa) fun σ H Q ⟨F, ρ, x, ρ', R, e, k⟩ => ?_⟩
  unfold sCallI at e
  cases e1 : fa ρ with
  | none => rw [e1] at e; cases e
  | some p =>
    obtain ⟨xs, ρ1⟩ := p
    rw [e1] at e
    cases xs with
    | nil => cases e
    | cons x0 xs =>
      cases x0 with
      | d d => cases e
      | s i =>
        dsimp only at e
        cases e2 : cont? ρ1 i with
        | none => rw [e2] at e; cases e
        | some rs =>
          cases e3 : allD xs with
          | none => rw [e2, e3] at e; cases e
          | some ds =>
            rw [e2, e3] at e
            dsimp only at e
            cases e4 : f rs ds with
            | none => rw [e4] at e; cases e
            | some p =>
              obtain ⟨d, rs'⟩ := p
              rw [e4] at e
              cases e
              refine ⟨F, ρ, _, ρ1, R, e1, fun vs H1 F1 s1 R1 o1 => ?_⟩
              cases vs with
              | nil => exact o1.elim
              | cons v vs =>
                obtain ⟨hv, ho⟩ := o1
                have hv : vAt σ i = some v := hv
                -- where the list stands
                have st : ∃ r ws, v = .ref r ∧ H1 r = some (.lst ws) ∧ DzAll c.K F1 ws rs ∧ F1 r = none ∧ r ∉ c.T := by
                  unfold cont? at e2
                  cases q : ρ1[i]? with
                  | none => rw [q] at e2; cases e2
                  | some sl =>
                    rw [q] at e2
                    have ok := R1.sl i sl q
                    cases sl with
                    | un => cases e2
                    | fn n => cases e2
                    | dat d => cases e2
                    | dic kvs => cases e2
                    | own es' =>
                      cases e2
                      obtain ⟨a, ws, z1, z2, z3, z4, z5, _⟩ := ok
                      rw [hv] at z1
                      cases z1
                      exact ⟨a, ws, rfl, z2, z3, z4, z5⟩
                    | io es' =>
                      cases e2
                      obtain ⟨a, ws, z0, z1, z2, z3, z4, z5⟩ := ok
                      rw [hv] at z1
                      cases z1
                      exact ⟨a, ws, rfl, z2, z3, z4, z5⟩
                obtain ⟨r, ws, rfl, z2, z3, z4, z5⟩ := st
                show spI c.K c.T f ((V.ref r :: vs) ++ []) H1 Q E
                rw [List.append_nil]
                exact ⟨F1, r, ws, rs, vs, ds, d, rs', rfl, z2, z3, allD_ok ho e3, R1.sub, z4, z5, fun P hP => ⟨R1.ft P hP, R1.tb P hP⟩, R1.tf, e4,
                  fun u H' F' ws' f1 s2 t h1 h2 h3 h4 n tf du => k u H' F' (s1.trans f1) (R1.callI e2 hv f1 s2 t h1 h2 h3 h4 n tf) du⟩
theorem es_ret {f : SE} (he : EO c X e f) : ES c X (.Return (some e) pos) (sRet f) := by
  refine ⟨ps_imp (ps_ret he.pe) fun D σ H ⟨F, ρ, fl, ρ', R, e, k⟩ => ?_⟩
  unfold sRet at e
  cases e1 : f ρ with
  | none => rw [e1] at e; cases e
  | some p =>
    obtain ⟨x, ρ1⟩ := p
    rw [e1] at e
    cases x with
    | s i => cases e
    | d d =>
      cases e
      exact ⟨F, ρ, _, _, R, e1, fun v H' F' s' R' o => k σ H' F' s' R' v o⟩
end
end PD
/-! New tuples that are known to bear no dict -/
namespace PD
open PySem PySem.Spec PyProof.Rows L2 GxR
/-- the new tuple is held with its object -/
def NewT (Q : VK) (H : Hp) (vs : List V) : Prop := ∀ p ob, H p = none → PlT ob → Q (.ref p) (upd H p (.frz ob (.tup vs)))
section
variable {X : Cx} {pins : List (Addr × Obj)} {σ : L2.St} {H : Hp} {Q : VK}
theorem new_t {h' : Heap} {t' : Nat} {s s0 : Shared} {vs : List V} {us : List Value} {n : Nat} (I : Inv X pins σ H s) (hk : ∀ b o, s.heap.get? b = some o → h'.get? b = some o) (ha : s.heap.objs.size ≤ s0.heap.objs.size)
    (e : h'.get? s0.heap.objs.size = some { cls := .type "tuple", data := .seq us.toArray n }) (r : Vals vs us) (hz : vs.length ≤ sizeLine) (q : NewT Q H vs) :
    EP X pins σ Q (.ref s0.heap.objs.size) { s with heap := h', toks := t' } := by
  refine ⟨.ref s0.heap.objs.size, _, I.laid (t' := t') (o := .frz { cls := .type "tuple", data := .seq us.toArray n } (.tup vs)) hk ha ?_, rfl, q _ _ (I.hok.fresh ha) ⟨rfl, rfl⟩⟩
  exact ⟨e, hz, us, r, ⟨_, e, rfl, _, rfl⟩⟩
end
section
variable {X : Cx}
def tTupF (t : TA) : TE := fun σ H Q => t σ H fun vs H1 => vs.length ≤ sizeLine ∧ NewT Q H1 vs
theorem pe_tupF {es : List Expr} {t : TA} {x1 : Nat} {pos : Pos} (h : PA X es t) : PE X (.Tuple es x1 pos) (tTupF t) := by
  refine ⟨fun pins s σ H Q I hq => ?_⟩
  refine wpAny_Tuple_spliced (thn (h.run pos pins s σ H _ I hq) fun us s1 ⟨vs, H1, I1, r, z, q⟩ => ⟨by rw [← r.length]; exact z, ?_⟩)
  exact new_t (s0 := s1) (t' := s1.toks) I1 (fun b u e => Heap.get?_push_of_some _ e) (Nat.le_refl _) (Heap.get?_push_size _ rfl) r z q
/-- tuple(x) -/
def rTupF (K : PySem.W.Frag) (vs : List V) (H : Hp) (Q : VK) : Prop := ∃ p ys, vs = [.ref p] ∧ ((SqL K H p ys ∧ NewT Q H ys) ∨ (SqT K H p ys ∧ Q (.ref p) H))
theorem call_tupF : CallR X (.type "tuple") (rTupF X.K) := by
  intro pins s σ H vs us Q I r h
  obtain ⟨p, ys, rfl, h⟩ := h
  obtain ⟨u, rfl, ru⟩ := vals1 r
  cases ru
  rcases h with ⟨hs, q⟩ | ⟨hs, q⟩
  · obtain ⟨items, rv, pl, z⟩ := I.list hs
    have hl := rv.length
    refine call_tuple_list pl.isList (fun h' kp => ?_) (by simp only [List.size_toArray] <;> omega)
    have I1 : Inv X pins σ H { s with heap := h' } := I.kept (t' := s.toks) kp
    exact new_t (s := { s with heap := h' }) (s0 := { s with heap := h' }) (t' := s.toks) I1 (fun b u e => Heap.get?_push_of_some _ e) (Nat.le_refl _) (Heap.get?_push_size _ rfl) rv z q
  · obtain ⟨items, _, pt, _⟩ := I.tuple hs
    exact call_tuple_same pt ⟨.ref p, H, I, rfl, q⟩
theorem call_divF : CallR X (.builtin "divmod") (fun vs H Q => ∃ i j, vs = [.int i, .int j] ∧ CDiv i j ∧ NewT Q H [.int (i / j), .int (i % j)]) := by
  intro pins s σ H vs us Q I r h
  obtain ⟨i, j, rfl, ⟨h1, h2⟩, q⟩ := h
  obtain ⟨u, w', rfl, ⟨t1, rfl⟩, ⟨t2, rfl⟩⟩ := vals2 r
  refine divmod_int (by omega) ?_ (.inl (PyProof.noPylong_small (by omega)))
  rw [Int.fdiv_eq_ediv_of_nonneg i (by omega), Int.fmod_eq_emod_of_nonneg i (by omega)]
  exact new_t (s0 := s) (vs := [.int (i / j), .int (i % j)]) (us := [.int (i / j) s.toks, .int (i % j) (s.toks + 1)]) I (fun b o e => Heap.get?_push_of_some _ e) (Nat.le_refl _) (Heap.get?_push_size _ rfl) (.cons ⟨_, rfl⟩ (.cons ⟨_, rfl⟩ .nil)) (by simp only [List.length_cons, List.length_nil]; rw [sizeLine_eq]; decide) q
/-- t + u -/
def rCatF (K : PySem.W.Frag) : R2 := fun x y H Q => ∃ a b vs ws, x = .ref a ∧ y = .ref b ∧ SqT K H a vs ∧ SqT K H b ws ∧ vs.length + ws.length ≤ sizeLine ∧
  (vs = [] → Q (.ref b) H) ∧ (vs ≠ [] → ws = [] → Q (.ref a) H) ∧ (vs ≠ [] → ws ≠ [] → NewT Q H (vs ++ ws))
theorem op_catF : OpR X (binaryOp .Add) (rCatF X.K) := by
  intro pins s σ H x y v u Q I rx ry h
  obtain ⟨a, b, vs, ws, rfl, rfl, ha, hb, z, q0, q1, q2⟩ := h
  cases rx
  cases ry
  obtain ⟨us1, r1, p1, _⟩ := I.tuple ha
  obtain ⟨us2, r2, p2, _⟩ := I.tuple hb
  by_cases hv : vs = []
  · subst hv
    cases r1
    exact cat_tup0 p1 p2 ⟨.ref b, H, I, rfl, q0 rfl⟩
  · refine HT.cat_tup p1 p2 (fun e => hv (r1.nil_iff.mp e)) (fun e => ⟨.ref a, H, I, rfl, q1 hv (r2.nil_iff.mp e)⟩) (fun e => ?_) (by rw [← r1.length, ← r2.length]; exact z)
    exact new_t (s0 := s) (t' := s.toks) I (fun b o e => Heap.get?_push_of_some _ e) (Nat.le_refl _) (Heap.get?_push_size _ rfl) (r1.append r2) (by rw [List.length_append]; exact z) (q2 hv fun e2 => e (r2.nil_iff.mpr e2))
/-- t[lo:hi] -/
def rSlF (K : PySem.W.Frag) : V → Option Int → Option Int → Hp → VK → Prop := fun x lo hi H Q => ∃ a vs, x = .ref a ∧ SqT K H a vs ∧
  (HT.sIx vs.length 0 lo = 0 ∧ HT.sIx vs.length vs.length hi = vs.length → Q (.ref a) H) ∧ (¬ (HT.sIx vs.length 0 lo = 0 ∧ HT.sIx vs.length vs.length hi = vs.length) → NewT Q H (cutV vs lo hi))
theorem sl_tupF : SlR X (rSlF X.K) := by
  intro pins s σ H x v vl vu lo hi sl Q I rx hs pl pu h
  obtain ⟨a, vs, rfl, hx, q1, q2⟩ := h
  by_cases hw : HT.sIx vs.length 0 lo = 0 ∧ HT.sIx vs.length vs.length hi = vs.length
  · exact sl_tupA pins s σ H _ v vl vu lo hi sl Q I rx hs pl pu ⟨a, vs, rfl, hx, q1, fun z => absurd hw z⟩
  · cases rx
    obtain ⟨us, r, ht, z⟩ := I.tuple hx
    have hl : us.toArray.size = vs.length := by rw [List.size_toArray]; exact r.length.symm
    refine ⟨"tuple", _, PyProof.Rows.slot_tuple_getitem.lookup, ht.typeIs, ?_⟩
    refine HT.getItem_tuple_cut ht hs pl pu (by rw [hl]; exact hw) ?_ (by rw [hl]; exact z)
    rw [hl]
    exact new_t (s0 := s) (t' := s.toks) I (fun b o e => Heap.get?_push_of_some _ e) (Nat.le_refl _) (Heap.get?_push_size _ rfl) ((r.drop _).take _) (Nat.le_trans (cutV_length vs lo hi) z) (q2 hw)
end
end PD
/-! Plain data: new lists, comprehensions, all(..) -/
namespace PD
open PySem PySem.Spec PyProof.Rows L2 GxR
/-! ### the slots of a block -/
def wipeE (ρ : Ev) : List Nat → Ev
  | [] => ρ
  | v :: vs => (wipeE ρ vs).set v .un
theorem wipeE_len (ρ : Ev) : ∀ vs : List Nat, (wipeE ρ vs).length = ρ.length
  | [] => rfl
  | v :: vs => by
    unfold wipeE
    rw [List.length_set, wipeE_len ρ vs]
theorem wipeE_out {ρ : Ev} {i : Nat} : ∀ {vs : List Nat}, i ∉ vs → (wipeE ρ vs)[i]? = ρ[i]?
  | [], _ => rfl
  | v :: vs, h => by
    have h1 : v ≠ i := fun z => h (by rw [z]; exact List.mem_cons_self ..)
    have h2 : i ∉ vs := fun z => h (List.mem_cons_of_mem _ z)
    unfold wipeE
    rw [List.getElem?_set_ne h1, wipeE_out h2]
theorem wipeE_in {ρ : Ev} {i : Nat} {sl : Sl} : ∀ {vs : List Nat}, i ∈ vs → (wipeE ρ vs)[i]? = some sl → sl = .un
  | v :: vs, h, e => by
    unfold wipeE at e
    by_cases hv : v = i
    · subst hv
      by_cases hl : v < (wipeE ρ vs).length
      · rw [List.getElem?_set_self hl] at e
        cases e
        rfl
      · rw [List.getElem?_eq_none (by simpa using hl)] at e
        cases e
    · rw [List.getElem?_set_ne hv] at e
      rcases List.mem_cons.mp h with z | z
      · exact absurd z.symm hv
      · exact wipeE_in z e
theorem vAt_wipe_out {σ : L2.St} {i : Nat} {vs : List Nat} (h : i ∉ vs) : vAt (wipe σ vs) i = vAt σ i := by
  unfold vAt
  rw [wipe_out h]
def plainSl : Sl → Bool
  | .un => true
  | .dat _ => true
  | _ => false
def okWipe (ρ : Ev) (vs : List Nat) : Bool := vs.all fun i => match (ρ[i]? : Option Sl) with
  | some sl => plainSl sl
  | none => true
def restore (ρe ρ : Ev) : List Nat → Ev
  | [] => ρe
  | v :: vs => match (ρ[v]? : Option Sl) with
    | some sl => (restore ρe ρ vs).set v sl
    | none => restore ρe ρ vs
theorem restore_len (ρe ρ : Ev) : ∀ vs : List Nat, (restore ρe ρ vs).length = ρe.length
  | [] => rfl
  | v :: vs => by
    unfold restore
    split
    · rw [List.length_set, restore_len ρe ρ vs]
    · exact restore_len ρe ρ vs
theorem restore_out {ρe ρ : Ev} {i : Nat} : ∀ {vs : List Nat}, i ∉ vs → (restore ρe ρ vs)[i]? = ρe[i]?
  | [], _ => rfl
  | v :: vs, h => by
    have h1 : v ≠ i := fun z => h (by rw [z]; exact List.mem_cons_self ..)
    have h2 : i ∉ vs := fun z => h (List.mem_cons_of_mem _ z)
    unfold restore
    split
    · rw [List.getElem?_set_ne h1, restore_out h2]
    · exact restore_out h2
theorem restore_in {ρe ρ : Ev} {i : Nat} (hl : ρe.length = ρ.length) : ∀ {vs : List Nat}, i ∈ vs → (restore ρe ρ vs)[i]? = ρ[i]?
  | v :: vs, h => by
    unfold restore
    by_cases hv : v = i
    · subst hv
      by_cases hi : v < ρ.length
      · rw [List.getElem?_eq_getElem hi]
        dsimp only
        rw [List.getElem?_set_self (by rw [restore_len, hl]; exact hi)]
      · have hn : ρ[v]? = none := List.getElem?_eq_none (by omega)
        rw [hn]
        dsimp only
        exact List.getElem?_eq_none (by rw [restore_len, hl]; omega)
    · have h2 : i ∈ vs := by
        rcases List.mem_cons.mp h with z | z
        · exact absurd z.symm hv
        · exact z
      split
      · rw [List.getElem?_set_ne hv, restore_in hl h2]
      · exact restore_in hl h2
theorem wipe_in {σ : L2.St} {i : Nat} : ∀ {vs : List Nat}, i ∈ vs → (wipe σ vs)[i]? = if i < σ.length then some none else none
  | v :: vs, h => by
    unfold wipe
    by_cases hv : v = i
    · subst hv
      by_cases hi : v < σ.length
      · rw [List.getElem?_set_self (by rw [wipe_length]; exact hi), if_pos hi]
      · rw [List.getElem?_eq_none (by rw [List.length_set, wipe_length]; omega), if_neg hi]
    · rw [List.getElem?_set_ne hv]
      rcases List.mem_cons.mp h with z | z
      · exact absurd z.symm hv
      · exact wipe_in z
theorem wipe_but {σ σ' : L2.St} {vs : List Nat} (h : ∀ j : Nat, j ∉ vs → σ'[j]? = σ[j]?) (hl : σ'.length = σ.length) : wipe σ' vs = wipe σ vs := by
  apply List.ext_getElem?
  intro j
  by_cases hj : j ∈ vs
  · rw [wipe_in hj, wipe_in hj, hl]
  · rw [wipe_out hj, wipe_out hj, h j hj]
section
variable {c : Co} {F F' H H' : Hp} {σ : L2.St} {ρ : Ev}
theorem Rl.wipe (R : Rl c F H σ ρ) (vs : List Nat) : Rl c F H (L2.wipe σ vs) (wipeE ρ vs) := by
  have old : ∀ (i : Nat) sl, (wipeE ρ vs)[i]? = some sl → sl = .un ∨ (i ∉ vs ∧ ρ[i]? = some sl) := fun i sl e => by
    by_cases h : i ∈ vs
    · exact .inl (wipeE_in h e)
    · rw [wipeE_out h] at e
      exact .inr ⟨h, e⟩
  refine R.slots (by rw [wipe_length, wipeE_len]; exact R.len) (fun i sl e => ?_) (fun i j a ds es e1 e2 e3 e4 => ?_) (fun i j ds es e1 e2 => ?_) (fun i j a ds es e1 e2 e3 e4 => ?_)
  · rcases old i sl e with rfl | ⟨h, e⟩
    · trivial
    · rw [vAt_wipe_out h]
      exact R.sl i sl e
  · rcases old i _ e1 with h | ⟨h1, e1⟩
    · cases h
    · rcases old j _ e2 with h | ⟨h2, e2⟩
      · cases h
      · rw [vAt_wipe_out h1] at e3
        rw [vAt_wipe_out h2] at e4
        exact R.dj i j a ds es e1 e2 e3 e4
  · rcases old i _ e1 with h | ⟨h1, e1⟩
    · cases h
    · rcases old j _ e2 with h | ⟨h2, e2⟩
      · cases h
      · exact R.iu i j ds es e1 e2
  · rcases old i _ e1 with h | ⟨h1, e1⟩
    · cases h
    · rcases old j _ e2 with h | ⟨h2, e2⟩
      · cases h
      · rw [vAt_wipe_out h1] at e3
        rw [vAt_wipe_out h2] at e4
        exact R.dk i j a ds es e1 e2 e3 e4
theorem Rl.restore {ρe : Ev} {vs : List Nat} {F0 H0 : Hp} (R0 : Rl c F0 H0 σ ρ) (s : Same F0 F) (ok : okWipe ρ vs = true) (R : Rl c F H (L2.wipe σ vs) ρe) : Rl c F H σ (PD.restore ρe ρ vs) := by
  have hl : ρe.length = ρ.length := by rw [← R.len, wipe_length, R0.len]
  have old : ∀ (i : Nat) sl, (PD.restore ρe ρ vs)[i]? = some sl → (i ∈ vs ∧ ρ[i]? = some sl ∧ plainSl sl = true) ∨ (i ∉ vs ∧ ρe[i]? = some sl) := fun i sl e => by
    by_cases h : i ∈ vs
    · rw [restore_in hl h] at e
      have q := List.all_eq_true.mp ok i h
      rw [e] at q
      exact .inl ⟨h, e, q⟩
    · rw [restore_out h] at e
      exact .inr ⟨h, e⟩
  refine R.slots (by rw [restore_len, ← R.len, wipe_length]) (fun i sl e => ?_) (fun i j a ds es e1 e2 e3 e4 => ?_) (fun i j ds es e1 e2 => ?_) (fun i j a ds es e1 e2 e3 e4 => ?_)
  · rcases old i sl e with ⟨h, e, p⟩ | ⟨h, e⟩
    · have q := R0.sl i sl e
      cases sl with
      | un => trivial
      | fn n => cases p
      | dat d =>
        obtain ⟨x, e1, e2⟩ := q
        exact ⟨x, e1, dp_same s e2⟩
      | own ds => cases p
      | io ds => cases p
      | dic kvs => cases p
    · have q := R.sl i sl e
      rw [vAt_wipe_out h] at q
      exact q
  · rcases old i _ e1 with ⟨_, _, p⟩ | ⟨h1, e1⟩
    · cases p
    · rcases old j _ e2 with ⟨_, _, p⟩ | ⟨h2, e2⟩
      · cases p
      · rw [← vAt_wipe_out h1] at e3
        rw [← vAt_wipe_out h2] at e4
        exact R.dj i j a ds es e1 e2 e3 e4
  · rcases old i _ e1 with ⟨_, _, p⟩ | ⟨h1, e1⟩
    · cases p
    · rcases old j _ e2 with ⟨_, _, p⟩ | ⟨h2, e2⟩
      · cases p
      · exact R.iu i j ds es e1 e2
  · rcases old i _ e1 with ⟨_, _, p⟩ | ⟨h1, e1⟩
    · cases p
    · rcases old j _ e2 with ⟨_, _, p⟩ | ⟨h2, e2⟩
      · cases p
      · rw [← vAt_wipe_out h1] at e3
        rw [← vAt_wipe_out h2] at e4
        exact R.dk i j a ds es e1 e2 e3 e4
/-! ### a list on the side, kept -/
abbrev Co.with (c : Co) (D : Addr) (o : HO) : Co := { c with H0 := upd c.H0 D o }
theorem Rl.guard {D : Addr} {ds : List PyData} {vs : List V} (R : Rl c F H σ ρ) (f : Fresh c F H σ ρ D ds) (hv : H D = some (.lst vs)) (f0 : c.F0 D = none) : Rl (c.with D (.lst vs)) F H σ ρ := by
  have nio : D ∉ c.io := fun z => (R.ioh D z).1 f.h0
  refine ⟨R.len, R.sub, R.ft, R.tb, R.mono, fun b o e h1 h2 => ?_, fun a ha => ?_, fun i sl e => ?_, R.dj, R.iu, fun a h1 h2 => ?_, R.tf, R.dk⟩
  · by_cases hb : b = D
    · have e' : upd c.H0 D (.lst vs) b = some o := e
      rw [hb, upd_same] at e'
      rw [hb, hv]
      exact e'
    · have e' : upd c.H0 D (.lst vs) b = some o := e
      rw [upd_ne hb] at e'
      exact R.fr b o e' h1 h2
  · have na : a ≠ D := fun z => nio (by rw [← z]; exact ha)
    obtain ⟨h1, h2⟩ := R.ioh a ha
    refine ⟨?_, h2⟩
    show upd c.H0 D (.lst vs) a ≠ none
    rw [upd_ne na]
    exact h1
  · have q := R.sl i sl e
    cases sl with
    | un => trivial
    | fn n => exact q
    | dat d => exact q
    | own es =>
      obtain ⟨a, ws, e1, e2, e3, e4, e5, e6⟩ := q
      have na : a ≠ D := fun z => f.no i es e (by rw [e1, z])
      refine ⟨a, ws, e1, e2, e3, e4, e5, ?_⟩
      show upd c.H0 D (.lst vs) a = none
      rw [upd_ne na]
      exact e6
    | io es => exact q
    | dic kvs =>
      obtain ⟨a, ws, e1, e2, e3, e4, e5, e6⟩ := q
      have na : a ≠ D := fun z => by
        rw [z, hv] at e2
        cases e2
      refine ⟨a, ws, e1, e2, e3, e4, e5, ?_⟩
      show upd c.H0 D (.lst vs) a = none
      rw [upd_ne na]
      exact e6
  · by_cases ha : a = D
    · rw [ha]
      exact f.nf
    · refine R.nw a ?_ h2
      have h1' : upd c.H0 D (.lst vs) a ≠ none := h1
      rw [upd_ne ha] at h1'
      exact h1'
theorem Rl.unguard {D : Addr} {o : HO} (R : Rl (c.with D o) F H σ ρ) (h0 : c.H0 D = none) (nT : D ∉ c.T) (nio : D ∉ c.io) (f0 : c.F0 D = none) : Rl c F H σ ρ ∧ H D = some o ∧ F D = none ∧ ∀ i es, ρ[i]? = some (Sl.own es) → vAt σ i ≠ some (.ref D) := by
  refine ⟨⟨R.len, R.sub, R.ft, R.tb, R.mono, fun b x e h1 h2 => ?_, fun a ha => ?_, fun i sl e => ?_, R.dj, R.iu, fun a h1 h2 => ?_, R.tf, R.dk⟩, R.fr D o upd_same nT nio, R.nw D (by show upd c.H0 D o D ≠ none; rw [upd_same]; exact fun z => by cases z) f0, fun i es e z => ?_⟩
  · refine R.fr b x ?_ h1 h2
    show upd c.H0 D o b = some x
    rw [upd_ne (ne_of_none e h0)]
    exact e
  · obtain ⟨h1, h2⟩ := R.ioh a ha
    have na : a ≠ D := fun z => nio (by rw [← z]; exact ha)
    have h1' : upd c.H0 D o a ≠ none := h1
    rw [upd_ne na] at h1'
    exact ⟨h1', h2⟩
  · have q := R.sl i sl e
    cases sl with
    | un => trivial
    | fn n => exact q
    | dat d => exact q
    | own es =>
      obtain ⟨a, ws, e1, e2, e3, e4, e5, e6⟩ := q
      refine ⟨a, ws, e1, e2, e3, e4, e5, ?_⟩
      have e6' : upd c.H0 D o a = none := e6
      by_cases na : a = D
      · rw [na, upd_same] at e6'
        cases e6'
      · rw [upd_ne na] at e6'
        exact e6'
    | io es => exact q
    | dic kvs =>
      obtain ⟨a, ws, e1, e2, e3, e4, e5, e6⟩ := q
      refine ⟨a, ws, e1, e2, e3, e4, e5, ?_⟩
      have e6' : upd c.H0 D o a = none := e6
      by_cases na : a = D
      · rw [na, upd_same] at e6'
        cases e6'
      · rw [upd_ne na] at e6'
        exact e6'
  · refine R.nw a ?_ h2
    show upd c.H0 D o a ≠ none
    by_cases na : a = D
    · rw [na, upd_same]
      exact fun z => by cases z
    · rw [upd_ne na]
      exact h1
  · obtain ⟨a, ws, e1, e2, e3, e4, e5, e6⟩ := R.sl i _ e
    rw [z] at e1
    cases e1
    have e6' : upd c.H0 D o D = none := e6
    rw [upd_same] at e6'
    cases e6'
/-- a list on the side changes -/
theorem Rl.side {D : Addr} {vs : List V} {o : HO} (R : Rl c F H σ ρ) (hD : H D = some (.lst vs)) (nf : F D = none) (nT : D ∉ c.T) (h0 : c.H0 D = none) (no : ∀ i es, ρ[i]? = some (Sl.own es) → vAt σ i ≠ some (.ref D)) : Rl c F (upd H D o) σ ρ := by
  have nio : ∀ a ∈ c.io, a ≠ D := fun a ha z => (R.ioh a ha).1 (by rw [z]; exact h0)
  refine ⟨R.len, fun b x e => ?_, R.ft, fun P hP => ?_, R.mono, fun b x e h1 h2 => ?_, fun a ha => ?_, fun i sl e => ?_, R.dj, R.iu, R.nw, R.tf, R.dk⟩
  · rw [upd_ne (ne_of_none e nf)]
    exact R.sub _ _ e
  · obtain ⟨ps, e, t⟩ := R.tb P hP
    have nP : P ≠ D := fun z => nT (by rw [← z]; exact hP)
    exact ⟨ps, by rw [upd_ne nP]; exact e, t⟩
  · rw [upd_ne (ne_of_none e h0)]
    exact R.fr b x e h1 h2
  · obtain ⟨h1, h2, h3, ws, h4⟩ := R.ioh a ha
    exact ⟨h1, h2, h3, ws, by rw [upd_ne (nio a ha)]; exact h4⟩
  · have q := R.sl i sl e
    cases sl with
    | un => trivial
    | fn n => exact q
    | dat d => exact q
    | own es =>
      obtain ⟨a, ws, e1, e2, e3, e4, e5, e6⟩ := q
      have na : a ≠ D := fun z => no i es e (by rw [e1, z])
      exact ⟨a, ws, e1, by rw [upd_ne na]; exact e2, e3, e4, e5, e6⟩
    | io es =>
      obtain ⟨a, ws, e0, e1, e2, e3, e4, e5⟩ := q
      exact ⟨a, ws, e0, e1, by rw [upd_ne (nio a (by rw [e0]; simp))]; exact e2, e3, e4, e5⟩
    | dic kvs =>
      obtain ⟨a, ws, e1, e2, e3, e4, e5, e6⟩ := q
      have na : a ≠ D := fun z => by
        rw [z, hD] at e2
        cases e2
      exact ⟨a, ws, e1, by rw [upd_ne na]; exact e2, e3, e4, e5, e6⟩
end
/-! ### new lists -/
def rF (c : Co) (f : SI) : TE := fun σ H Q => ∃ F ρ ds ρ', Rl c F H σ ρ ∧ f ρ = some (ds, ρ') ∧ ∀ a H' F', Same F F' → Rl c F' H' σ ρ' → Fresh c F' H' σ ρ' a ds → Q (.ref a) H'
structure EF (c : Co) (X : Cx) (e : Expr) (f : SI) : Prop where
  pe : PE X e (rF c f)
def sFr (f : SI) : SE := fun ρ => match f ρ with
  | some (ds, ρ1) => some (.d (.list ds), ρ1)
  | none => none
section
variable {c : Co} {X : Cx} {e : Expr} {es : List Expr} {pos : Pos}
theorem eo_fr {f : SI} (h : EF c X e f) : EO c X e (sFr f) := by
  refine ⟨pe_imp h.pe fun σ H Q ⟨F, ρ, x, ρ', R, e, k⟩ => ?_⟩
  unfold sFr at e
  cases e1 : f ρ with
  | none => rw [e1] at e; cases e
  | some p =>
    obtain ⟨ds, ρ1⟩ := p
    rw [e1] at e
    cases e
    refine ⟨F, ρ, ds, _, R, e1, fun a H' F' s R' f' => ?_⟩
    obtain ⟨vs, hv, hd⟩ := f'.at_
    have R2 := R'.freeze f' hv
    exact k (.ref a) H' _ (s.trans fun b o z => by rw [upd_ne (ne_of_none z f'.nf)]; exact z) R2 (dp_frozen f'.nf hd)
/-- x = a new list, x changed later -/
def sOwn (i : Nat) (f : SI) : SS := fun ρ => match f ρ with
  | some (ds, ρ1) => some (.nx, ρ1.set i (.own ds))
  | none => none
theorem Rl.putOwn (i : Nat) {F H : Hp} {σ : L2.St} {ρ1 : Ev} {a : Addr} {ds : List PyData} (R' : Rl c F H σ ρ1) (f' : Fresh c F H σ ρ1 a ds) : Rl c F H (σ.set i (some (.ref a))) (ρ1.set i (.own ds)) := by
  obtain ⟨vs, hv, hd⟩ := f'.at_
  have far : ∀ (j : Nat) sl, (ρ1.set i (.own ds))[j]? = some sl → (i = j ∧ sl = .own ds ∧ i < ρ1.length) ∨ (i ≠ j ∧ ρ1[j]? = some sl) := fun j sl e => by
    by_cases hj : i = j
    · subst hj
      by_cases hi : i < ρ1.length
      · rw [List.getElem?_set_self hi] at e
        cases e
        exact .inl ⟨rfl, rfl, hi⟩
      · rw [List.getElem?_eq_none (by simpa using hi)] at e
        cases e
    · rw [List.getElem?_set_ne hj] at e
      exact .inr ⟨hj, e⟩
  refine R'.slots (by rw [List.length_set, List.length_set]; exact R'.len) (fun j sl e => ?_) (fun j m b xs ys e1 e2 e3 e4 => ?_) (fun j m xs ys e1 e2 => ?_) (fun j m b xs ys e1 e2 e3 e4 => ?_)
  · rcases far j sl e with ⟨rfl, rfl, hi⟩ | ⟨hj, e⟩
    · exact ⟨a, vs, vAt_set (by rw [R'.len]; exact hi), hv, hd, f'.nf, f'.nt, f'.h0⟩
    · rw [vAt_ne hj]
      exact R'.sl j sl e
  · rcases far j _ e1 with ⟨rfl, _, hi⟩ | ⟨hj, e1⟩
    · rcases far m _ e2 with ⟨rfl, _, _⟩ | ⟨hm, e2⟩
      · rfl
      · rw [vAt_set (by rw [R'.len]; exact hi)] at e3
        cases e3
        rw [vAt_ne hm] at e4
        exact absurd e4 (f'.no m ys e2)
    · rcases far m _ e2 with ⟨rfl, _, hi⟩ | ⟨hm, e2⟩
      · rw [vAt_set (by rw [R'.len]; exact hi)] at e4
        cases e4
        rw [vAt_ne hj] at e3
        exact absurd e3 (f'.no j xs e1)
      · rw [vAt_ne hj] at e3
        rw [vAt_ne hm] at e4
        exact R'.dj j m b xs ys e1 e2 e3 e4
  · rcases far j _ e1 with ⟨_, h, _⟩ | ⟨hj, e1⟩
    · cases h
    · rcases far m _ e2 with ⟨_, h, _⟩ | ⟨hm, e2⟩
      · cases h
      · exact R'.iu j m xs ys e1 e2
  · rcases far j _ e1 with ⟨_, h, _⟩ | ⟨hj, e1⟩
    · cases h
    · rcases far m _ e2 with ⟨_, h, _⟩ | ⟨hm, e2⟩
      · cases h
      · rw [vAt_ne hj] at e3
        rw [vAt_ne hm] at e4
        exact R'.dk j m b xs ys e1 e2 e3 e4
theorem own_core (i : Nat) {f : SI} {D : Ends} {σ : L2.St} {H : Hp} (q : rS c (sOwn i f) D σ H) : rF c f σ H fun x H1 => gName i x σ H1 D.nx := by
  obtain ⟨F, ρ, fl, ρ', R, e, k⟩ := q
  unfold sOwn at e
  cases e1 : f ρ with
  | none => rw [e1] at e; cases e
  | some p =>
    obtain ⟨ds, ρ1⟩ := p
    rw [e1] at e
    cases e
    refine ⟨F, ρ, ds, ρ1, R, e1, fun a H' F' s R' f' => k (σ.set i (some (.ref a))) H' F' s (R'.putOwn i f')⟩
theorem es_own (i : Nat) {f : SI} {st : Stmt} (h : ∀ {te : TE}, PE X e te → PS X st (tAsg te (gName i))) (he : EF c X e f) : ES c X st (sOwn i f) :=
  ⟨ps_imp (h he.pe) fun _ _ _ q => own_core i q⟩
/-- [a, b, ..] -/
def sLst (fa : SA) : SI := fun ρ => match fa ρ with
  | some (xs, ρ1) => match allD xs with
    | some ds => if ds.length ≤ 1000000 then some (ds, ρ1) else none
    | none => none
  | none => none
theorem size_line {n : Nat} (h : n ≤ 1000000) : n ≤ sizeLine := Nat.le_trans h (by decide)
theorem ef_lst {fa : SA} (h : EA c X es fa) : EF c X (.List es pos) (sLst fa) := by
  refine ⟨pe_imp (pe_lst h.pa) fun σ H Q ⟨F, ρ, x, ρ', R, e, k⟩ => ?_⟩
  unfold sLst at e
  cases e1 : fa ρ with
  | none => rw [e1] at e; cases e
  | some p =>
    obtain ⟨xs, ρ1⟩ := p
    rw [e1] at e
    dsimp only at e
    cases e2 : allD xs with
    | none => rw [e2] at e; cases e
    | some ds =>
      rw [e2] at e
      dsimp only at e
      split at e
      · rename_i hn
        cases e
        refine ⟨F, ρ, xs, _, R, e1, fun vs H1 F1 s1 R1 o1 => ?_⟩
        have hd := allD_ok o1 e2
        refine ⟨by rw [dpAll_len hd]; exact size_line hn, fun p hp => ?_⟩
        obtain ⟨R2, f2⟩ := R1.fresh hp hd
        exact k p _ F1 s1 R2 f2
      · cases e
/-- (a, b, ..) -/
def sTup (fa : SA) : SE := fun ρ => match fa ρ with
  | some (xs, ρ1) => match allD xs with
    | some ds => if ds.length ≤ 1000000 then some (.d (.tuple ds), ρ1) else none
    | none => none
  | none => none
theorem dp_newT {K : PySem.W.Frag} {F : Hp} {p : Addr} {vs : List V} {ds : List PyData} {ob : Obj} (fp : F p = none) (h : DzAll K F vs ds) : Dz K (upd F p (.frz ob (.tup vs))) (.ref p) (.tuple ds) :=
  .tup (.inl (.inr ⟨ob, upd_same⟩)) (dpAll_same (fun b o e => by
    rw [upd_ne (ne_of_none e fp)]
    exact e) h)
theorem dp_newL {K : PySem.W.Frag} {F : Hp} {p : Addr} {vs : List V} {ds : List PyData} (fp : F p = none) (h : DzAll K F vs ds) : Dz K (upd F p (.lst vs)) (.ref p) (.list ds) := dp_frozen fp h
theorem eo_tup {fa : SA} {x1 : Nat} (h : EA c X es fa) : EO c X (.Tuple es x1 pos) (sTup fa) := by
  refine ⟨pe_imp (pe_tupF h.pa) fun σ H Q ⟨F, ρ, x, ρ', R, e, k⟩ => ?_⟩
  unfold sTup at e
  cases e1 : fa ρ with
  | none => rw [e1] at e; cases e
  | some p =>
    obtain ⟨xs, ρ1⟩ := p
    rw [e1] at e
    dsimp only at e
    cases e2 : allD xs with
    | none => rw [e2] at e; cases e
    | some ds =>
      rw [e2] at e
      dsimp only at e
      split at e
      · rename_i hn
        cases e
        refine ⟨F, ρ, xs, _, R, e1, fun vs H1 F1 s1 R1 o1 => ?_⟩
        have hd := allD_ok o1 e2
        refine ⟨by rw [dpAll_len hd]; exact size_line hn, fun p ob hp hob => ?_⟩
        have xt := Xt.new (o := .frz ob (.tup vs)) R1.sub hp hob
        exact k (.ref p) _ _ (s1.trans xt.f) (R1.xt xt) (dp_newT (R1.sub.free hp) hd)
      · cases e
/-! ### comprehensions -/
def compL (g : SG) (t : STe) (f : SE) (vs : List Nat) : List PyData → List PyData → Ev → Option (List PyData × Ev)
  | [], acc, ρ => some (acc, ρ)
  | d :: ds, acc, ρ => match g d (wipeE ρ vs) with
    | none => none
    | some ρ1 => match t ρ1 with
      | none => none
      | some (false, ρ2) => compL g t f vs ds acc ρ2
      | some (true, ρ2) => match f ρ2 with
        | some (.d y, ρ3) => if acc.length < 1000000 then compL g t f vs ds (acc ++ [y]) ρ3 else none
        | _ => none
def sComp (fi : SI) (g : SG) (t : STe) (f : SE) (vs : List Nat) : SI := fun ρ => match fi ρ with
  | none => none
  | some (items, ρ1) => if okWipe ρ1 vs then match compL g t f vs items [] ρ1 with
      | some (ds, ρ2) => some (ds, restore (wipeE ρ2 vs) ρ1 vs)
      | none => none
    else none
def tYes' : STe := fun ρ => some (true, ρ)
structure ETs (c : Co) (X : Cx) (ifs : List Expr) (f : STe) : Prop where
  pts : PTs X ifs (rT c f)
theorem ets_nil : ETs c X [] tYes' := ⟨⟨fun pins s σ H Q I ⟨F, ρ, b, ρ', R, e, k⟩ => by
  cases e
  exact pts_nil.run pins s σ H Q I (k H F (Same.refl _) R)⟩⟩
theorem ets_one {q : Expr} {t : STe} (h : ET c X q t) : ETs c X [q] t := ⟨pts_one h.pt⟩
/-- the same context, begun elsewhere -/
abbrev Co.re (c : Co) (H0 F0 : Hp) (io : List Addr) : Co := ⟨c.K, c.T, H0, F0, io, c.fv⟩
abbrev AnyG (c : Co) (g : SG) (ks : List Nat) : TG := fun x σ H Q => ∃ c' : Co, c'.K = c.K ∧ (c'.T = c.T ∧ c'.fv = c.fv) ∧ rG c' g ks x σ H Q
abbrev AnyT (c : Co) (t : STe) : TT := fun σ H Q => ∃ c' : Co, c'.K = c.K ∧ (c'.T = c.T ∧ c'.fv = c.fv) ∧ rT c' t σ H Q
abbrev AnyE (c : Co) (f : SE) : TE := fun σ H Q => ∃ c' : Co, c'.K = c.K ∧ (c'.T = c.T ∧ c'.fv = c.fv) ∧ rE c' f σ H Q
theorem re_eq {c c' : Co} (hK : c'.K = c.K) (hT : c'.T = c.T ∧ c'.fv = c.fv) : c' = c.re c'.H0 c'.F0 c'.io := by
  obtain ⟨hT, hv⟩ := hT
  cases c'
  cases c
  cases hK
  cases hT
  cases hv
  rfl
theorem comp_core {fi : SI} {g : SG} {ks : List Nat} {t : STe} {f : SE} {vs : List Nat} (hks : ∀ i ∈ ks, i ∈ vs) {σ : L2.St} {H : Hp} {Q : VK} (hyp : rF c (sComp fi g t f vs) σ H Q) : tLc (rIt c fi) (AnyG c g ks) (AnyT c t) (AnyE c f) vs σ H Q := by
  obtain ⟨F, ρ, out, ρ', R, e, k⟩ := hyp
  unfold sComp at e
  cases e1 : fi ρ with
  | none => rw [e1] at e; cases e
  | some p =>
    obtain ⟨items, ρ1⟩ := p
    rw [e1] at e
    dsimp only at e
    by_cases okw : okWipe ρ1 vs = true
    · rw [if_pos okw] at e
      cases e2 : compL g t f vs items [] ρ1 with
      | none => rw [e2] at e; cases e
      | some q =>
        obtain ⟨ds, ρe⟩ := q
        rw [e2] at e
        cases e
        refine ⟨F, ρ, items, ρ1, R, e1, fun J H1 F1 s1 R1 wk => fun D hD => ?_⟩
        obtain ⟨R2, f2⟩ := R1.fresh (vs := []) (ds := []) hD .nil
        have f0 : c.F0 D = none := R1.mono.free (R1.sub.free hD)
        have nio : D ∉ c.io := fun z => (R2.ioh D z).1 f2.h0
        -- the turns
        refine ⟨fun i m H => i + m = items.length ∧ ∃ F2 ρ2 acc, Same F1 F2 ∧ Rl c F2 H (L2.wipe σ vs) (wipeE ρ2 vs) ∧ Fresh c F2 H (L2.wipe σ vs) (wipeE ρ2 vs) D acc ∧ compL g t f vs (items.drop i) acc ρ2 = some (out, ρe),
          ⟨items.length, by omega, F1, ρ1, [], Same.refl _, R2.wipe vs, ⟨f2.at_, f2.nf, f2.nt, f2.h0, fun i es e z => ?_⟩, e2⟩, ?_⟩
        · by_cases hi : i ∈ vs
          · cases wipeE_in hi e
          · rw [wipeE_out hi] at e
            rw [vAt_wipe_out hi] at z
            exact f2.no i es e z
        · rintro i m H2 ⟨him, F2, ρ2, acc, s2, R2, fr, e3⟩
          cases m with
          | zero =>
            have hi : i = items.length := by omega
            rw [hi, List.drop_length] at e3
            simp only [compL, Option.some.injEq, Prod.mk.injEq] at e3
            obtain ⟨rfl, rfl⟩ := e3
            rw [hi]
            refine .inl ⟨wk.stop F2 H2 s2 R2.sub, ?_⟩
            have R3 := R1.restore s2 okw R2
            refine k D H2 F2 (s1.trans s2) R3 ⟨fr.at_, fr.nf, fr.nt, fr.h0, fun j es e z => ?_⟩
            by_cases hj : j ∈ vs
            · have hl : (wipeE ρ2 vs).length = ρ1.length := by rw [← R2.len, wipe_length, R1.len]
              rw [restore_in hl hj] at e
              have q := List.all_eq_true.mp okw j hj
              rw [e] at q
              cases q
            · rw [restore_out hj] at e
              rw [← vAt_wipe_out hj] at z
              exact fr.no j es e z
          | succ m =>
            have hi : i < items.length := by omega
            rw [List.drop_eq_getElem_cons hi] at e3
            have at_ : items[i]? = some items[i] := List.getElem?_eq_getElem hi
            obtain ⟨go, yl⟩ := wk.go i _ F2 H2 at_ s2 R2.sub
            simp only [compL] at e3
            cases e4 : g items[i] (wipeE ρ2 vs) with
            | none => rw [e4] at e3; cases e3
            | some ρ3 =>
              rw [e4] at e3
              dsimp only at e3
              obtain ⟨av, hav, had⟩ := fr.at_
              have gd := R2.guard fr hav f0
              refine .inr ⟨go, fun H' => i + 1 + m = items.length ∧ ∃ F2 ρ2 acc, Same F1 F2 ∧ Rl c F2 H' (L2.wipe σ vs) (wipeE ρ2 vs) ∧ Fresh c F2 H' (L2.wipe σ vs) (wipeE ρ2 vs) D acc ∧ compL g t f vs (items.drop (i + 1)) acc ρ2 = some (out, ρe), fun H' hN => ⟨m, by omega, hN⟩, fun x H3 hy => ?_⟩
              obtain ⟨F3, xt, dx⟩ := yl x H3 hy
              refine ⟨c.with D (.lst av), rfl, ⟨rfl, rfl⟩, F3, wipeE ρ2 vs, _, ρ3, gd.xt xt, dx, e4, fun σ4 but R4 => ?_⟩
              have ew : L2.wipe σ4 vs = L2.wipe σ vs := wipe_but (fun j hj => (but.2 j fun z => hj (hks j z)).trans (wipe_out hj)) (but.1.trans (wipe_length σ vs))
              refine ⟨ew, ?_⟩
              cases e5 : t ρ3 with
              | none => rw [e5] at e3; cases e3
              | some q =>
                obtain ⟨b, ρ5⟩ := q
                rw [e5] at e3
                refine ⟨c.with D (.lst av), rfl, ⟨rfl, rfl⟩, F3, ρ3, b, ρ5, R4, e5, fun H5 F5 s5 R5 => ?_⟩
                cases b with
                | false =>
                  dsimp only at e3
                  simp only [Bool.false_eq_true, if_false]
                  obtain ⟨R6, hD6, fD6, no6⟩ := R5.unguard f2.h0 f2.nt nio f0
                  have R7 := R6.wipe vs
                  rw [ew] at R7
                  refine ⟨by omega, F5, ρ5, acc, s2.trans (xt.f.trans s5), R7, ⟨⟨av, hD6, dpAll_same (xt.f.trans s5) had⟩, fD6, f2.nt, f2.h0, fun j es e z => ?_⟩, e3⟩
                  by_cases hj : j ∈ vs
                  · cases wipeE_in hj e
                  · rw [wipeE_out hj] at e
                    rw [← ew, vAt_wipe_out hj] at z
                    exact no6 j es e z
                | true =>
                  dsimp only at e3
                  simp only [if_true]
                  cases e6 : f ρ5 with
                  | none => rw [e6] at e3; cases e3
                  | some q =>
                    obtain ⟨y, ρ6⟩ := q
                    rw [e6] at e3
                    cases y with
                    | s i => cases e3
                    | d y =>
                      dsimp only at e3
                      split at e3
                      · rename_i hacc
                        refine ⟨c.with D (.lst av), rfl, ⟨rfl, rfl⟩, F5, ρ5, _, ρ6, R5, e6, fun v H7 F7 s7 R7 o7 => ?_⟩
                        obtain ⟨R8, hD8, fD8, no8⟩ := R7.unguard f2.h0 f2.nt nio f0
                        have had8 : DzAll c.K F7 av acc := dpAll_same (xt.f.trans (s5.trans s7)) had
                        refine ⟨av, hD8, by rw [dpAll_len had]; exact Nat.lt_of_lt_of_le hacc (by decide), by omega, F7, ρ6, acc ++ [y], s2.trans (xt.f.trans (s5.trans s7)), ?_, ⟨⟨av ++ [v], upd_same, dpAll_app had8 (.cons o7 .nil)⟩, fD8, f2.nt, f2.h0, fun j es e z => ?_⟩, e3⟩
                        · have R9 := (R8.side (o := .lst (av ++ [v])) hD8 fD8 f2.nt f2.h0 no8).wipe vs
                          rw [ew] at R9
                          exact R9
                        · by_cases hj : j ∈ vs
                          · cases wipeE_in hj e
                          · rw [wipeE_out hj] at e
                            rw [← ew, vAt_wipe_out hj] at z
                            exact no8 j es e z
                      · cases e3
    · rw [if_neg okw] at e
      cases e
section
variable {elt tg iter : Expr} {ifs : List Expr} {scope : Scope} {own : List (Str × Nat)} {fi : SI} {g : SG} {ks : List Nat} {t : STe} {f : SE}
theorem any_g {G : Cx} (h : ∀ H0 F0 io, EG (c.re H0 F0 io) G tg g ks) : PG G tg (AnyG c g ks) := ⟨fun pins s' σ H' v u Q I r ⟨c', hK, hT, q⟩ => by
  rw [re_eq hK hT] at q
  exact (h _ _ _).pg.run pins s' σ H' v u Q I r q⟩
theorem any_t {G : Cx} (h : ∀ H0 F0 io, ETs (c.re H0 F0 io) G ifs t) : PTs G ifs (AnyT c t) := ⟨fun pins s' σ H' Q I ⟨c', hK, hT, q⟩ => by
  rw [re_eq hK hT] at q
  exact (h _ _ _).pts.run pins s' σ H' Q I q⟩
theorem any_e {G : Cx} (h : ∀ H0 F0 io, EO (c.re H0 F0 io) G elt f) : PE G elt (AnyE c f) := ⟨fun pins s' σ H' Q I ⟨c', hK, hT, q⟩ => by
  rw [re_eq hK hT] at q
  exact (h _ _ _).pe.run pins s' σ H' Q I q⟩
theorem ef_comp
    (h : ∀ {wi : TI} {g' : TG} {tt : TT} {te : TE}, PI X tg iter wi → (∀ (s : Shared) (H : Hp) (C : Addr) (cl : List (Str × Addr)) (fp : List Addr), PG (X.blk s H scope (compEnvC scope cl C X.env) fp) tg g') →
      (∀ (s : Shared) (H : Hp) (C : Addr) (cl : List (Str × Addr)) (fp : List Addr), PTs (X.blk s H scope (compEnvC scope cl C X.env) fp) ifs tt) → (∀ (s : Shared) (H : Hp) (C : Addr) (cl : List (Str × Addr)) (fp : List Addr), PE (X.blk s H scope (compEnvC scope cl C X.env) fp) elt te) → PE X e (tLc wi g' tt te (own.map (·.2))))
    (hi : EI c X tg iter fi) (hks : ∀ i ∈ ks, i ∈ own.map (·.2))
    (hg : ∀ H0 F0 io (s : Shared) (H : Hp) (C : Addr) (cl : List (Str × Addr)) (fp : List Addr), EG (c.re H0 F0 io) (X.blk s H scope (compEnvC scope cl C X.env) fp) tg g ks)
    (ht : ∀ H0 F0 io (s : Shared) (H : Hp) (C : Addr) (cl : List (Str × Addr)) (fp : List Addr), ETs (c.re H0 F0 io) (X.blk s H scope (compEnvC scope cl C X.env) fp) ifs t)
    (he : ∀ H0 F0 io (s : Shared) (H : Hp) (C : Addr) (cl : List (Str × Addr)) (fp : List Addr), EO (c.re H0 F0 io) (X.blk s H scope (compEnvC scope cl C X.env) fp) elt f) :
    EF c X e (sComp fi g t f (own.map (·.2))) :=
  ⟨pe_imp (h hi.pi (fun s H C cl fp => any_g fun H0 F0 io => hg H0 F0 io s H C cl fp) (fun s H C cl fp => any_t fun H0 F0 io => ht H0 F0 io s H C cl fp) fun s H C cl fp => any_e fun H0 F0 io => he H0 F0 io s H C cl fp) fun _ _ _ hyp => comp_core hks hyp⟩
/-- x = [..] on one line, as the model stores it -/
theorem setlc_core {i : Nat} {st : Stmt} {G : SI} {S : SS} (hS : ∀ D σ H, rS c S D σ H → rF c G σ H fun x H1 => gName i x σ H1 D.nx) {tt : TE} (h : PS X st (tAsg tt (gName i))) (hG : ∀ σ H Q, rF c G σ H Q → tt σ H Q) : ES c X st S :=
  ⟨ps_imp h fun D σ H q => hG σ H _ (hS D σ H q)⟩
theorem frS {i : Nat} {G : SI} : ∀ D σ H, rS c (sAsg (sFr G) (gN i)) D σ H → rF c G σ H fun x H1 => gName i x σ H1 D.nx := fun D σ H ⟨F, ρ, fl, ρ', R, e, k⟩ => by
  unfold sAsg sFr at e
  cases e1 : G ρ with
  | none => simp [e1] at e
  | some p =>
    obtain ⟨ds, ρ1⟩ := p
    simp only [e1, gN, Option.map_some, Option.some.injEq, Prod.mk.injEq] at e
    obtain ⟨rfl, rfl⟩ := e
    refine ⟨F, ρ, ds, ρ1, R, e1, fun a H' F' s R' f' => ?_⟩
    obtain ⟨vs, hv, hd⟩ := f'.at_
    exact k _ H' _ (s.trans fun b o z => by rw [upd_ne (ne_of_none z f'.nf)]; exact z) ((R'.freeze f' hv).set (dp_frozen f'.nf hd))
end
end
end PD
/-! Plain data: all(..), calls of built-ins, what is changed in place; the operations themselves -/
namespace PD
open PySem PySem.Spec PyProof.Rows L2 GxR LG
/-! ### all(..) -/
def allL (g : SG) (f : SE) (vs : List Nat) : List PyData → Ev → Option (Bool × Ev)
  | [], ρ => some (true, ρ)
  | d :: ds, ρ => match g d (wipeE ρ vs) with
    | none => none
    | some ρ1 => match f ρ1 with
      | some (.d (.bool true), ρ2) => allL g f vs ds ρ2
      | some (.d (.bool false), ρ2) => some (false, ρ2)
      | _ => none
def sAll (fi : SI) (g : SG) (f : SE) (vs : List Nat) : SE := fun ρ => match fi ρ with
  | none => none
  | some (items, ρ1) => if okWipe ρ1 vs then match allL g f vs items ρ1 with
      | some (b, ρ2) => some (.d (.bool b), restore (wipeE ρ2 vs) ρ1 vs)
      | none => none
    else none
section
variable {c : Co} {X : Cx} {e : Expr} {es : List Expr} {pos : Pos}
theorem Rl.tabbed {F H H' : Hp} {σ : L2.St} {ρ : Ev} {P : Addr} (R : Rl c F H σ ρ) (hP : P ∈ c.T) (t : Tabbed P H H') : Rl c F H' σ ρ := by
  have same : ∀ b, b ≠ P → H' b = H b := t.2
  refine R.call (Same.refl _) (fun b o e => ?_) (fun Q hQ => ⟨R.ft Q hQ, ?_⟩) (fun b o e hb => ?_) (fun _ _ h => h) R.tf
  · have nb : b ≠ P := fun z => by
      rw [z, R.ft P hP] at e
      cases e
    rw [same b nb]
    exact R.sub _ _ e
  · by_cases h : Q = P
    · rw [h]
      exact t.1
    · obtain ⟨ps, e, q⟩ := R.tb Q hQ
      exact ⟨ps, by rw [same Q h]; exact e, q⟩
  · rw [same b (fun z => hb (by rw [z]; exact hP))]
    exact e
theorem eo_all {elt tg iter : Expr} {scope : Scope} {own : List (Str × Nat)} {fi : SI} {g : SG} {ks : List Nat} {f : SE} {P : Addr} {k : Nat} (hP : P ∈ c.T)
    (h : ∀ {wi : TI} {g' : TG} {te : TE}, PI X tg iter wi → (∀ (s : Shared) (H : Hp) (A' : Around) (C : Addr) (code : Value) (fp : List Addr), PG (gcx X s H scope A' (gEnvOf X scope C code) fp) tg g') →
      (∀ (s : Shared) (H : Hp) (A' : Around) (C : Addr) (code : Value) (fp : List Addr), Room k A' → PE (gcx X s H scope A' (gEnvOf X scope C code) fp) elt te) → PE X e (tAllG wi g' te P (own.map (·.2))))
    (hi : EI c X tg iter fi)
    (hks : ∀ i ∈ ks, i ∈ own.map (·.2))
    (hg : ∀ (s : Shared) (H : Hp) (A' : Around) (C : Addr) (code : Value) (fp : List Addr), EG c (gcx X s H scope A' (gEnvOf X scope C code) fp) tg g ks)
    (he : ∀ (s : Shared) (H : Hp) (A' : Around) (C : Addr) (code : Value) (fp : List Addr), Room k A' → EO c (gcx X s H scope A' (gEnvOf X scope C code) fp) elt f) :
    EO c X e (sAll fi g f (own.map (·.2))) := by
  have h' := h hi.pi (fun s H A' C code fp => (hg s H A' C code fp).pg) (fun s H A' C code fp hr => (he s H A' C code fp hr).pe)
  generalize hvs : own.map (·.2) = vs at h' hks ⊢
  refine ⟨pe_imp h' fun σ H Q ⟨F, ρ, x, ρ', R, e, kk⟩ => ?_⟩
  unfold sAll at e
  cases e1 : fi ρ with
  | none => rw [e1] at e; cases e
  | some p =>
    obtain ⟨items, ρ1⟩ := p
    rw [e1] at e
    dsimp only at e
    by_cases okw : okWipe ρ1 vs = true
    · rw [if_pos okw] at e
      cases e2 : allL g f vs items ρ1 with
      | none => rw [e2] at e; cases e
      | some q =>
        obtain ⟨b, ρe⟩ := q
        rw [e2] at e
        cases e
        refine ⟨F, ρ, items, ρ1, R, e1, fun J H1 F1 s1 R1 wk => ⟨R1.tb P hP, fun H2 tb => ?_⟩⟩
        have R2 := R1.tabbed hP tb
        have fin : ∀ F2 H2 ρ2, Same F1 F2 → Rl c F2 H2 (L2.wipe σ vs) (wipeE ρ2 vs) → ρ2 = ρe → Q (.bl b) H2 := fun F2 H2 ρ2 s2 R2 e => by
          subst e
          exact kk (.bl b) H2 F2 (s1.trans s2) (R1.restore s2 okw R2) (.bl b)
        refine ⟨items.length, fun i H => ∃ F2 ρ2, Same F1 F2 ∧ Rl c F2 H (L2.wipe σ vs) (wipeE ρ2 vs) ∧ allL g f vs (items.drop i) ρ2 = some (b, ρe), ⟨F1, ρ1, Same.refl _, R2.wipe vs, e2⟩, ?_, ?_⟩
        · rintro i H3 hi ⟨F3, ρ3, s3, R3, e3⟩
          rw [List.drop_eq_getElem_cons hi] at e3
          have at_ : items[i]? = some items[i] := List.getElem?_eq_getElem hi
          obtain ⟨go, yl⟩ := wk.go i _ F3 H3 at_ s3 R3.sub
          refine ⟨go, fun x H4 hy => ?_⟩
          simp only [allL] at e3
          cases e4 : g items[i] (wipeE ρ3 vs) with
          | none => rw [e4] at e3; cases e3
          | some ρ4 =>
            rw [e4] at e3
            dsimp only at e3
            obtain ⟨F4, xt, dx⟩ := yl x H4 hy
            refine ⟨F4, wipeE ρ3 vs, _, ρ4, R3.xt xt, dx, e4, fun σ4 but R4 => ?_⟩
            have ew : L2.wipe σ4 vs = L2.wipe σ vs := wipe_but (fun j hj => (but.2 j fun z => hj (hks j z)).trans (wipe_out hj)) (but.1.trans (wipe_length σ vs))
            refine ⟨ew, ?_⟩
            obtain ⟨t, ρ5, e5, e6⟩ := bool_cases (f := f) (k1 := fun ρ2 => allL g f vs (items.drop (i + 1)) ρ2) (k2 := fun ρ2 => some (false, ρ2)) e3
            refine ⟨F4, ρ4, _, ρ5, R4, e5, fun v H6 F6 s6 R6 o6 => ?_⟩
            cases o6
            have R7 := R6.wipe vs
            rw [ew] at R7
            refine ⟨t, rfl, fun ht => ?_, fun ht => ?_⟩
            · subst ht
              exact ⟨F6, ρ5, s3.trans (xt.f.trans s6), R7, e6⟩
            · subst ht
              simp only [Bool.false_eq_true, if_false, Option.some.injEq, Prod.mk.injEq] at e6
              obtain ⟨rfl, rfl⟩ := e6
              exact fin F6 H6 ρ5 (s3.trans (xt.f.trans s6)) R7 rfl
        · rintro H3 ⟨F3, ρ3, s3, R3, e3⟩
          rw [List.drop_length] at e3
          simp only [allL, Option.some.injEq, Prod.mk.injEq] at e3
          obtain ⟨rfl, rfl⟩ := e3
          exact ⟨wk.stop F3 H3 s3 R3.sub, fin F3 H3 ρ3 s3 R3 rfl⟩
    · rw [if_neg okw] at e
      cases e
/-! ### built-ins by values -/
def allR (ρ : Ev) : List Ob → Option (List PyData)
  | [] => some []
  | x :: r => match res ρ x, allR ρ r with
    | some d, some ds => some (d :: ds)
    | _, _ => none
def VwAll (K : PySem.W.Frag) (F H : Hp) : List V → List PyData → Prop
  | [], [] => True
  | v :: vs, d :: ds => Vw K F H v d ∧ VwAll K F H vs ds
  | _, _ => False
theorem allR_ok {F H : Hp} {σ : L2.St} {ρ : Ev} (R : Rl c F H σ ρ) : ∀ {vs : List V} {xs : List Ob} {ds : List PyData}, ObsOk c F σ vs xs → allR ρ xs = some ds → VwAll c.K F H vs ds
  | [], [], _, _, e => by cases e; trivial
  | v :: vs, x :: xs, ds, h, e => by
    simp only [allR] at e
    cases e1 : res ρ x with
    | none => simp [e1] at e
    | some d =>
      cases e2 : allR ρ xs with
      | none => simp [e1, e2] at e
      | some r =>
        simp only [e1, e2, Option.some.injEq] at e
        subst e
        exact ⟨R.vw h.1 e1, allR_ok R h.2 e2⟩
  | [], _ :: _, _, h, _ => h.elim
  | _ :: _, [], _, h, _ => h.elim
def sN (f : List PyData → Option PyData) (fa : SA) : SE := fun ρ => match fa ρ with
  | some (xs, ρ1) => match allR ρ1 xs with
    | some ds => (f ds).map fun d => (.d d, ρ1)
    | none => none
  | none => none
def LNok (K : PySem.W.Frag) (r : List V → Hp → VK → Prop) (f : List PyData → Option PyData) : Prop :=
  ∀ (F H : Hp) (vs : List V) (ds : List PyData) (z : PyData) (Q : VK), Same F H → VwAll K F H vs ds → f ds = some z → (∀ v F' H', Xt F H F' H' → Dz K F' v z → Q v H') → r vs H Q
theorem eo_bn {r : List V → Hp → VK → Prop} {f : List PyData → Option PyData} {fa : SA} {ce : Expr} (h : ∀ {t : TA}, PA X es t → PE X ce (tCB r t)) (hl : LNok c.K r f) (ha : EA c X es fa) : EO c X ce (sN f fa) := by
  refine ⟨pe_imp (h ha.pa) fun σ H Q ⟨F, ρ, x, ρ', R, e, k⟩ => ?_⟩
  unfold sN at e
  cases e1 : fa ρ with
  | none => rw [e1] at e; cases e
  | some p =>
    obtain ⟨xs, ρ1⟩ := p
    rw [e1] at e
    dsimp only at e
    cases e2 : allR ρ1 xs with
    | none => rw [e2] at e; cases e
    | some ds =>
      rw [e2] at e
      dsimp only at e
      cases e3 : f ds with
      | none => rw [e3] at e; cases e
      | some d =>
        rw [e3] at e
        cases e
        exact ⟨F, ρ, xs, _, R, e1, fun vs H1 F1 s1 R1 o1 => hl F1 H1 vs ds d Q R1.sub (allR_ok R1 o1 e2) e3 fun v F' H' xt dv => k v H' F' (s1.trans xt.f) (R1.xt xt) dv⟩
/-- .. whose answer is a new list, nobody's yet -/
def sNF (f : List PyData → Option (List PyData)) (fa : SA) : SI := fun ρ => match fa ρ with
  | some (xs, ρ1) => match allR ρ1 xs with
    | some ds => (f ds).map fun d => (d, ρ1)
    | none => none
  | none => none
def LFok (K : PySem.W.Frag) (r : List V → Hp → VK → Prop) (f : List PyData → Option (List PyData)) : Prop :=
  ∀ (F H : Hp) (vs : List V) (ds z : List PyData) (Q : VK), Same F H → VwAll K F H vs ds → f ds = some z → (∀ p us, H p = none → DzAll K F us z → Q (.ref p) (upd H p (.lst us))) → r vs H Q
theorem ef_bn {r : List V → Hp → VK → Prop} {f : List PyData → Option (List PyData)} {fa : SA} {ce : Expr} (h : ∀ {t : TA}, PA X es t → PE X ce (tCB r t)) (hl : LFok c.K r f) (ha : EA c X es fa) : EF c X ce (sNF f fa) := by
  refine ⟨pe_imp (h ha.pa) fun σ H Q ⟨F, ρ, x, ρ', R, e, k⟩ => ?_⟩
  unfold sNF at e
  cases e1 : fa ρ with
  | none => rw [e1] at e; cases e
  | some p =>
    obtain ⟨xs, ρ1⟩ := p
    rw [e1] at e
    dsimp only at e
    cases e2 : allR ρ1 xs with
    | none => rw [e2] at e; cases e
    | some ds =>
      rw [e2] at e
      dsimp only at e
      cases e3 : f ds with
      | none => rw [e3] at e; cases e
      | some d =>
        rw [e3] at e
        cases e
        exact ⟨F, ρ, xs, _, R, e1, fun vs H1 F1 s1 R1 o1 => hl F1 H1 vs ds _ Q R1.sub (allR_ok R1 o1 e2) e3 fun p us hp hd => let ⟨R2, f2⟩ := R1.fresh hp hd; k p _ F1 s1 R2 f2⟩
/-! ### range -/
theorem ei_rg1 {a : Expr} {fa : SA} {tg ce : Expr} (h : ∀ {t : TA}, PA X [a] t → PI X tg ce (iRng1 t)) (ha : EA c X [a] fa) : EI c X tg ce (sRg1 fa) := by
  refine ⟨⟨fun pins s σ H R I ⟨F, ρ, items, ρ', RR, e1, k⟩ => ?_⟩⟩
  unfold sRg1 at e1
  split at e1
  · rename_i n ρ1 e2
    split at e1
    · rename_i hn
      cases e1
      refine (h ha.pa).run pins s σ H R I ⟨F, ρ, _, _, RR, e2, fun vs H1 F1 s1 R1 o1 => ?_⟩
      match vs, o1 with
      | [v], ⟨o, _⟩ =>
        cases o
        have w : Wk c (Itr 0 (n - 0).toNat) F1 (rangeD 0 n) := wk_range
        rw [Int.sub_zero] at w
        exact ⟨n, rfl, by omega, by omega, k _ H1 F1 s1 R1 w⟩
    · cases e1
  · cases e1
theorem ei_rg2 {a b : Expr} {fa : SA} {tg ce : Expr} (h : ∀ {t : TA}, PA X [a, b] t → PI X tg ce (iRng2 t)) (ha : EA c X [a, b] fa) : EI c X tg ce (sRg2 fa) := by
  refine ⟨⟨fun pins s σ H R I ⟨F, ρ, items, ρ', RR, e1, k⟩ => ?_⟩⟩
  unfold sRg2 at e1
  split at e1
  · rename_i n m ρ1 e2
    split at e1
    · rename_i hn
      cases e1
      refine (h ha.pa).run pins s σ H R I ⟨F, ρ, _, _, RR, e2, fun vs H1 F1 s1 R1 o1 => ?_⟩
      match vs, o1 with
      | [v, w], ⟨o, o', _⟩ =>
        cases o
        cases o'
        exact ⟨n, m, rfl, ⟨by omega, by omega, by omega, by omega⟩, k _ H1 F1 s1 R1 wk_range⟩
    · cases e1
  · cases e1
/-! ### changed in place -/
def sApp (i : Nat) (f : SE) : SS := fun ρ => match cont? ρ i with
  | none => none
  | some _ => match f ρ with
    | some (.d y, ρ1) => match cont? ρ1 i with
      | some ds => if ds.length < 1000000 then some (.nx, setCont ρ1 i (ds ++ [y])) else none
      | none => none
    | _ => none
theorem cont_at {F H : Hp} {σ : L2.St} {ρ : Ev} {i : Nat} {rs : List PyData} (R : Rl c F H σ ρ) (e2 : cont? ρ i = some rs) : ∃ r ws, vAt σ i = some (.ref r) ∧ H r = some (.lst ws) ∧ DzAll c.K F ws rs ∧ F r = none ∧ r ∉ c.T := by
  unfold cont? at e2
  cases q : ρ[i]? with
  | none => rw [q] at e2; cases e2
  | some sl =>
    rw [q] at e2
    have ok := R.sl i sl q
    cases sl with
    | un => cases e2
    | fn n => cases e2
    | dat d => cases e2
    | dic kvs => cases e2
    | own es' =>
      cases e2
      obtain ⟨a, ws, z1, z2, z3, z4, z5, _⟩ := ok
      exact ⟨a, ws, z1, z2, z3, z4, z5⟩
    | io es' =>
      cases e2
      obtain ⟨a, ws, z0, z1, z2, z3, z4, z5⟩ := ok
      exact ⟨a, ws, z1, z2, z3, z4, z5⟩
theorem Rl.put {F H : Hp} {σ : L2.St} {ρ : Ev} {i : Nat} {rs rs' : List PyData} {r : Addr} {ws : List V} (R : Rl c F H σ ρ) (hc : cont? ρ i = some rs) (hv : vAt σ i = some (.ref r)) (fr : F r = none) (nT : r ∉ c.T) (hw : DzAll c.K F ws rs') : Rl c F (upd H r (.lst ws)) σ (setCont ρ i rs') := by
  refine R.callI hc hv (Same.refl _) (fun b o e => ?_) (fun P hP => ⟨R.ft P hP, ?_⟩) (fun b o e _ nb => ?_) upd_same hw fr (fun _ _ h => h) R.tf
  · rw [upd_ne (ne_of_none e fr)]
    exact R.sub _ _ e
  · obtain ⟨ps, e, t⟩ := R.tb P hP
    have n : P ≠ r := fun z => nT (by rw [← z]; exact hP)
    exact ⟨ps, by rw [upd_ne n]; exact e, t⟩
  · rw [upd_ne nb]
    exact e
theorem es_app (i : Nat) {f : SE} {st : Stmt} (hK : X.K = c.K) (h : ∀ {te : TE}, PE X e te → PS X st (tDrop (tBM X.K "list" rAppend (tVar i) (tCons te tNil)))) (he : EO c X e f) : ES c X st (sApp i f) := by
  refine ⟨ps_imp (h he.pe) fun D σ H ⟨F, ρ, fl, ρ', R, e, k⟩ => ?_⟩
  unfold sApp at e
  cases e0 : cont? ρ i with
  | none => rw [e0] at e; cases e
  | some rs0 =>
    rw [e0] at e
    dsimp only at e
    obtain ⟨r, ws, v0, v1, v2, v3, v4⟩ := cont_at R e0
    cases e1 : f ρ with
    | none => rw [e1] at e; cases e
    | some p =>
      obtain ⟨x, ρ1⟩ := p
      rw [e1] at e
      cases x with
      | s i => cases e
      | d y =>
        dsimp only at e
        cases e2 : cont? ρ1 i with
        | none => rw [e2] at e; cases e
        | some ds =>
          rw [e2] at e
          dsimp only at e
          split at e
          · rename_i hn
            cases e
            refine ⟨.ref r, vAt_eq v0, .inl ⟨rfl, ws, .inl (.inl v1)⟩, F, ρ, _, ρ1, R, e1, fun v H1 F1 s1 R1 o1 => ?_⟩
            obtain ⟨r1, ws1, w0, w1, w2, w3, w4⟩ := cont_at R1 e2
            rw [v0] at w0
            cases w0
            exact ⟨r, ws1, v, rfl, rfl, w1, by rw [dpAll_len w2]; exact Nat.lt_of_lt_of_le hn (by decide), k σ _ F1 s1 (R1.put e2 v0 w3 w4 (dpAll_app w2 (.cons o1 .nil)))⟩
          · cases e
def sSetIx (i : Nat) (fi fe : SE) : SS := fun ρ => match fe ρ with
  | some (.d y, ρ1) => match cont? ρ1 i with
    | none => none
    | some _ => match fi ρ1 with
      | some (.d (.int n), ρ2) => match cont? ρ2 i with
        | some ds => (ixN ds.length n).map fun j => (.nx, setCont ρ2 i (ds.set j y))
        | none => none
      | _ => none
  | _ => none
theorem es_setIx (i : Nat) {fi fe : SE} {st : Stmt} {ie : Expr} (h : ∀ {te ti : TE}, PE X e te → PE X ie ti → PS X st (tAsg te (gSub (tVar i) ti rSetL))) (he : EO c X e fe) (hi : EO c X ie fi) : ES c X st (sSetIx i fi fe) := by
  refine ⟨ps_imp (h he.pe hi.pe) fun D σ H ⟨F, ρ, fl, ρ', R, e, k⟩ => ?_⟩
  unfold sSetIx at e
  cases e1 : fe ρ with
  | none => rw [e1] at e; cases e
  | some p =>
    obtain ⟨x, ρ1⟩ := p
    rw [e1] at e
    cases x with
    | s i => cases e
    | d y =>
      dsimp only at e
      cases e2 : cont? ρ1 i with
      | none => rw [e2] at e; cases e
      | some rs1 =>
        rw [e2] at e
        dsimp only at e
        split at e
        · rename_i n ρ2 e3
          cases e4 : cont? ρ2 i with
          | none => rw [e4] at e; cases e
          | some ds =>
            rw [e4] at e
            dsimp only at e
            cases e5 : ixN ds.length n with
            | none => rw [e5] at e; cases e
            | some j =>
              rw [e5] at e
              cases e
              refine ⟨F, ρ, _, ρ1, R, e1, fun v H1 F1 s1 R1 o1 => ?_⟩
              obtain ⟨r, ws, v0, v1, v2, v3, v4⟩ := cont_at R1 e2
              refine ⟨.ref r, vAt_eq v0, F1, ρ1, _, ρ2, R1, e3, fun u H2 F2 s2 R2 o2 => ?_⟩
              cases o2
              obtain ⟨r2, ws2, w0, w1, w2, w3, w4⟩ := cont_at R2 e4
              rw [v0] at w0
              cases w0
              exact ⟨r, ws2, n, j, rfl, rfl, w1, by rw [dpAll_len w2]; exact e5, k σ _ F2 (s1.trans s2) (R2.put e4 v0 w3 w4 (dpAll_set j w2 (dp_same s2 o1)))⟩
        · cases e
/-! ### chains -/
theorem ch_use {r r' : R2} {f g : PyData → PyData → Option PyData} {fa fb fc : SE} (hl : L2ok c.K r f) (hl' : L2ok c.K r' g) {σ : L2.St} {H : Hp} {Q : VK} (h : rE c (sChain f g fa fb fc) σ H Q)
    (hq : ∀ H, Q (.bl false) H → True) : tChain r r' (rE c fa) (rE c fb) (rE c fc) σ H Q := by
  obtain ⟨F, ρ, x, ρ', R, e, k⟩ := h
  unfold sChain at e
  cases h1 : fa ρ with
  | none => rw [h1] at e; cases e
  | some p =>
    obtain ⟨u, ρ1⟩ := p
    rw [h1] at e
    dsimp only at e
    cases h2 : fb ρ1 with
    | none => rw [h2] at e; cases e
    | some q =>
      obtain ⟨v, ρ2⟩ := q
      rw [h2] at e
      dsimp only at e
      cases h3 : res ρ2 u with
      | none => rw [h3] at e; cases e
      | some d =>
        cases h4 : res ρ2 v with
        | none => rw [h3, h4] at e; cases e
        | some e' =>
          rw [h3, h4] at e
          dsimp only at e
          refine ⟨F, ρ, u, ρ1, R, h1, fun xv H1 F1 s1 R1 o1 => ⟨F1, ρ1, v, ρ2, R1, h2, fun yv H2 F2 s2 R2 o2 => ?_⟩⟩
          cases h5 : f d e' with
          | none => rw [h5] at e; cases e
          | some z =>
            rw [h5] at e
            cases z with
            | bool b =>
              cases b with
              | false =>
                cases e
                refine hl F2 H2 xv yv d e' _ _ R2.sub (R2.vw (o1.same s2) h3) (R2.vw o2 h4) h5 fun w F3 H3 xt dz => ?_
                cases dz
                exact ⟨false, rfl, by
                  simp only [Bool.false_eq_true, if_false]
                  exact k _ H3 F3 (s1.trans (s2.trans xt.f)) (R2.xt xt) (.bl false)⟩
              | true =>
                dsimp only at e
                refine hl F2 H2 xv yv d e' _ _ R2.sub (R2.vw (o1.same s2) h3) (R2.vw o2 h4) h5 fun w F3 H3 xt dz => ?_
                cases dz
                refine ⟨true, rfl, ?_⟩
                simp only [if_true]
                cases h6 : fc ρ2 with
                | none => rw [h6] at e; cases e
                | some q =>
                  obtain ⟨z, ρ3⟩ := q
                  rw [h6] at e
                  dsimp only at e
                  cases h7 : res ρ3 v with
                  | none => rw [h7] at e; cases e
                  | some e2 =>
                    cases h8 : res ρ3 z with
                    | none => rw [h7, h8] at e; cases e
                    | some e3 =>
                      rw [h7, h8] at e
                      dsimp only at e
                      cases h9 : g e2 e3 with
                      | none => rw [h9] at e; cases e
                      | some w =>
                        rw [h9] at e
                        cases e
                        refine ⟨F3, ρ2, z, _, R2.xt xt, h6, fun zv H4 F4 s4 R4 o4 => ?_⟩
                        exact hl' F4 H4 yv zv e2 e3 _ Q R4.sub (R4.vw (o2.same (xt.f.trans s4)) h7) (R4.vw o4 h8) h9 fun w' F5 H5 xt5 d5 => k w' H5 F5 (s1.trans (s2.trans (xt.f.trans (s4.trans xt5.f)))) (R4.xt xt5) d5
            | _ => cases e
theorem eo_chain {a b d : Expr} {fa fb fd : SE} {op op' : CmpOp} {r r' : R2} {f g : PyData → PyData → Option PyData} (ho : OpR X (compareOp op) r) (ho' : OpR X (compareOp op') r') (hl : L2ok c.K r f) (hl' : L2ok c.K r' g) (ha : EO c X a fa) (hb : EO c X b fb) (hd : EO c X d fd)
    (hm : lastMarks [op, op'] [b, d] = false := by with_unfolding_all rfl) : EO c X (.Compare a [op, op'] [b, d] pos) (sChain f g fa fb fd) :=
  ⟨pe_imp (pe_chain ho ho' ha.pe hb.pe hd.pe hm) fun _ _ _ h => ch_use hl hl' h fun _ _ => trivial⟩
theorem et_chain {a b d : Expr} {fa fb fd : SE} {op op' : CmpOp} {r r' : R2} {f g : PyData → PyData → Option PyData} (ho : OpR X (compareOp op) r) (ho' : OpR X (compareOp op') r') (hl : L2ok c.K r f) (hl' : L2ok c.K r' g) (ha : EO c X a fa) (hb : EO c X b fb) (hd : EO c X d fd)
    (hm : lastMarks [op, op'] [b, d] = false := by with_unfolding_all rfl) : ET c X (.Compare a [op, op'] [b, d] pos) (toT (sChain f g fa fb fd)) :=
  ⟨pt_imp (pt_chain ho ho' ha.pe hb.pe hd.pe hm) fun _ _ _ h => ch_use hl hl' (rT_toT h) fun _ _ => trivial⟩
end
end PD
/-! Plain data: the operations -/
namespace PD
open PySem PySem.Spec PyProof.Rows L2 GxR LG
theorem opr_or {X : Cx} {f : Value → Value → Sem Value} {r r' : R2} (h : OpR X f r) (h' : OpR X f r') : OpR X f (fun x y H Q => r x y H Q ∨ r' x y H Q) := by
  intro pins s σ H x y v u Q I rx ry q
  rcases q with q | q
  · exact h pins s σ H x y v u Q I rx ry q
  · exact h' pins s σ H x y v u Q I rx ry q
theorem callr_or {X : Cx} {f : Value} {r r' : List V → Hp → VK → Prop} (h : CallR X f r) (h' : CallR X f r') : CallR X f (fun xs H Q => r xs H Q ∨ r' xs H Q) := by
  intro pins s σ H xs us Q I rx q
  rcases q with q | q
  · exact h pins s σ H xs us Q I rx q
  · exact h' pins s σ H xs us Q I rx q
section
variable {X : Cx} {K : PySem.W.Frag}
/-! ### ints, and what is added -/
def fAdd : PyData → PyData → Option PyData
  | .int i, .int j => some (.int (i + j))
  | .tuple xs, .tuple ys => if xs.length + ys.length ≤ 1000000 then some (.tuple (xs ++ ys)) else none
  | .list xs, .list ys => if xs.length + ys.length ≤ 1000000 then some (.list (xs ++ ys)) else none
  | _, _ => none
def rAddA (K : PySem.W.Frag) : R2 := fun x y H Q => (rI0 fun i j => .int (i + j)) x y H Q ∨ rCatF K x y H Q
theorem op_addA : OpR X (binaryOp .Add) (rAddA X.K) := opr_or op_add op_catF
def fAddT : PyData → PyData → Option PyData
  | .int i, .int j => some (.int (i + j))
  | .tuple xs, .tuple ys => if xs.length + ys.length ≤ 1000000 then some (.tuple (xs ++ ys)) else none
  | _, _ => none
theorem l2_add : L2ok K (rAddA K) fAddT := by
  intro F H x y d e z Q s hx hy hf k
  unfold fAddT at hf
  split at hf
  · rename_i i j
    cases hf
    exact .inl ⟨i, j, hx.int, hy.int, k _ F H (Xt.refl s) (.int _)⟩
  · rename_i xs ys
    split at hf
    · rename_i hn
      cases hf
      obtain ⟨a, vs, rfl, ha, hva⟩ := hx.tup s
      obtain ⟨b, us, rfl, hb, hvb⟩ := hy.tup s
      refine .inr ⟨a, b, vs, us, rfl, rfl, ha, hb, by rw [dpAll_len hva, dpAll_len hvb]; exact size_line hn, fun e => ?_, fun e1 e2 => ?_, fun e1 e2 p ob hp hob => ?_⟩
      · subst e
        cases hva
        refine k _ F H (Xt.refl s) ?_
        rcases hy with hy | ⟨_, _, _, _, h, _⟩ | ⟨_, _, _, _, h, _⟩
        · exact hy
        · cases h
        · cases h
      · subst e2
        cases hvb
        refine k _ F H (Xt.refl s) ?_
        rw [List.append_nil]
        rcases hx with hx | ⟨_, _, _, _, h, _⟩ | ⟨_, _, _, _, h, _⟩
        · exact hx
        · cases h
        · cases h
      · exact k _ _ _ (Xt.new s hp hob) (dp_newT (s.free hp) (dpAll_app hva hvb))
    · cases hf
  · cases hf
def fSub : PyData → PyData → Option PyData
  | .int i, .int j => some (.int (i - j))
  | _, _ => none
theorem l2_sub : L2ok K (rI0 fun i j => .int (i - j)) fSub := by
  intro F H x y d e z Q s hx hy hf k
  unfold fSub at hf
  split at hf
  · cases hf
    exact ⟨_, _, hx.int, hy.int, k _ F H (Xt.refl s) (.int _)⟩
  · cases hf
def big : Nat := 18446744073709551616
def fMul : PyData → PyData → Option PyData
  | .int i, .int j => if i.natAbs < big ∨ j.natAbs < big ∨ i.natAbs.log2 + j.natAbs.log2 < 1000000 then some (.int (i * j)) else none
  | _, _ => none
def rMulB : R2 := fun x y H Q => (rI CMul fun i j => .int (i * j)) x y H Q ∨ (rI CMulW fun i j => .int (i * j)) x y H Q
theorem op_mulB : OpR X (binaryOp .Mult) rMulB := opr_or op_mul op_mulW
theorem l2_mul : L2ok K rMulB fMul := by
  intro F H x y d e z Q s hx hy hf k
  unfold fMul at hf
  split at hf
  · split at hf
    · rename_i hc
      cases hf
      rcases hc with hc | hc | hc
      · exact .inl ⟨_, _, hx.int, hy.int, (by unfold CMul; unfold big at hc; omega), k _ F H (Xt.refl s) (.int _)⟩
      · exact .inl ⟨_, _, hx.int, hy.int, (by unfold CMul; unfold big at hc; omega), k _ F H (Xt.refl s) (.int _)⟩
      · exact .inr ⟨_, _, hx.int, hy.int, hc, k _ F H (Xt.refl s) (.int _)⟩
    · cases hf
  · cases hf
def fDiv : PyData → PyData → Option PyData
  | .int i, .int j => if 0 < j ∧ (j.natAbs < 1073741824 ∨ j.natAbs.log2 < 9000) then some (.int (i / j)) else none
  | _, _ => none
def rDivB : R2 := fun x y H Q => (rI CDiv fun i j => .int (i / j)) x y H Q ∨ (rI CDivW fun i j => .int (i / j)) x y H Q
theorem op_fdivB : OpR X (binaryOp .FloorDiv) rDivB := opr_or op_fdiv op_fdivW
theorem l2_div : L2ok K rDivB fDiv := by
  intro F H x y d e z Q s hx hy hf k
  unfold fDiv at hf
  split at hf
  · split at hf
    · rename_i hc
      cases hf
      obtain ⟨h0, hc⟩ := hc
      rcases hc with hc | hc
      · exact .inl ⟨_, _, hx.int, hy.int, ⟨h0, by omega⟩, k _ F H (Xt.refl s) (.int _)⟩
      · exact .inr ⟨_, _, hx.int, hy.int, ⟨h0, hc⟩, k _ F H (Xt.refl s) (.int _)⟩
    · cases hf
  · cases hf
def fMod : PyData → PyData → Option PyData
  | .int i, .int j => if 0 < j then some (.int (i % j)) else none
  | _, _ => none
theorem l2_mod : L2ok K (rI (fun _ j => 0 < j) fun i j => .int (i % j)) fMod := by
  intro F H x y d e z Q s hx hy hf k
  unfold fMod at hf
  split at hf
  · split at hf
    · rename_i hc
      cases hf
      exact ⟨_, _, hx.int, hy.int, hc, k _ F H (Xt.refl s) (.int _)⟩
    · cases hf
  · cases hf
def fPow : PyData → PyData → Option PyData
  | .int i, .int j => if 0 ≤ j ∧ j.natAbs ≤ 1000000 ∧ i.natAbs < 18446744073709551616 then some (.int (i ^ j.toNat)) else none
  | _, _ => none
theorem l2_pow : L2ok K (rI CPow fun i j => .int (i ^ j.toNat)) fPow := by
  intro F H x y d e z Q s hx hy hf k
  unfold fPow at hf
  split at hf
  · split at hf
    · rename_i hc
      cases hf
      exact ⟨_, _, hx.int, hy.int, ⟨hc.1, by omega, hc.2.2⟩, k _ F H (Xt.refl s) (.int _)⟩
    · cases hf
  · cases hf
/-! ### comparisons -/
def fLt : PyData → PyData → Option PyData
  | .int i, .int j => some (.bool (decide (i < j)))
  | _, _ => none
def fLe : PyData → PyData → Option PyData
  | .int i, .int j => some (.bool (decide (i ≤ j)))
  | _, _ => none
def fGt : PyData → PyData → Option PyData
  | .int i, .int j => some (.bool (decide (j < i)))
  | _, _ => none
def fGe : PyData → PyData → Option PyData
  | .int i, .int j => some (.bool (decide (j ≤ i)))
  | _, _ => none
theorem l2_lt : L2ok K (rI0 fun i j => .bl (decide (i < j))) fLt := by
  intro F H x y d e z Q s hx hy hf k
  unfold fLt at hf
  split at hf
  · cases hf
    exact ⟨_, _, hx.int, hy.int, k _ F H (Xt.refl s) (.bl _)⟩
  · cases hf
theorem l2_le : L2ok K (rI0 fun i j => .bl (decide (i ≤ j))) fLe := by
  intro F H x y d e z Q s hx hy hf k
  unfold fLe at hf
  split at hf
  · cases hf
    exact ⟨_, _, hx.int, hy.int, k _ F H (Xt.refl s) (.bl _)⟩
  · cases hf
theorem l2_gt : L2ok K (rI0 fun i j => .bl (decide (j < i))) fGt := by
  intro F H x y d e z Q s hx hy hf k
  unfold fGt at hf
  split at hf
  · cases hf
    exact ⟨_, _, hx.int, hy.int, k _ F H (Xt.refl s) (.bl _)⟩
  · cases hf
theorem l2_ge : L2ok K (rI0 fun i j => .bl (decide (j ≤ i))) fGe := by
  intro F H x y d e z Q s hx hy hf k
  unfold fGe at hf
  split at hf
  · cases hf
    exact ⟨_, _, hx.int, hy.int, k _ F H (Xt.refl s) (.bl _)⟩
  · cases hf
def fEq (d e : PyData) : Option PyData := if SeqAt.shaped d && SeqAt.shaped e then some (.bool (PyData.eqv d e)) else none
def fNe (d e : PyData) : Option PyData := if SeqAt.shaped d && SeqAt.shaped e then some (.bool (!PyData.eqv d e)) else none
theorem l2_eq : L2ok K (rEqD K) fEq := by
  intro F H x y d e z Q s hx hy hf k
  unfold fEq at hf
  split at hf
  · rename_i hc
    cases hf
    have hc := Bool.and_eq_true_iff.mp hc
    exact ⟨d, e, dz_L (hx.dp s) (SeqAt.canLay_of_shaped hc.1), dz_L (hy.dp s) (SeqAt.canLay_of_shaped hc.2), hc.1, hc.2, k _ F H (Xt.refl s) (.bl _)⟩
  · cases hf
theorem l2_ne : L2ok K (rNeD K) fNe := by
  intro F H x y d e z Q s hx hy hf k
  unfold fNe at hf
  split at hf
  · rename_i hc
    cases hf
    have hc := Bool.and_eq_true_iff.mp hc
    exact ⟨d, e, dz_L (hx.dp s) (SeqAt.canLay_of_shaped hc.1), dz_L (hy.dp s) (SeqAt.canLay_of_shaped hc.2), hc.1, hc.2, k _ F H (Xt.refl s) (.bl _)⟩
  · cases hf
/-- in a list of data, or in a tuple (list) of flat things -/
def flatD : PyData → Bool
  | .none => true
  | .bool _ => true
  | .int _ => true
  | .str _ => true
  | _ => false
def fIn : PyData → PyData → Option PyData
  | d, .list ds => if SeqAt.shaped d && SeqAt.shaped (.list ds) then some (.bool (ds.any fun z => PyData.eqv z d)) else none
  | d, .tuple ds => if flatD d && ds.all flatD then some (.bool (ds.any fun z => PyData.eqv z d)) else none
  | _, _ => none
def fNotIn : PyData → PyData → Option PyData
  | d, .list ds => if SeqAt.shaped d && SeqAt.shaped (.list ds) then some (.bool (!ds.any fun z => PyData.eqv z d)) else none
  | d, .tuple ds => if flatD d && ds.all flatD then some (.bool (!ds.any fun z => PyData.eqv z d)) else none
  | _, _ => none
def rInA (K : PySem.W.Frag) (neg : Bool) : R2 := fun x y H Q => (if neg then rNotInD K else rInD K) x y H Q ∨ rIn K neg x y H Q
theorem op_inA (hu : X.A.units + 65 < cLine) : OpR X (compareOp .In) (rInA X.K false) := opr_or (op_inD hu) op_in_seq
theorem op_notInA (hu : X.A.units + 65 < cLine) : OpR X (compareOp .NotIn) (rInA X.K true) := opr_or (op_notInD hu) op_notIn_seq
theorem flat_dp {F : Hp} {v : V} {d : PyData} (h : Dz K F v d) (f : flatD d = true) : flatV v = true ∧ ∀ {w : V} {e : PyData}, Dz K F w e → flatD e = true → eqV v w = PyData.eqv d e := by
  cases h with
  | non => exact ⟨rfl, fun h g => by cases h <;> first | rfl | cases g⟩
  | bl b => exact ⟨rfl, fun h g => by cases h <;> first | rfl | cases g⟩
  | int i => exact ⟨rfl, fun h g => by cases h <;> first | rfl | cases g⟩
  | str x => exact ⟨rfl, fun h g => by cases h <;> first | rfl | cases g⟩
  | lst _ _ => cases f
  | tup _ _ => cases f
  | dct _ _ => cases f
theorem flat_all {F : Hp} {v : V} {d : PyData} (h : Dz K F v d) (f : flatD d = true) : ∀ {vs : List V} {ds : List PyData}, DzAll K F vs ds → ds.all flatD = true → vs.all flatV = true ∧ inV v vs = ds.any fun z => PyData.eqv z d
  | _, _, .nil, _ => ⟨rfl, rfl⟩
  | _, _, .cons a b, g => by
    rw [List.all_cons, Bool.and_eq_true] at g
    obtain ⟨h1, h2⟩ := flat_all h f b g.2
    refine ⟨by rw [List.all_cons, (flat_dp a g.1).1, h1]; rfl, ?_⟩
    unfold inV at h2 ⊢
    rw [List.any_cons, List.any_cons, h2, (flat_dp a g.1).2 h f]
theorem Vw.flat {F H : Hp} {x : V} {d : PyData} (h : Vw K F H x d) (f : flatD d = true) : Dz K F x d := by
  rcases h with h | ⟨_, _, _, _, e, _⟩ | ⟨_, _, _, _, e, _⟩
  · exact h
  · rw [e] at f
    cases f
  · rw [e] at f
    cases f
theorem l2_in : L2ok K (rInA K false) fIn := by
  intro F H x y d e z Q s hx hy hf k
  unfold fIn at hf
  split at hf
  · rename_i ds
    split at hf
    · rename_i hc
      cases hf
      have hc := Bool.and_eq_true_iff.mp hc
      exact .inl ⟨d, ds, dz_L (hx.dp s) (SeqAt.canLay_of_shaped hc.1), dz_L (hy.dp s) (SeqAt.canLay_of_shaped hc.2), hc.1, hc.2, k _ F H (Xt.refl s) (.bl _)⟩
    · cases hf
  · rename_i ds
    split at hf
    · rename_i hc
      cases hf
      have hc := Bool.and_eq_true_iff.mp hc
      obtain ⟨a, vs, rfl, ha, hva⟩ := hy.tup s
      have dx := hx.flat hc.1
      obtain ⟨h1, h2⟩ := flat_all dx hc.1 hva hc.2
      refine .inr ⟨a, vs, rfl, .inr ha, (flat_dp dx hc.1).1, h1, ?_⟩
      rw [h2]
      exact k _ F H (Xt.refl s) (.bl _)
    · cases hf
  · cases hf
theorem l2_notIn : L2ok K (rInA K true) fNotIn := by
  intro F H x y d e z Q s hx hy hf k
  unfold fNotIn at hf
  split at hf
  · rename_i ds
    split at hf
    · rename_i hc
      cases hf
      have hc := Bool.and_eq_true_iff.mp hc
      exact .inl ⟨d, ds, dz_L (hx.dp s) (SeqAt.canLay_of_shaped hc.1), dz_L (hy.dp s) (SeqAt.canLay_of_shaped hc.2), hc.1, hc.2, k _ F H (Xt.refl s) (.bl _)⟩
    · cases hf
  · rename_i ds
    split at hf
    · rename_i hc
      cases hf
      have hc := Bool.and_eq_true_iff.mp hc
      obtain ⟨a, vs, rfl, ha, hva⟩ := hy.tup s
      have dx := hx.flat hc.1
      obtain ⟨h1, h2⟩ := flat_all dx hc.1 hva hc.2
      refine .inr ⟨a, vs, rfl, .inr ha, (flat_dp dx hc.1).1, h1, ?_⟩
      rw [h2]
      exact k _ F H (Xt.refl s) (.bl _)
    · cases hf
  · cases hf
/-! ### is -/
def rIsA : R2 := fun x y H Q => (y = .non ∧ Q (.bl (decide (x = .non))) H) ∨ rIsB x y H Q
def rIsNotA : R2 := fun x y H Q => (y = .non ∧ Q (.bl (!decide (x = .non))) H) ∨ rNotB x y H Q
theorem op_isA : OpR X (compareOp .Is) rIsA := opr_or op_isN op_isBl
theorem op_isNotA : OpR X (compareOp .IsNot) rIsNotA := opr_or op_notN op_notBl
def isNone : PyData → Bool
  | .none => true
  | _ => false
def fIs : PyData → PyData → Option PyData
  | d, .none => some (.bool (isNone d))
  | .bool a, .bool b => some (.bool (decide (a = b)))
  | _, _ => none
def fIsNot : PyData → PyData → Option PyData
  | d, .none => some (.bool (!isNone d))
  | .bool a, .bool b => some (.bool (!decide (a = b)))
  | _, _ => none
theorem non_dec {F H : Hp} {x : V} {d : PyData} (h : Vw K F H x d) : decide (x = .non) = isNone d := by
  rcases h with h | ⟨_, _, _, rfl, rfl, _⟩ | ⟨_, _, _, rfl, rfl, _⟩
  · cases h <;> rfl
  · rfl
  · rfl
theorem Vw.non {F H : Hp} {x : V} (h : Vw K F H x .none) : x = .non := by
  rcases h with h | ⟨_, _, _, rfl, e, _⟩ | ⟨_, _, _, rfl, e, _⟩
  · cases h
    rfl
  · cases e
  · cases e
theorem l2_is : L2ok K rIsA fIs := by
  intro F H x y d e z Q s hx hy hf k
  unfold fIs at hf
  split at hf
  · cases hf
    refine .inl ⟨hy.non, ?_⟩
    rw [non_dec hx]
    exact k _ F H (Xt.refl s) (.bl _)
  · cases hf
    exact .inr ⟨_, _, hx.bool, hy.bool, k _ F H (Xt.refl s) (.bl _)⟩
  · cases hf
theorem l2_isNot : L2ok K rIsNotA fIsNot := by
  intro F H x y d e z Q s hx hy hf k
  unfold fIsNot at hf
  split at hf
  · cases hf
    refine .inl ⟨hy.non, ?_⟩
    rw [non_dec hx]
    exact k _ F H (Xt.refl s) (.bl _)
  · cases hf
    exact .inr ⟨_, _, hx.bool, hy.bool, k _ F H (Xt.refl s) (.bl _)⟩
  · cases hf
/-! ### items, slices -/
def fIx : PyData → PyData → Option PyData
  | .list ds, .int i => atI ds i
  | .tuple ds, .int i => atI ds i
  | _, _ => none
theorem atI_dp {F : Hp} {vs : List V} {ds : List PyData} {i : Int} {z : PyData} (h : DzAll K F vs ds) (e : atI ds i = some z) : ∃ v, atI vs i = some v ∧ Dz K F v z := by
  unfold atI at e ⊢
  rw [dpAll_len h]
  cases q : ixN ds.length i with
  | none => rw [q] at e; cases e
  | some j =>
    rw [q] at e
    exact dpAll_at h e
theorem l2_ix : L2ok K (rIx K) fIx := by
  intro F H x y d e z Q s hx hy hf k
  unfold fIx at hf
  split at hf
  · obtain ⟨a, vs, rfl, ha, hva⟩ := hx.list s
    obtain ⟨v, e1, e2⟩ := atI_dp hva hf
    exact .inl ⟨a, vs, _, v, rfl, hy.int, ha, e1, k _ F H (Xt.refl s) e2⟩
  · obtain ⟨a, vs, rfl, ha, hva⟩ := hx.tup s
    obtain ⟨v, e1, e2⟩ := atI_dp hva hf
    exact .inr (.inl ⟨a, vs, _, v, rfl, hy.int, ha, e1, k _ F H (Xt.refl s) e2⟩)
  · cases hf
end
end PD
/-! enumerate of a tuple -/
namespace ENT
open PySem PySem.Spec PyProof.Rows L2
open AutoSeq1 (wpAny_loadPart')
theorem meets_new (l : Addr) (items : Array Value) (n : Nat) (dct : Option Addr) (sl : Array (Option Value)) :
    Meets (Builtin.«enumerate.__new__» ⟨[.type "enumerate", .ref l], []⟩) (fun _ R s => s.heap.get? l = some { cls := .type "tuple", dict := dct, data := .seq items n, slots := sl } ∧
      R (.ok (.ret (.ref (s.heap.push { cls := .type "tuple_iterator", data := .fields #[.ref l, .int 0 0] }).objs.size)))
        { s with heap := (s.heap.push { cls := .type "tuple_iterator", data := .fields #[.ref l, .int 0 0] }).push { cls := .type "enumerate", data := .fields #[.none, .bool false, .ref s.heap.objs.size, rawInt 0, .none, .none] } }) :=
  .of_wp fun prog w A R s h => by
    obtain ⟨hp, g, d, tk, os⟩ := s
    obtain ⟨ht, h⟩ := h
    have hsub := sub_enumerate
    have hT : Heap.IsTuple (Shared.heap ⟨hp, g, d, tk, os⟩) l items := ⟨_, ht, rfl, n, rfl⟩
    wp_walk using wpAny_loadPart' ht
    refine wpAny_stack_any fun st => wpAny_pure ?_
    split
    · rename_i c _ _ _ _ _
      cases hc : (c == Value.type "enumerate")
      · wp_walk using wpAny_loadPart' ht, wpAny_pyIter_tuple hT
        exact ⟨_, rfl, h⟩
      · wp_walk using wpAny_loadPart' ht, wpAny_pyIter_tuple hT
        exact ⟨_, rfl, h⟩
    · wp_walk using wpAny_loadPart' ht, wpAny_pyIter_tuple hT
      exact ⟨_, rfl, h⟩
section
variable {prog : Program} {w : World} {A : Around} {E : Value → Shared → Prop} {s : Shared}
theorem call_tup {l : Addr} {items : Array Value} {Q : Value → Shared → Prop} (hT : s.heap.IsTuple l items)
    (h : ∀ h', IsEnum h' (s.heap.objs.size + 1) s.heap.objs.size 0 .none → h'.IsTupleIter s.heap.objs.size l 0 →
      (∀ b o, s.heap.get? b = some o → h'.get? b = some o) → Q (.ref (s.heap.objs.size + 1)) { s with heap := h' }) :
    wpAny (model prog w) A (call (.type "enumerate") [.ref l]) Q E s := by
  obtain ⟨⟨c, dct, dt, sl⟩, hl, hc, n, hd⟩ := hT
  replace hc : c = .type "tuple" := hc
  replace hd : dt = .seq items n := hd
  subst hc hd
  refine callType_new F.called_enumerate (by decide) (F.typeCall_enumerate_1 _) (F.newCall_enumerate_1 _) (fun obj => F.args_object_init_2 obj _) F.entry_enumerate_new
    (meets_new l items n dct sl) ⟨hl, ?_⟩
  generalize hi : ({ cls := .type "tuple_iterator", data := .fields #[.ref l, .int 0 0] } : Obj) = oi
  generalize he : ({ cls := .type "enumerate", data := .fields #[.none, .bool false, .ref s.heap.objs.size, rawInt 0, .none, .none] } : Obj) = oe
  have hz : (s.heap.push oi).objs.size = s.heap.objs.size + 1 := Heap.size_push ..
  show _ ∧ _
  rw [hz]
  have eI : ((s.heap.push oi).push oe).get? (s.heap.objs.size + 1) = some oe := by
    have := Heap.get?_push_size (s.heap.push oi) (o := oe) (by rw [← he]; rfl)
    rw [hz] at this
    exact this
  have iI : ((s.heap.push oi).push oe).get? s.heap.objs.size = some oi := Heap.get?_push_of_some _ (Heap.get?_push_size _ (by rw [← hi]; rfl))
  have hE : IsEnum ((s.heap.push oi).push oe) (s.heap.objs.size + 1) s.heap.objs.size 0 .none := by
    show _ = _
    rw [eI, ← he]
  have hI : ((s.heap.push oi).push oe).IsTupleIter s.heap.objs.size l 0 := ⟨oi, iI, by rw [← hi], by rw [← hi]; rfl⟩
  exact ⟨⟨_, hE, rfl⟩, h _ hE hI fun b o x => Heap.get?_push_of_some _ (Heap.get?_push_of_some _ x)⟩
end
/-- the tuple at a, each item in a new pair -/
def IteT (K : PySem.W.Frag) (a : Addr) : It :=
  ⟨fun i H => ∃ (xs : List V) (x : V), SqT K H a xs ∧ xs[i]? = some x, fun i H v H' => ∃ T x ob, v = .ref T ∧ H T = none ∧ PD.PlT ob ∧ H' = upd H T (.frz ob (.tup [.int (i : Nat), x])) ∧ ∀ xs, SqT K H a xs → xs[i]? = some x, fun i H => ∃ xs : List V, SqT K H a xs ∧ xs.length ≤ i⟩
/-- the list at a, each item in a new pair -/
def IteL (K : PySem.W.Frag) (a : Addr) : It :=
  ⟨fun i H => ∃ (ys : List V) (y : V), SqL K H a ys ∧ ys[i]? = some y, fun i H v H' => ∃ T y ob, v = .ref T ∧ H T = none ∧ PD.PlT ob ∧ H' = upd H T (.frz ob (.tup [.int (i : Nat), y])) ∧ ∀ ys, SqL K H a ys → ys[i]? = some y, fun i H => ∃ ys : List V, SqL K H a ys ∧ ys.length ≤ i⟩
theorem turn {P : Program} {w : World} {K : PySem.W.Frag} {elts : List Expr} {kk : Nat} {tpos : Pos} (a e it : Addr) (hai : a ≠ it) (hae : a ≠ e) :
    Turn P w K (.Tuple elts kk tpos) (IteT K a) [e, it] e (fun i h => (∃ old, IsEnum h e it ((i : Nat) : Int) old) ∧ h.IsTupleIter it a i ∧ e ≠ it) where
  mem := by simp
  obj := fun i h st b hb => by
    obtain ⟨⟨old, he⟩, ⟨o, ho, hc, hd⟩, _⟩ := st
    rcases (show b = e ∨ b = it by simpa using hb) with z | z
    · rw [z]
      exact ⟨_, he, fun v q => nomatch q⟩
    · rw [z]
      exact ⟨o, ho, fun v q => by
        rw [hd] at q
        cases q⟩
  keep := fun i h h' st k => by
    obtain ⟨⟨old, he⟩, hi, hne⟩ := st
    exact ⟨⟨old, k e (by simp) _ he⟩, hi.at fun o q => k it (by simp) o q, hne⟩
  item := by
    intro X hP hw hK hc i pins s σ H E I hf st hg
    subst hP hw hK
    obtain ⟨⟨old, he⟩, hit, hne⟩ := st
    obtain ⟨xs, x, hq, hx⟩ := hg
    obtain ⟨its, rv, p, hz⟩ := I.tuple hq
    have p : s.heap.IsTuple a its.toArray := p
    obtain ⟨u, hu, ru⟩ := rv.get hx
    have hel : e < s.heap.objs.size := Heap.lt_size he
    have hil : it < s.heap.objs.size := by
      obtain ⟨_, q, _⟩ := hit
      exact Heap.lt_size q
    have ex : its.toArray[i]? = some u := by simpa using hu
    have lt : i < its.toArray.size := (Array.getElem?_eq_some_iff.mp ex).1
    refine wpAny_pyNext_enum_itemD (Draws.tuple (A := X.A.in1) (I.ok.hd hc) it a hai its.toArray) he ⟨hit, p⟩ lt hne (by simp only [List.mem_cons, List.not_mem_nil, or_false, not_or]; exact ⟨hne, fun z => hae z.symm⟩) fun y h' tk hy ho hst' hT hsz hk => ?_
    have ey : y = u := by
      have : its.toArray[i]? = some y := hy
      rw [ex] at this
      exact (Option.some.inj this).symm
    subst ey
    refine ⟨_, rfl, wpAny_letOwnedTupleGo_enum (s := { s with heap := h', toks := tk + 1 }) ho fun h'' he' sb => ?_⟩
    have hT2 : h''.get? s.heap.objs.size = some { cls := .type "tuple", data := .seq #[.int i tk, y] } := (sb.2 _ (Nat.ne_of_gt hel)).trans hT
    let ob : Obj := { cls := .type "tuple", data := .seq #[.int i tk, y] }
    let cell : HO := .frz ob (.tup [.int (i : Nat), x])
    have new : ObjOk X.prog X.w (upd H s.heap.objs.size cell) h'' s.heap.objs.size cell :=
      ⟨hT2, by show 2 ≤ sizeLine; decide, [.int i tk, y], .cons ⟨_, rfl⟩ (.cons ru .nil), ⟨_, hT2, rfl, _, rfl⟩⟩
    have I1 : Inv X pins σ (upd H s.heap.objs.size cell) { s with heap := h'', toks := tk + 1 } :=
      I.turnedNew (ch := [e, it]) (fun b ob hb q => (sb.2 b (fun z => hb (by simp [z]))).trans (hk b ob (fun z => hb (by simp [z])) (fun z => hb (by simp [z])) q)) hf (Nat.le_refl _) new
    refine ⟨.ref s.heap.objs.size, _, I1, rfl, ⟨_, x, ob, rfl, I.hok.fresh (Nat.le_refl _), ⟨rfl, rfl⟩, rfl, fun ys hy => by rw [I.tuple_inj hy hq]; exact hx⟩, ⟨⟨y, ?_⟩, hst'.1.at fun o q => (sb.2 it (Ne.symm hne)).trans q, hne⟩, fun b hb => ?_⟩
    · have e1 : ((i + 1 : Nat) : Int) = (i : Int) + 1 := by omega
      rw [e1]
      exact he'
    · have hb' : b < s.heap.objs.size := by
        rcases (show b = e ∨ b = it by simpa using hb) with z | z
        · rw [z]; exact hel
        · rw [z]; exact hil
      rw [upd_ne (Nat.ne_of_lt hb')]
      exact (hf b hb).1
  done := by
    intro X hP hw hK hc i pins s σ H E I hf st hg
    subst hP hw hK
    obtain ⟨⟨old, he⟩, hit, hne⟩ := st
    obtain ⟨xs, hq, hx⟩ := hg
    obtain ⟨its, rv, p, hz⟩ := I.tuple hq
    have p : s.heap.IsTuple a its.toArray := p
    obtain ⟨f0, f1, f2, f3, f4, f5⟩ := hf it (by simp)
    have hl := rv.length
    have hT : s.TypeIs (.ref e) "enumerate" := ⟨_, he, rfl⟩
    unfold pyNext
    refine wpAny_bind (wpAny_attempt (wpAny_callSpecial?_slot (name := Str.ofString "__next__") hT F.slot_enumerate_next
      (wpAny_call_entry F.slot_enumerate_next hT F.entry_enumerate_next ?_ (F.args_enumerate_next_1 _))))
    show wpAny _ _ (field (.ref e) 2 >>= _) _ _ _
    refine wpAny_bind (wpAny_field he rfl (x := .ref it) rfl ?_)
    refine wpAny_bind (wpAny_nextOf_tuple_end (I.ok.hd hc) hit p (by simp; omega) fun h' x he' hx' => ?_)
    obtain ⟨o, ho, hc'⟩ := hx'
    refine wpAny_bind (wpAny_isInstance (T := "StopIteration") (b := true) ⟨o, ho, hc'⟩ isSubtype_stop ?_)
    exact wpAny_pure ⟨rfl, I.turned (t' := s.toks) (fun b o hb q => he' b o hb q) f0 f1 f3 f4 f5⟩
  self := fun A i s Q E st h => by
    obtain ⟨⟨_, he⟩, _⟩ := st
    exact wpAny_pyIter_enum he h
def iEnumT (K : PySem.W.Frag) (ta : TA) : TI := fun σ H R => ta σ H fun vs H1 => ∃ a xs, vs = [.ref a] ∧ SqT K H1 a xs ∧ R (IteT K a) H1
theorem pi_enumT {X : Cx} {e : Expr} {ta : TA} {p pos tpos : Pos} {elts : List Expr} {kk : Nat} (hg : Gl X "enumerate") (hm : X.mg "enumerate" = none) (ha : PA X [e] ta) (hs : starEach [e] X.env = [(false, eval e X.env)] := by rfl) :
    PI X (.Tuple elts kk tpos) (.Call (.Name "enumerate" p) [e] [] pos) (iEnumT X.K ta) := by
  refine ⟨fun pins s σ H R I h => ?_⟩
  refine Call_ (ld_blt I hg hm boot_enumerate (PyProof.Rows.callWith_type1 (thn (ha.run pos pins s σ H _ I h) fun us s1 ⟨vs, H1, I1, r1, q1⟩ => ?_) hs rfl))
  obtain ⟨a, xs, ex, hq, q⟩ := q1
  subst ex
  cases r1 with
  | cons r rr =>
    cases rr
    cases r
    obtain ⟨its, rv, p', hz⟩ := I1.tuple hq
    have p' : s1.heap.IsTuple a its.toArray := p'
    have lt : a < s1.heap.objs.size := by
      obtain ⟨o, z, _⟩ := id p'
      exact Heap.lt_size z
    refine call_tup p' fun h' he hit hk => wpAny_pyIter_enum he ?_
    have I2 : Inv X pins σ H1 { s1 with heap := h' } := I1.kept (t' := s1.toks) hk
    refine ⟨s1.heap.objs.size + 1, [s1.heap.objs.size + 1, s1.heap.objs.size], _, _, H1, rfl, I2, turn a (s1.heap.objs.size + 1) s1.heap.objs.size (Nat.ne_of_lt lt) (Nat.ne_of_lt (Nat.lt_succ_of_lt lt)), ⟨⟨.none, he⟩, hit, Nat.succ_ne_self _⟩, fun b hb => ?_, q⟩
    have hle : s1.heap.objs.size ≤ b := by
      rcases (show b = s1.heap.objs.size + 1 ∨ b = s1.heap.objs.size by simpa using hb) with z | z
      · rw [z]; exact Nat.le_add_right _ _
      · rw [z]; exact Nat.le_refl _
    exact I1.fpOk hle (I1.hok.fresh hle)
/-- .. of a list -/
theorem turnL {P : Program} {w : World} {K : PySem.W.Frag} {elts : List Expr} {kk : Nat} {tpos : Pos} (a e it : Addr) (hai : a ≠ it) (hae : a ≠ e) :
    Turn P w K (.Tuple elts kk tpos) (IteL K a) [e, it] e (fun i h => (∃ old, IsEnum h e it ((i : Nat) : Int) old) ∧ h.IsListIter it a i ∧ e ≠ it) where
  mem := by simp
  obj := fun i h stt b hb => by
    obtain ⟨⟨old, hen⟩, ⟨o, ho, hc, hd⟩, _⟩ := stt
    rcases (show b = e ∨ b = it by simpa using hb) with z | z
    · rw [z]
      exact ⟨_, hen, fun v q => nomatch q⟩
    · rw [z]
      exact ⟨o, ho, fun v q => by
        rw [hd] at q
        cases q⟩
  keep := fun i h h' stt k => by
    obtain ⟨⟨old, hen⟩, hi, hne⟩ := stt
    exact ⟨⟨old, k e (by simp) _ hen⟩, hi.at fun o q => k it (by simp) o q, hne⟩
  item := by
    intro X hP hw hK hc i pins s σ H E I hf stt hg
    subst hP hw hK
    obtain ⟨⟨old, hen⟩, hit, hne⟩ := stt
    obtain ⟨ws, y, hsq, hgy⟩ := hg
    obtain ⟨vals, rvs, pl, _⟩ := I.list hsq
    obtain ⟨u, hu, ru⟩ := rvs.get hgy
    have enl : e < s.heap.objs.size := Heap.lt_size hen
    have itl : it < s.heap.objs.size := by
      obtain ⟨_, q, _⟩ := hit
      exact Heap.lt_size q
    have ex : vals.toArray[i]? = some u := by simpa using hu
    have lt : i < vals.toArray.size := (Array.getElem?_eq_some_iff.mp ex).1
    refine wpAny_pyNext_enum_itemD (Draws.list (A := X.A.in1) (I.ok.hd hc) it a hai vals.toArray) hen ⟨hit, pl.isList⟩ lt hne (by simp only [List.mem_cons, List.not_mem_nil, or_false, not_or]; exact ⟨hne, fun z => hae z.symm⟩) fun z h' tk hz ho hst' hT hsz hk => ?_
    have ez : z = u := by
      have : vals.toArray[i]? = some z := hz
      rw [ex] at this
      exact (Option.some.inj this).symm
    subst ez
    refine ⟨_, rfl, wpAny_letOwnedTupleGo_enum (s := { s with heap := h', toks := tk + 1 }) ho fun h2 hen' sb => ?_⟩
    let ob : Obj := { cls := .type "tuple", data := .seq #[.int i tk, z] }
    let cell : HO := .frz ob (.tup [.int (i : Nat), y])
    have at2 : h2.get? s.heap.objs.size = some ob := (sb.2 _ (Nat.ne_of_gt enl)).trans hT
    have new : ObjOk X.prog X.w (upd H s.heap.objs.size cell) h2 s.heap.objs.size cell :=
      ⟨at2, by show 2 ≤ sizeLine; decide, [.int i tk, z], .cons ⟨_, rfl⟩ (.cons ru .nil), ⟨_, at2, rfl, _, rfl⟩⟩
    have I1 : Inv X pins σ (upd H s.heap.objs.size cell) { s with heap := h2, toks := tk + 1 } :=
      I.turnedNew (ch := [e, it]) (fun b ob hb q => (sb.2 b (fun z => hb (by simp [z]))).trans (hk b ob (fun z => hb (by simp [z])) (fun z => hb (by simp [z])) q)) hf (Nat.le_refl _) new
    refine ⟨.ref s.heap.objs.size, _, I1, rfl, ⟨_, y, ob, rfl, I.hok.fresh (Nat.le_refl _), ⟨rfl, rfl⟩, rfl, fun ys hy => by rw [I.list_inj hy hsq]; exact hgy⟩, ⟨⟨z, ?_⟩, hst'.1.at fun o q => (sb.2 it (Ne.symm hne)).trans q, hne⟩, fun b hb => ?_⟩
    · rw [show ((i + 1 : Nat) : Int) = (i : Int) + 1 by omega]
      exact hen'
    · have below : b < s.heap.objs.size := by
        rcases (show b = e ∨ b = it by simpa using hb) with z | z
        · rw [z]; exact enl
        · rw [z]; exact itl
      rw [upd_ne (Nat.ne_of_lt below)]
      exact (hf b hb).1
  done := by
    intro X hP hw hK hc i pins s σ H E I hf stt hg
    subst hP hw hK
    obtain ⟨⟨old, hen⟩, hit, hne⟩ := stt
    obtain ⟨ws, hsq, hle⟩ := hg
    obtain ⟨vals, rvs, pl, _⟩ := I.list hsq
    obtain ⟨f0, f1, f2, f3, f4, f5⟩ := hf it (by simp)
    have hl := rvs.length
    exact wpAny_pyNext_enum_end (I.ok.hd hc) hen hit pl.isList (by simp; omega) fun h2 eb => ⟨rfl, I.turned (t' := s.toks) (fun b o hb q => eb b o hb q) f0 f1 f3 f4 f5⟩
  self := fun A i s Q E stt h => by
    obtain ⟨⟨_, hen⟩, _⟩ := stt
    exact wpAny_pyIter_enum hen h
def iEnumL (K : PySem.W.Frag) (ta : TA) : TI := fun σ H R => ta σ H fun vs H1 => ∃ a ys, vs = [.ref a] ∧ SqL K H1 a ys ∧ R (IteL K a) H1
theorem pi_enumL {X : Cx} {e : Expr} {ta : TA} {p pos tpos : Pos} {elts : List Expr} {kk : Nat} (hg : Gl X "enumerate") (hm : X.mg "enumerate" = none) (ha : PA X [e] ta) (hs : starEach [e] X.env = [(false, eval e X.env)] := by rfl) :
    PI X (.Tuple elts kk tpos) (.Call (.Name "enumerate" p) [e] [] pos) (iEnumL X.K ta) := by
  refine ⟨fun pins s σ H R I h => ?_⟩
  refine Call_ (ld_blt I hg hm boot_enumerate (PyProof.Rows.callWith_type1 (thn (ha.run pos pins s σ H _ I h) fun us s1 ⟨vs, H1, I1, r1, q1⟩ => ?_) hs rfl))
  obtain ⟨a, ys, eq, hsq, q⟩ := q1
  subst eq
  cases r1 with
  | cons r rr =>
    cases rr
    cases r
    obtain ⟨vals, rvs, pl, _⟩ := I1.list hsq
    have lt : a < s1.heap.objs.size := by
      obtain ⟨o, n, z, _⟩ := id pl
      exact Heap.lt_size z
    refine call_enumerate_list pl.isList fun h' hen hit hsz hk => wpAny_pyIter_enum hen ?_
    have I2 : Inv X pins σ H1 { s1 with heap := h' } := I1.kept (t' := s1.toks) hk
    refine ⟨s1.heap.objs.size + 1, [s1.heap.objs.size + 1, s1.heap.objs.size], _, _, H1, rfl, I2, turnL a (s1.heap.objs.size + 1) s1.heap.objs.size (Nat.ne_of_lt lt) (Nat.ne_of_lt (Nat.lt_succ_of_lt lt)), ⟨⟨.none, hen⟩, hit, Nat.succ_ne_self _⟩, fun b hb => ?_, q⟩
    have hle : s1.heap.objs.size ≤ b := by
      rcases (show b = s1.heap.objs.size + 1 ∨ b = s1.heap.objs.size by simpa using hb) with z | z
      · rw [z]; exact Nat.le_add_right _ _
      · rw [z]; exact Nat.le_refl _
    exact I1.fpOk hle (I1.hok.fresh hle)
end ENT
/-! Plain data: built-ins, slices, enumerate -/
namespace PD
open PySem PySem.Spec PyProof.Rows L2 GxR LG
section
variable {c : Co} {X : Cx} {K : PySem.W.Frag} {e : Expr} {es : List Expr} {pos : Pos}
theorem vw1 {F H : Hp} {vs : List V} {d : PyData} (h : VwAll K F H vs [d]) : ∃ v, vs = [v] ∧ Vw K F H v d := by
  match vs, h with
  | [v], ⟨h, _⟩ => exact ⟨v, rfl, h⟩
theorem vw2 {F H : Hp} {vs : List V} {d e : PyData} (h : VwAll K F H vs [d, e]) : ∃ v u, vs = [v, u] ∧ Vw K F H v d ∧ Vw K F H u e := by
  match vs, h with
  | [v, u], ⟨h, h', _⟩ => exact ⟨v, u, rfl, h, h'⟩
/-! ### len, sum, min, max, tuple, list, int, abs, divmod -/
def fLen : List PyData → Option PyData
  | [.list ds] => some (.int ds.length)
  | [.tuple ds] => some (.int ds.length)
  | _ => none
theorem ln_len : LNok K (fun xs H Q => ∃ p ys, xs = [.ref p] ∧ (SqL K H p ys ∨ SqT K H p ys) ∧ Q (.int ys.length) H) fLen := by
  intro F H vs ds z Q s hv hf k
  unfold fLen at hf
  split at hf
  · cases hf
    obtain ⟨v, rfl, h⟩ := vw1 hv
    obtain ⟨a, us, rfl, ha, hd⟩ := h.list s
    refine ⟨a, us, rfl, .inl ha, ?_⟩
    rw [dpAll_len hd]
    exact k _ F H (Xt.refl s) (.int _)
  · cases hf
    obtain ⟨v, rfl, h⟩ := vw1 hv
    obtain ⟨a, us, rfl, ha, hd⟩ := h.tup s
    refine ⟨a, us, rfl, .inr ha, ?_⟩
    rw [dpAll_len hd]
    exact k _ F H (Xt.refl s) (.int _)
  · cases hf
def fTupOf : List PyData → Option PyData
  | [.list ds] => some (.tuple ds)
  | [.tuple ds] => some (.tuple ds)
  | _ => none
theorem ln_tup : LNok K (rTupF K) fTupOf := by
  intro F H vs ds z Q s hv hf k
  unfold fTupOf at hf
  split at hf
  · cases hf
    obtain ⟨v, rfl, h⟩ := vw1 hv
    obtain ⟨a, us, rfl, ha, hd⟩ := h.list s
    exact ⟨a, us, rfl, .inl ⟨ha, fun p ob hp hob => k _ _ _ (Xt.new s hp hob) (dp_newT (s.free hp) hd)⟩⟩
  · cases hf
    obtain ⟨v, rfl, h⟩ := vw1 hv
    have h0 := h
    obtain ⟨a, us, rfl, ha, hd⟩ := h.tup s
    refine ⟨a, us, rfl, .inr ⟨ha, k _ F H (Xt.refl s) ?_⟩⟩
    rcases h0 with h0 | ⟨_, _, _, _, q, _⟩ | ⟨_, _, _, _, q, _⟩
    · exact h0
    · cases q
    · cases q
  · cases hf
def intsOf : List PyData → Option (List Int)
  | [] => some []
  | .int i :: r => (intsOf r).map (i :: ·)
  | _ => none
theorem intsOf_eq : ∀ {ds : List PyData} {ns : List Int}, intsOf ds = some ns → ds = ns.map PyData.int
  | [], _, e => by cases e; rfl
  | .int i :: r, ns, e => by
    simp only [intsOf, Option.map_eq_some_iff] at e
    obtain ⟨m, e1, rfl⟩ := e
    rw [intsOf_eq e1]
    rfl
  | .none :: _, _, e => by cases e
  | .bool _ :: _, _, e => by cases e
  | .str _ :: _, _, e => by cases e
  | .list _ :: _, _, e => by cases e
  | .tuple _ :: _, _, e => by cases e
  | .dict _ :: _, _, e => by cases e
theorem intsOf_map (ns : List Int) : intsOf (ns.map PyData.int) = some ns := by
  induction ns with
  | nil => rfl
  | cons n r ih => simp only [List.map_cons, intsOf, ih, Option.map_some]
def fSum : List PyData → Option PyData
  | [.list ds] => (intsOf ds).map fun ns => .int ns.sum
  | _ => none
theorem ln_sum : LNok K (rSum K) fSum := by
  intro F H vs ds z Q s hv hf k
  unfold fSum at hf
  split at hf
  · rename_i ds
    obtain ⟨ns, e, rfl⟩ := Option.map_eq_some_iff.mp hf
    obtain ⟨v, rfl, h⟩ := vw1 hv
    obtain ⟨a, us, rfl, ha, hd⟩ := h.list s
    rw [intsOf_eq e] at hd
    rw [dpAll_ints hd] at ha
    exact ⟨a, ns, rfl, ha, k _ F H (Xt.refl s) (.int _)⟩
  · cases hf
/-- the greatest (least) of ints -/
def maxI : List Int → Option Int
  | [] => none
  | x :: r => some (r.foldl max x)
def minI : List Int → Option Int
  | [] => none
  | x :: r => some (r.foldl min x)
theorem foldl_max (r : List Int) : ∀ x : Int, x ≤ r.foldl max x ∧ (∀ y ∈ r, y ≤ r.foldl max x) ∧ (r.foldl max x = x ∨ r.foldl max x ∈ r) := by
  induction r with
  | nil => exact fun x => ⟨Int.le_refl _, fun y hy => (by cases hy), .inl rfl⟩
  | cons a r ih =>
    intro x
    obtain ⟨h1, h2, h3⟩ := ih (max x a)
    rw [List.foldl_cons]
    refine ⟨by omega, fun y hy => ?_, ?_⟩
    · rcases List.mem_cons.mp hy with rfl | hy
      · omega
      · exact h2 y hy
    · rcases h3 with h3 | h3
      · rw [h3]
        by_cases hx : a ≤ x
        · left; omega
        · right
          have : max x a = a := by omega
          rw [this]
          exact List.mem_cons_self ..
      · exact .inr (List.mem_cons_of_mem _ h3)
theorem foldl_min (r : List Int) : ∀ x : Int, r.foldl min x ≤ x ∧ (∀ y ∈ r, r.foldl min x ≤ y) ∧ (r.foldl min x = x ∨ r.foldl min x ∈ r) := by
  induction r with
  | nil => exact fun x => ⟨Int.le_refl _, fun y hy => (by cases hy), .inl rfl⟩
  | cons a r ih =>
    intro x
    obtain ⟨h1, h2, h3⟩ := ih (min x a)
    rw [List.foldl_cons]
    refine ⟨by omega, fun y hy => ?_, ?_⟩
    · rcases List.mem_cons.mp hy with rfl | hy
      · omega
      · exact h2 y hy
    · rcases h3 with h3 | h3
      · rw [h3]
        by_cases hx : x ≤ a
        · left; omega
        · right
          have : min x a = a := by omega
          rw [this]
          exact List.mem_cons_self ..
      · exact .inr (List.mem_cons_of_mem _ h3)
theorem maxI_spec {ns : List Int} {m : Int} (h : maxI ns = some m) : m ∈ ns ∧ ∀ y ∈ ns, y ≤ m := by
  cases ns with
  | nil => cases h
  | cons x r =>
    cases h
    obtain ⟨h1, h2, h3⟩ := foldl_max r x
    refine ⟨?_, fun y hy => ?_⟩
    · rcases h3 with h3 | h3
      · rw [h3]
        exact List.mem_cons_self ..
      · exact List.mem_cons_of_mem _ h3
    · rcases List.mem_cons.mp hy with rfl | hy
      · exact h1
      · exact h2 y hy
theorem minI_spec {ns : List Int} {m : Int} (h : minI ns = some m) : m ∈ ns ∧ ∀ y ∈ ns, m ≤ y := by
  cases ns with
  | nil => cases h
  | cons x r =>
    cases h
    obtain ⟨h1, h2, h3⟩ := foldl_min r x
    refine ⟨?_, fun y hy => ?_⟩
    · rcases h3 with h3 | h3
      · rw [h3]
        exact List.mem_cons_self ..
      · exact List.mem_cons_of_mem _ h3
    · rcases List.mem_cons.mp hy with rfl | hy
      · exact h1
      · exact h2 y hy
/-- max of a tuple of ints -/
def rMaxT (K : PySem.W.Frag) : List V → Hp → VK → Prop := fun vs H Q => ∃ (a : Addr) (ns : List Int), vs = [V.ref a] ∧ SqT K H a (ns.map V.int) ∧ 0 < ns.length ∧ ∀ m, m ∈ ns → (∀ y, y ∈ ns → y ≤ m) → Q (.int m) H
theorem intReads {h : Heap} : ∀ {us : List Value} {ns : List Int}, Vals (ns.map V.int) us → ReadsAll h us (ns.map PyData.int) []
  | _, [], .nil => .nil
  | _, n :: r, .cons a b => by
    obtain ⟨t, rfl⟩ := a
    exact .cons (as := []) (bs := []) (.int _ _) (intReads b)
theorem alikeInts (ns : List Int) : W.AlikeAll (ns.map PyData.int) := by
  refine ⟨fun x hx y hy => ?_, fun x hx => ?_⟩
  · obtain ⟨i, _, rfl⟩ := List.mem_map.mp hx
    obtain ⟨j, _, rfl⟩ := List.mem_map.mp hy
    simp [W.alike]
  · obtain ⟨i, _, rfl⟩ := List.mem_map.mp hx
    exact fun z => by cases z
theorem reads_int {h : Heap} {v : Value} {m : Int} {as : List Addr} (r : Reads h v (.int m) as) : ∃ t, v = .int m t := by
  cases r with
  | int i t => exact ⟨t, rfl⟩
theorem depthInts : ∀ ns : List Int, PyData.depthAll (ns.map PyData.int) = 0 := W.depth_ints
theorem cr_maxT (hc : X.calm = true) (hu : X.A.units + 64 < cLine) : CallR X (.builtin "max") (rMaxT X.K) := by
  intro pins s σ H xs us Q I rv h
  obtain ⟨a, ns, rfl, hs, hn, q⟩ := h
  obtain ⟨u, rfl, ru⟩ := rv.one
  cases (show u = Value.ref a from ru)
  obtain ⟨its, r, p, _⟩ := I.tuple hs
  cases ns with
  | nil => exact absurd hn (Nat.lt_irrefl _)
  | cons n r' =>
    refine W.max_tuple_data (x := .int n) (xs := r'.map PyData.int) (vs := its.toArray) (as := []) (I.ok.hd hc) (show s.heap.IsTuple a its.toArray from p) (by simpa using intReads r) (by simpa using alikeInts (n :: r')) (by
      have e : PyData.depthAll (.int n :: r'.map PyData.int) = 0 := depthInts (n :: r')
      rw [e]
      omega) fun i v h' tk bs hi rd hk => ?_
    rw [W.maxD_ints] at rd
    obtain ⟨t, rfl⟩ := reads_int rd
    obtain ⟨h1, h2, h3⟩ := foldl_max r' n
    refine ⟨.int (r'.foldl max n), H, I.kept (t' := tk) hk, ⟨t, rfl⟩, q _ ?_ fun y hy => ?_⟩
    · rcases h3 with h3 | h3
      · rw [h3]
        exact List.mem_cons_self ..
      · exact List.mem_cons_of_mem _ h3
    · rcases List.mem_cons.mp hy with rfl | hy
      · exact h1
      · exact h2 y hy
def rMaxA (K : PySem.W.Frag) : List V → Hp → VK → Prop := fun vs H Q => rMax K vs H Q ∨ rMaxT K vs H Q
theorem cr_maxA (hc : X.calm = true) (hu : X.A.units + 64 < cLine) : CallR X (.builtin "max") (rMaxA X.K) := callr_or (cr_max hc) (cr_maxT hc hu)
def fMax : List PyData → Option PyData
  | [.list ds] => match intsOf ds with
    | some ns => (maxI ns).map .int
    | none => none
  | [.tuple ds] => match intsOf ds with
    | some ns => (maxI ns).map .int
    | none => none
  | _ => none
theorem ln_max : LNok K (rMaxA K) fMax := by
  intro F H vs ds z Q s hv hf k
  unfold fMax at hf
  split at hf
  · rename_i ds
    cases e : intsOf ds with
    | none => rw [e] at hf; cases hf
    | some ns =>
      rw [e] at hf
      obtain ⟨m, e2, rfl⟩ := Option.map_eq_some_iff.mp hf
      obtain ⟨v, rfl, h⟩ := vw1 hv
      obtain ⟨a, us, rfl, ha, hd⟩ := h.list s
      rw [intsOf_eq e] at hd
      rw [dpAll_ints hd] at ha
      obtain ⟨m1, m2⟩ := maxI_spec e2
      refine .inl ⟨a, ns, rfl, ha, List.length_pos_of_mem m1, fun m' h1 h2 => ?_⟩
      have : m' = m := Int.le_antisymm (m2 _ h1) (h2 _ m1)
      rw [this]
      exact k _ F H (Xt.refl s) (.int _)
  · rename_i ds
    cases e : intsOf ds with
    | none => rw [e] at hf; cases hf
    | some ns =>
      rw [e] at hf
      obtain ⟨m, e2, rfl⟩ := Option.map_eq_some_iff.mp hf
      obtain ⟨v, rfl, h⟩ := vw1 hv
      obtain ⟨a, us, rfl, ha, hd⟩ := h.tup s
      rw [intsOf_eq e] at hd
      rw [dpAll_ints hd] at ha
      obtain ⟨m1, m2⟩ := maxI_spec e2
      refine .inr ⟨a, ns, rfl, ha, List.length_pos_of_mem m1, fun m' h1 h2 => ?_⟩
      have : m' = m := Int.le_antisymm (m2 _ h1) (h2 _ m1)
      rw [this]
      exact k _ F H (Xt.refl s) (.int _)
  · cases hf
def fMin1 : List PyData → Option PyData
  | [.list ds] => match intsOf ds with
    | some ns => (minI ns).map .int
    | none => none
  | _ => none
theorem ln_min : LNok K (rMin K) fMin1 := by
  intro F H vs ds z Q s hv hf k
  unfold fMin1 at hf
  split at hf
  · rename_i ds
    cases e : intsOf ds with
    | none => rw [e] at hf; cases hf
    | some ns =>
      rw [e] at hf
      obtain ⟨m, e2, rfl⟩ := Option.map_eq_some_iff.mp hf
      obtain ⟨v, rfl, h⟩ := vw1 hv
      obtain ⟨a, us, rfl, ha, hd⟩ := h.list s
      rw [intsOf_eq e] at hd
      rw [dpAll_ints hd] at ha
      obtain ⟨m1, m2⟩ := minI_spec e2
      refine ⟨a, ns, rfl, ha, List.length_pos_of_mem m1, fun m' h1 h2 => ?_⟩
      have : m' = m := Int.le_antisymm (h2 _ m1) (m2 _ h1)
      rw [this]
      exact k _ F H (Xt.refl s) (.int _)
  · cases hf
def fMin2 : List PyData → Option PyData
  | [.int i, .int j] => some (.int (if j < i then j else i))
  | _ => none
def fMax2 : List PyData → Option PyData
  | [.int i, .int j] => some (.int (if j > i then j else i))
  | _ => none
def fInt : List PyData → Option PyData
  | [.int i] => some (.int i)
  | [.bool b] => some (.int (if b then 1 else 0))
  | _ => none
theorem ln_int : LNok K (fun xs H Q => (∃ i, xs = [.int i] ∧ Q (.int i) H) ∨ ∃ k, xs = [.bl k] ∧ Q (.int (if k then 1 else 0)) H) fInt := by
  intro F H vs ds z Q s hv hf k
  unfold fInt at hf
  split at hf
  · cases hf
    obtain ⟨v, rfl, h⟩ := vw1 hv
    exact .inl ⟨_, by rw [h.int], k _ F H (Xt.refl s) (.int _)⟩
  · cases hf
    obtain ⟨v, rfl, h⟩ := vw1 hv
    exact .inr ⟨_, by rw [h.bool], k _ F H (Xt.refl s) (.int _)⟩
  · cases hf
def fAbs : List PyData → Option PyData
  | [.int i] => some (.int (if i < 0 then -i else i))
  | _ => none
theorem ln_abs : LNok K (fun xs H Q => ∃ i, xs = [.int i] ∧ Q (.int (if i < 0 then -i else i)) H) fAbs := by
  intro F H vs ds z Q s hv hf k
  unfold fAbs at hf
  split at hf
  · cases hf
    obtain ⟨v, rfl, h⟩ := vw1 hv
    exact ⟨_, by rw [h.int], k _ F H (Xt.refl s) (.int _)⟩
  · cases hf
def fDivmod : List PyData → Option PyData
  | [.int i, .int j] => if 0 < j ∧ j.natAbs < 1073741824 then some (.tuple [.int (i / j), .int (i % j)]) else none
  | _ => none
theorem ln_divmod : LNok K (fun xs H Q => ∃ i j, xs = [.int i, .int j] ∧ CDiv i j ∧ NewT Q H [.int (i / j), .int (i % j)]) fDivmod := by
  intro F H vs ds z Q s hv hf k
  unfold fDivmod at hf
  split at hf
  · split at hf
    · rename_i hc
      cases hf
      obtain ⟨v, u, rfl, h1, h2⟩ := vw2 hv
      exact ⟨_, _, by rw [h1.int, h2.int], ⟨hc.1, by omega⟩, fun p ob hp hob => k _ _ _ (Xt.new s hp hob) (dp_newT (s.free hp) (.cons (.int _) (.cons (.int _) .nil)))⟩
    · cases hf
  · cases hf
/-! ### sorted -/
def sortD (ds : List PyData) : List PyData := ds.mergeSort (W.dataLe false id)
def rSortD (K : PySem.W.Frag) : List V → Hp → VK → Prop := fun vs H Q => ∃ (F : Hp) (a : Addr) (xs : List V) (ds : List PyData), vs = [V.ref a] ∧ Same F H ∧ SqL K H a xs ∧ DzAll K F xs ds ∧ nodAll ds = true ∧ W.AllAlike ds ∧ W.Sortable ds ∧ (∀ d ∈ ds, d.depth ≤ 32) ∧
  ∀ p us, H p = none → DzAll K F us (sortD ds) → Q (.ref p) (upd H p (.lst us))
theorem dpAll_each {F H : Hp} {pins : List (Addr × Obj)} {σ : L2.St} {s : Shared} (I : Inv X pins σ H s) (sF : Same F H) : ∀ {xs : List V} {ds : List PyData} {us : List Value}, DzAll X.K F xs ds → nodAll ds = true → Vals xs us →
    W.EachIs (fun v d => ∃ x, RelV x v ∧ Dz X.K F x d) us ds ∧ W.EachIs (fun v d => ∃ as, Reads s.heap v d as) us ds
  | _, _, _, .nil, _, .nil => ⟨.nil, .nil⟩
  | _, _, _, .cons h hs, c, .cons r rs => by
    rw [nodAll] at c
    have c' := Bool.and_eq_true_iff.mp c
    obtain ⟨h1, h2⟩ := dpAll_each I sF hs c'.2 rs
    exact ⟨.cons ⟨_, r, h⟩ h1, .cons (L2.Dp.reads I _ _ _ (dz_N (dp_same sF h) c'.1) r) h2⟩
theorem each_dpAll {F : Hp} : ∀ {us : List Value} {ds : List PyData}, W.EachIs (fun v d => ∃ x, RelV x v ∧ Dz K F x d) us ds → ∃ xs, Vals xs us ∧ DzAll K F xs ds
  | _, _, .nil => ⟨[], .nil, .nil⟩
  | _, _, .cons ⟨x, r, h⟩ t => by
    obtain ⟨xs, h1, h2⟩ := each_dpAll t
    exact ⟨x :: xs, .cons r h1, .cons h h2⟩
theorem cr_sortD (hu : X.A.units + 64 < cLine) : CallR X (.builtin "sorted") (rSortD X.K) := by
  intro pins s σ H xs us Q I rv h
  obtain ⟨F, a, ys, ds, rfl, sF, hs, hd, hcl, hal, hk, hdep, q⟩ := h
  obtain ⟨u, rfl, ru⟩ := rv.one
  cases (show u = Value.ref a from ru)
  obtain ⟨its, r, p, hz⟩ := I.list hs
  obtain ⟨e1, e2⟩ := dpAll_each I sF hd hcl r
  have hl : ds.length ≤ sizeLine := by
    rw [← dpAll_len hd]
    exact hz
  refine W.sorted_data (R := fun v d => ∃ x, RelV x v ∧ Dz X.K F x d) (vs := its) (bs := ds) (enc := id) p.isList e1 e2 (by rw [List.map_id]; exact hal) (by rw [List.map_id]; exact hk) hl (fun b hb => by have := hdep b hb; show X.A.units + 2 + b.depth < cLine; omega) fun out ho eo => ?_
  obtain ⟨ws, w1, w2⟩ := each_dpAll eo
  obtain ⟨n, hn⟩ := sortedAll_at s.heap its out.toArray
  have hle : s.heap.objs.size ≤ s.heap.objs.size + 1 := Nat.le_succ _
  refine ⟨.ref (s.heap.objs.size + 1), upd H (s.heap.objs.size + 1) (.lst ws), I.laid (t' := s.toks) (fun b o e => sortedAll_old e) hle ⟨?_, out, n, w1, hn⟩, rfl, q _ ws (I.hok.fresh hle) w2⟩
  rw [w1.length, ho]
  exact hl
/-- are they of kinds that sorted orders -/
def sortOk (ds : List PyData) : Bool := ds.all (fun d => ds.all fun e => W.alike d e) && (ds.all (fun d => match d with | .tuple (_ :: _) => true | _ => false) || ds.all (fun d => match d with | .none => false | .tuple _ => false | _ => true)) && ds.all fun d => decide (d.depth ≤ 32)
theorem sortOk_use {ds : List PyData} (h : sortOk ds = true) : W.AllAlike ds ∧ W.Sortable ds ∧ ∀ d ∈ ds, d.depth ≤ 32 := by
  unfold sortOk at h
  rw [Bool.and_eq_true, Bool.and_eq_true, Bool.or_eq_true] at h
  obtain ⟨⟨h1, h2⟩, h3⟩ := h
  refine ⟨fun d hd e he => List.all_eq_true.mp (List.all_eq_true.mp h1 d hd) e he, ?_, fun d hd => of_decide_eq_true (List.all_eq_true.mp h3 d hd)⟩
  rcases h2 with h2 | h2
  · refine .inl fun d hd => ?_
    have q := List.all_eq_true.mp h2 d hd
    split at q
    · exact ⟨_, _, rfl⟩
    · cases q
  · refine .inr fun d hd => ?_
    have q := List.all_eq_true.mp h2 d hd
    split at q
    · cases q
    · cases q
    · rename_i n1 n2
      exact ⟨fun z => n1 z, fun xs z => n2 xs z⟩
mutual
theorem alike_nod : ∀ (d : PyData), W.alike d d = true → nod d = true
  | .none, _ => by simp [nod]
  | .bool _, _ => by simp [nod]
  | .int _, _ => by simp [nod]
  | .str _, _ => by simp [nod]
  | .list xs, h => by
    rw [nod]
    exact alikeAll_nod xs h
  | .tuple xs, h => by
    rw [nod]
    exact alikeAll_nod xs h
theorem alikeAll_nod : ∀ (xs : List PyData), W.alikeAll xs xs = true → nodAll xs = true
  | [], _ => by simp [nodAll]
  | x :: xs, h => by
    have h' := Bool.and_eq_true_iff.mp (by simpa [W.alikeAll] using h)
    rw [nodAll, alike_nod x h'.1, alikeAll_nod xs h'.2]
    rfl
end
theorem alike_nods : ∀ {ds : List PyData}, (∀ d ∈ ds, W.alike d d = true) → nodAll ds = true
  | [], _ => by simp [nodAll]
  | d :: ds, h => by
    rw [nodAll, alike_nod d (h d (List.mem_cons_self ..)), alike_nods fun e he => h e (List.mem_cons_of_mem _ he)]
    rfl
def fSorted : List PyData → Option (List PyData)
  | [.list ds] => if sortOk ds then some (sortD ds) else none
  | _ => none
theorem lf_sorted : LFok K (rSortD K) fSorted := by
  intro F H vs ds z Q s hv hf k
  unfold fSorted at hf
  split at hf
  · rename_i ds
    split at hf
    · rename_i ok
      cases hf
      obtain ⟨v, rfl, h⟩ := vw1 hv
      obtain ⟨a, us, rfl, ha, hd⟩ := h.list s
      obtain ⟨o1, o2, o3⟩ := sortOk_use ok
      exact ⟨F, a, us, ds, rfl, s, ha, hd, alike_nods fun d hd => o1 d hd d hd, o1, o2, o3, fun p ws hp hw => k p ws hp hw⟩
    · cases hf
  · cases hf
/-! ### isinstance -/
def tyName : PyData → String
  | .none => "NoneType"
  | .bool _ => "bool"
  | .int _ => "int"
  | .str _ => "str"
  | .list _ => "list"
  | .tuple _ => "tuple"
  | .dict _ => "dict"
/-- data that is no dict -/
def plD : PyData → Option PyData
  | .dict _ => none
  | d => some d
@[simp] theorem plD_none : plD .none = some .none := rfl
@[simp] theorem plD_bool (b : Bool) : plD (.bool b) = some (.bool b) := rfl
@[simp] theorem plD_int (i : Int) : plD (.int i) = some (.int i) := rfl
@[simp] theorem plD_str (x : Str) : plD (.str x) = some (.str x) := rfl
@[simp] theorem plD_list (xs : List PyData) : plD (.list xs) = some (.list xs) := rfl
@[simp] theorem plD_tuple (xs : List PyData) : plD (.tuple xs) = some (.tuple xs) := rfl
theorem plD_use {d e : PyData} (h : plD d = some e) : d = e ∧ ∀ k, e ≠ .dict k := by
  cases d <;> first | (cases h; exact ⟨rfl, fun k z => by cases z⟩) | cases h
theorem dp_ty {H : Hp} {x : V} {d : PyData} (h : Dz K H x d) (nd : ∀ k, d ≠ .dict k) : TyX K H x (.type (tyName d)) := by
  cases h with
  | dct _ _ => exact absurd rfl (nd _)
  | non => exact .base .non
  | bl b => exact .base (.bl b)
  | int i => exact .base (.int i)
  | str x => exact .base (.str x)
  | lst h _ =>
    rcases h with (h | ⟨o, h⟩) | ⟨o, its, n, h, hc, _⟩
    · exact .base (.lst h)
    · exact .base (.frz h)
    · exact .kList h hc
  | tup h _ =>
    rcases h with (h | ⟨o, h⟩) | ⟨o, its, n, h, hc, _⟩
    · exact .base (.tup h)
    · exact .fTuple h
    · exact .kTuple h hc
def isSub (a b : String) : Bool := a == b || (a == "bool" && b == "int")
def sIsi (T : String) (f : SE) : SE := fun ρ => match f ρ with
  | some (x, ρ1) => ((res ρ1 x).bind plD).map fun d => (.d (.bool (isSub (tyName d) T)), ρ1)
  | none => none
theorem kit_tab : ∀ a ∈ ["NoneType", "bool", "int", "str", "list", "tuple"], ∀ b ∈ ["int", "bool", "str", "list", "tuple"], kitB a b = some (isSub a b) := by decide +kernel
theorem tyName_mem (d : PyData) (hd : ∀ k, d ≠ .dict k) : tyName d ∈ ["NoneType", "bool", "int", "str", "list", "tuple"] := by
  cases d with
  | dict k => exact absurd rfl (hd k)
  | _ => simp [tyName]
theorem kit_all {T : String} (hT : T ∈ ["int", "bool", "str", "list", "tuple"]) (d : PyData) (hd : ∀ k, d ≠ .dict k) : PySem.W.kitOne K (.type (tyName d)) (.type T) = some (isSub (tyName d) T) :=
  kit_ty (kit_tab _ (tyName_mem d hd) _ hT)
theorem eo_isi {a ce : Expr} {T : String} {f : SE} (hK : X.K = c.K) (hT : T ∈ ["int", "bool", "str", "list", "tuple"]) (h : ∀ {te : TE}, PE X a te → PE X ce (tCB (rIsi X.K) (tCons te (tCons (tC (.ty T)) tNil)))) (ha : EO c X a f) : EO c X ce (sIsi T f) := by
  refine ⟨pe_imp (h ha.pe) fun σ H Q ⟨F, ρ, x, ρ', R, e, k⟩ => ?_⟩
  unfold sIsi at e
  cases e1 : f ρ with
  | none => rw [e1] at e; cases e
  | some p =>
    obtain ⟨y, ρ1⟩ := p
    rw [e1] at e
    obtain ⟨d, e2, e3⟩ := Option.map_eq_some_iff.mp e
    cases e3
    obtain ⟨d', e5, e4⟩ := Option.bind_eq_some_iff.mp e2
    obtain ⟨rfl, nd⟩ := plD_use e4
    refine ⟨F, ρ, y, _, R, e1, fun v H1 F1 s1 R1 o1 => ?_⟩
    have dd := (R1.vw o1 e5).dp R1.sub
    rw [hK]
    exact ⟨v, .ty T, _, _, _, rfl, .ty T, dp_ty dd nd, kit_all hT _ nd, k _ H1 F1 s1 R1 (.bl _)⟩
/-! ### slices -/
def cutD (xs : List PyData) (lo hi : Option Int) : List PyData := (xs.drop (HT.sIx xs.length 0 lo)).take (HT.sIx xs.length xs.length hi - HT.sIx xs.length 0 lo)
theorem cut_dp {F : Hp} {vs : List V} {ds : List PyData} {lo hi : Option Int} (h : DzAll K F vs ds) : DzAll K F (cutV vs lo hi) (cutD ds lo hi) := by
  unfold cutV cutD
  rw [dpAll_len h]
  exact dpAll_take _ (dpAll_drop _ h)
abbrev SP := Ev → Option (Option Int × Ev)
def pNone : SP := fun ρ => some (none, ρ)
def pSome (f : SE) : SP := fun ρ => match f ρ with
  | some (.d (.int i), ρ1) => some (some i, ρ1)
  | _ => none
def rP' (c : Co) (f : SP) : TO := fun σ H Q => ∃ F ρ o ρ', Rl c F H σ ρ ∧ f ρ = some (o, ρ') ∧ ∀ H' F', Same F F' → Rl c F' H' σ ρ' → Q o H'
structure EP' (c : Co) (X : Cx) (e : Option Expr) (f : SP) : Prop where
  po : PO X e (rP' c f)
theorem ep_none : EP' c X none pNone := ⟨⟨fun pins s σ H Q I ⟨F, ρ, o, ρ', R, e, k⟩ => by
  cases e
  exact po_none.run pins s σ H Q I (k H F (Same.refl _) R)⟩⟩
theorem ep_some {a : Expr} {f : SE} (h : EO c X a f) : EP' c X (some a) (pSome f) := ⟨⟨fun pins s σ H Q I ⟨F, ρ, o, ρ', R, e, k⟩ => by
  unfold pSome at e
  split at e
  · rename_i i ρ1 e1
    cases e
    exact (po_some h.pe).run pins s σ H Q I ⟨F, ρ, _, _, R, e1, fun v H' F' s' R' o => by
      cases o
      exact ⟨i, rfl, k H' F' s' R'⟩⟩
  · cases e⟩⟩
def sSl (f : PyData → Option Int → Option Int → Option PyData) (fa : SE) (fl fh : SP) : SE := fun ρ => match fa ρ with
  | none => none
  | some (x, ρ1) => match fl ρ1 with
    | none => none
    | some (l, ρ2) => match fh ρ2 with
      | none => none
      | some (h, ρ3) => match res ρ3 x with
        | some d => (f d l h).map fun z => (.d z, ρ3)
        | none => none
def fSl : PyData → Option Int → Option Int → Option PyData
  | .list ds, l, h => some (.list (cutD ds l h))
  | .tuple ds, l, h => some (.tuple (cutD ds l h))
  | _, _, _ => none
def rSlD (K : PySem.W.Frag) : V → Option Int → Option Int → Hp → VK → Prop := fun x l h H Q => rSlF K x l h H Q ∨ rSlL K x l h H Q
theorem sl_D : SlR X (rSlD X.K) := SlR.or sl_tupF sl_list
theorem cutD_all {ds : List PyData} {l h : Option Int} (e : HT.sIx ds.length 0 l = 0 ∧ HT.sIx ds.length ds.length h = ds.length) : cutD ds l h = ds := by
  unfold cutD
  rw [e.1, e.2, List.drop_zero, Nat.sub_zero, List.take_length]
theorem eo_slice {a ce : Expr} {lo hi : Option Expr} {fa : SE} {fl fh : SP} (hK : X.K = c.K) (h : ∀ {te : TE} {tl th : TO}, PE X a te → PO X lo tl → PO X hi th → PE X ce (tSl (rSlD X.K) te tl th)) (ha : EO c X a fa) (hl : EP' c X lo fl) (hh : EP' c X hi fh) : EO c X ce (sSl fSl fa fl fh) := by
  refine ⟨pe_imp (h ha.pe hl.po hh.po) fun σ H Q ⟨F, ρ, x, ρ', R, e, k⟩ => ?_⟩
  unfold sSl at e
  cases e1 : fa ρ with
  | none => rw [e1] at e; cases e
  | some p =>
    obtain ⟨y, ρ1⟩ := p
    rw [e1] at e
    dsimp only at e
    cases e2 : fl ρ1 with
    | none => rw [e2] at e; cases e
    | some p2 =>
      obtain ⟨l, ρ2⟩ := p2
      rw [e2] at e
      dsimp only at e
      cases e3 : fh ρ2 with
      | none => rw [e3] at e; cases e
      | some p3 =>
        obtain ⟨u, ρ3⟩ := p3
        rw [e3] at e
        dsimp only at e
        cases e4 : res ρ3 y with
        | none => rw [e4] at e; cases e
        | some d =>
          rw [e4] at e
          obtain ⟨z, e5, e6⟩ := Option.map_eq_some_iff.mp e
          cases e6
          refine ⟨F, ρ, y, ρ1, R, e1, fun v H1 F1 s1 R1 o1 => ⟨F1, ρ1, l, ρ2, R1, e2, fun H2 F2 s2 R2 => ⟨F2, ρ2, u, _, R2, e3, fun H3 F3 s3 R3 => ?_⟩⟩⟩
          have vw := R3.vw (o1.same (s2.trans s3)) e4
          have s123 := s1.trans (s2.trans s3)
          rw [hK]
          unfold fSl at e5
          split at e5
          · cases e5
            obtain ⟨p, vs, rfl, hs, hd⟩ := vw.list R3.sub
            exact .inr ⟨p, vs, rfl, hs, fun q hq => k _ _ _ (s123.trans (Xt.new R3.sub hq).f) (R3.xt (Xt.new R3.sub hq)) (dp_newL (R3.sub.free hq) (cut_dp hd))⟩
          · cases e5
            have vw0 := vw
            obtain ⟨p, vs, rfl, hs, hd⟩ := vw.tup R3.sub
            refine .inl ⟨p, vs, rfl, hs, fun w => ?_, fun _ q ob hq hob => k _ _ _ (s123.trans (Xt.new (o := .frz ob (.tup (cutV vs l u))) R3.sub hq hob).f) (R3.xt (Xt.new (o := .frz ob (.tup (cutV vs l u))) R3.sub hq hob)) (dp_newT (R3.sub.free hq) (cut_dp hd))⟩
            rw [dpAll_len hd] at w
            rw [cutD_all w] at k
            refine k _ H3 F3 s123 R3 ?_
            rcases vw0 with q | ⟨_, _, _, _, q, _⟩ | ⟨_, _, _, _, q, _⟩
            · exact q
            · cases q
            · cases q
          · cases e5
/-! ### enumerate -/
def enumD (ds : List PyData) : List PyData := ds.mapIdx fun i d => .tuple [.int (i : Nat), d]
def sEnum (f : SA) : SI := fun ρ => match f ρ with
  | some ([.d (.list ds)], ρ1) => some (enumD ds, ρ1)
  | some ([.d (.tuple ds)], ρ1) => some (enumD ds, ρ1)
  | _ => none
theorem enumD_at {ds : List PyData} {i : Nat} {d : PyData} (h : (enumD ds)[i]? = some d) : ∃ x, ds[i]? = some x ∧ d = .tuple [.int (i : Nat), x] := by
  unfold enumD at h
  rw [List.getElem?_mapIdx] at h
  obtain ⟨x, e1, e2⟩ := Option.map_eq_some_iff.mp h
  exact ⟨x, e1, e2.symm⟩
theorem enumD_len (ds : List PyData) : (enumD ds).length = ds.length := by
  unfold enumD
  rw [List.length_mapIdx]
theorem wk_enum {F : Hp} {a : Addr} {vs : List V} {ds : List PyData} (hK : X.K = c.K) (h : SqL c.K F a vs) (hs : DzAll c.K F vs ds) : Wk c (ENT.IteL X.K a) F (enumD ds) := by
  rw [hK]
  refine ⟨fun i d F2 H2 e s1 s2 => ?_, fun F2 H2 s1 s2 => ⟨vs, s2.seq (s1.seq h), by rw [enumD_len, dpAll_len hs]; exact Nat.le_refl _⟩⟩
  obtain ⟨x, e1, rfl⟩ := enumD_at e
  obtain ⟨v, ev, dv⟩ := dpAll_at hs e1
  refine ⟨⟨vs, v, s2.seq (s1.seq h), ev⟩, fun y H3 ⟨T, z, ob, q1, q2, qd, q3, q4⟩ => ?_⟩
  subst q1
  subst q3
  have := q4 vs (s2.seq (s1.seq h))
  rw [ev] at this
  cases this
  exact ⟨_, Xt.new s2 q2 qd, dp_newT (s2.free q2) (.cons (.int _) (.cons (dp_same s1 dv) .nil))⟩
theorem wk_enumT {F : Hp} {a : Addr} {vs : List V} {ds : List PyData} (hK : X.K = c.K) (h : SqT c.K F a vs) (hs : DzAll c.K F vs ds) : Wk c (ENT.IteT X.K a) F (enumD ds) := by
  rw [hK]
  refine ⟨fun i d F2 H2 e s1 s2 => ?_, fun F2 H2 s1 s2 => ⟨vs, sqT_same s2 (sqT_same s1 h), by rw [enumD_len, dpAll_len hs]; exact Nat.le_refl _⟩⟩
  obtain ⟨x, e1, rfl⟩ := enumD_at e
  obtain ⟨v, ev, dv⟩ := dpAll_at hs e1
  refine ⟨⟨vs, v, sqT_same s2 (sqT_same s1 h), ev⟩, fun y H3 ⟨T, z, ob, q1, q2, qd, q3, q4⟩ => ?_⟩
  subst q1
  subst q3
  have := q4 vs (sqT_same s2 (sqT_same s1 h))
  rw [ev] at this
  cases this
  exact ⟨_, Xt.new s2 q2 qd, dp_newT (s2.free q2) (.cons (.int _) (.cons (dp_same s1 dv) .nil))⟩
theorem ei_enum {a : Expr} {fa : SA} {tg ce : Expr} (hK : X.K = c.K) (h : ∀ {t : TA}, PA X [a] t → PI X tg ce (ENT.iEnumL X.K t)) (h' : ∀ {t : TA}, PA X [a] t → PI X tg ce (ENT.iEnumT X.K t)) (ha : EA c X [a] fa) : EI c X tg ce (sEnum fa) := by
  refine ⟨⟨fun pins s σ H R I ⟨F, ρ, items, ρ', RR, e1, k⟩ => ?_⟩⟩
  unfold sEnum at e1
  split at e1
  · rename_i ds ρ1 e2
    cases e1
    refine (h ha.pa).run pins s σ H R I ⟨F, ρ, _, _, RR, e2, fun vs H1 F1 s1 R1 o1 => ?_⟩
    match vs, o1 with
    | [v], ⟨o, _⟩ =>
      cases o with
      | lst hs hd => exact ⟨_, _, rfl, by rw [hK]; exact R1.sub.seq hs, k _ H1 F1 s1 R1 (wk_enum hK hs hd)⟩
  · rename_i ds ρ1 e2
    cases e1
    refine (h' ha.pa).run pins s σ H R I ⟨F, ρ, _, _, RR, e2, fun vs H1 F1 s1 R1 o1 => ?_⟩
    match vs, o1 with
    | [v], ⟨o, _⟩ =>
      cases o with
      | tup hs hd => exact ⟨_, _, rfl, by rw [hK]; exact sqT_same R1.sub hs, k _ H1 F1 s1 R1 (wk_enumT hK hs hd)⟩
  · cases e1
end
end PD
/-! Plain data: len(set(x)) of ints -/
namespace PD
open PySem PySem.Spec PyProof.Rows L2 GxR LG
def nubI : List Int → List Int
  | [] => []
  | x :: r => if x ∈ r then nubI r else x :: nubI r
theorem nubI_mem : ∀ (l : List Int) (k : Int), k ∈ nubI l ↔ k ∈ l
  | [], k => Iff.rfl
  | x :: r, k => by
    unfold nubI
    split
    · rename_i h
      rw [nubI_mem r k, List.mem_cons]
      exact ⟨.inr, fun q => q.elim (fun z => z ▸ h) id⟩
    · rw [List.mem_cons, List.mem_cons, nubI_mem r k]
theorem nubI_nodup : ∀ l : List Int, (nubI l).Nodup
  | [] => List.Pairwise.nil
  | x :: r => by
    unfold nubI
    split
    · exact nubI_nodup r
    · rename_i h
      exact List.nodup_cons.mpr ⟨fun z => h ((nubI_mem r x).mp z), nubI_nodup r⟩
theorem nodup_le : ∀ {a b : List Int}, a.Nodup → (∀ k ∈ a, k ∈ b) → a.length ≤ b.length
  | [], _, _, _ => Nat.zero_le _
  | x :: r, b, h, s => by
    have hx := s x (List.mem_cons_self ..)
    obtain ⟨h1, h2⟩ := List.nodup_cons.mp h
    have e := List.length_erase_of_mem hx
    have q : r.length ≤ (b.erase x).length := nodup_le h2 fun k hk => (List.mem_erase_of_ne (fun z : k = x => h1 (by rw [← z]; exact hk))).mpr (s k (List.mem_cons_of_mem _ hk))
    have p : 0 < b.length := List.length_pos_of_mem hx
    rw [List.length_cons]
    omega
theorem nodup_len {a b : List Int} (ha : a.Nodup) (hb : b.Nodup) (h : ∀ k, k ∈ a ↔ k ∈ b) : a.length = b.length :=
  Nat.le_antisymm (nodup_le ha fun k hk => (h k).mp hk) (nodup_le hb fun k hk => (h k).mpr hk)
theorem firstMet_nodup' (val : Nat → Int) : ∀ i, (firstMet val i).Nodup
  | 0 => by
    rw [firstMet_zero]
    exact List.Pairwise.nil
  | i + 1 => by
    rw [firstMet_succ]
    unfold step_dedup
    split
    · exact firstMet_nodup' val i
    · rename_i h
      refine List.nodup_append.mpr ⟨firstMet_nodup' val i, List.nodup_cons.mpr ⟨by simp, List.Pairwise.nil⟩, fun a ha b hb => ?_⟩
      have eb : b = val i := by simpa using hb
      intro z
      apply h
      rw [List.any_eq_true]
      exact ⟨a, ha, by rw [z, eb]; simp⟩
theorem firstMet_mem' (val : Nat → Int) (k : Int) : ∀ i, k ∈ firstMet val i ↔ ∃ j, j < i ∧ val j = k
  | 0 => by
    rw [firstMet_zero]
    exact ⟨fun h => (by cases h), fun ⟨j, h, _⟩ => absurd h (Nat.not_lt_zero j)⟩
  | i + 1 => by
    rw [firstMet_succ]
    unfold step_dedup
    split
    · rename_i h
      rw [firstMet_mem' val k i]
      constructor
      · exact fun ⟨j, h1, h2⟩ => ⟨j, Nat.lt_succ_of_lt h1, h2⟩
      · intro ⟨j, h1, h2⟩
        rcases Nat.lt_succ_iff_lt_or_eq.mp h1 with h1 | h1
        · exact ⟨j, h1, h2⟩
        · subst h1
          obtain ⟨a, ha, hb⟩ := List.any_eq_true.mp h
          have : a = val j := by simpa using hb
          rw [← h2, ← this]
          exact (firstMet_mem' val a j).mp ha
    · rw [List.mem_append, firstMet_mem' val k i, List.mem_singleton]
      constructor
      · intro h
        rcases h with ⟨j, h1, h2⟩ | h
        · exact ⟨j, Nat.lt_succ_of_lt h1, h2⟩
        · exact ⟨i, Nat.lt_succ_self i, h.symm⟩
      · intro ⟨j, h1, h2⟩
        rcases Nat.lt_succ_iff_lt_or_eq.mp h1 with h1 | h1
        · exact .inl ⟨j, h1, h2⟩
        · subst h1
          exact .inr h2.symm
theorem firstMet_len (ns : List Int) : (firstMet (fun i => ns.getD i 0) ns.length).length = (nubI ns).length := by
  refine nodup_len (firstMet_nodup' _ _) (nubI_nodup _) fun k => ?_
  rw [firstMet_mem', nubI_mem]
  constructor
  · intro ⟨j, h1, h2⟩
    rw [List.getD_eq_getElem?_getD, List.getElem?_eq_getElem h1] at h2
    rw [← h2]
    exact List.getElem_mem h1
  · intro h
    obtain ⟨j, hj, e⟩ := List.getElem_of_mem h
    exact ⟨j, hj, by rw [List.getD_eq_getElem?_getD, List.getElem?_eq_getElem hj]; exact e⟩
section
variable {c : Co} {X : Cx} {K : PySem.W.Frag} {e : Expr} {es : List Expr} {pos : Pos}
def tLenSet (K : PySem.W.Frag) (ta : TE) : TE := fun σ H Q => ta σ H fun x H1 => ∃ (l : Addr) (ns : List Int), x = .ref l ∧ (SqL K H1 l (ns.map V.int) ∨ SqT K H1 l (ns.map V.int)) ∧ ns.length ≤ 4000 ∧ Q (.int ((nubI ns).length : Nat)) H1
theorem pe_lenSet {a : Expr} {ta : TE} {p p2 q pos : Pos} (hg : Gl X "len") (hm : X.mg "len" = none) (hg2 : Gl X "set") (hm2 : X.mg "set" = none) (ha : PE X a ta) (hc : X.calm = true := by rfl)
    (na : starEach [a] X.env = (false, eval a X.env) :: starEach [] X.env := by rfl) : PE X (.Call (.Name "len" p) [.Call (.Name "set" p2) [a] [] q] [] pos) (tLenSet X.K ta) := by
  refine ⟨fun pins s σ H Q I h => ?_⟩
  refine Call_ (ld_blt I hg hm boot_len ?_)
  refine PyProof.Rows.callWith_builtin1 (PyProof.Rows.args_cons ?_ rfl) rfl rfl
  refine Call_ (ld_blt I hg2 hm2 boot_set ?_)
  refine PyProof.Rows.callWith_type1 (PyProof.Rows.args_cons (thn (ha.run pins s σ H _ I h) fun v s1 ⟨x, H1, I1, r1, q1⟩ => PyProof.Rows.args_nil ?_) na) na rfl
  obtain ⟨l, ns, rfl, hq, hl, q1⟩ := q1
  cases r1
  rcases hq with hq | hq
  · obtain ⟨its, r, pl, hz⟩ := I1.list hq
    have hlen : its.toArray.size = ns.length := by rw [List.size_toArray, ← r.length, List.length_map]
    refine call_set_list (I1.ok.hd hc) pl.isList (by simpa using RZ.intsAre_vals r) (by rw [hlen]; unfold scanBound; omega) fun h' tk hS hk => ?_
    refine PyProof.Rows.args_nil ?_
    rw [hlen] at hS
    have hn' := firstMet_len ns
    obtain ⟨o, es, ep, t, ho, hex, hd, _, _, _, hf, hn⟩ := hS
    have I2 : Inv X pins σ H1 { s1 with heap := h', toks := tk } := I1.kept fun b o e => hk b o (Heap.lt_size e) e
    have hle := firstMet_length_le (fun i => ns.getD i 0) ns.length
    exact call_len_set ho hex hd hf (by rw [hn] <;> omega) ⟨.int ((nubI ns).length : Nat), H1, I2.tok _, ⟨_, by rw [hn, hn']⟩, q1⟩
  · obtain ⟨its, r, pl, hz⟩ := I1.tuple hq
    have hlen : its.length = ns.length := by rw [← r.length, List.length_map]
    refine L2.call_set_tupI ns (I1.ok.hd hc) (show s1.heap.IsTuple l its.toArray from pl) (by simpa using RZ.intsAre_vals r) (by unfold scanBound; omega) fun h' tk n hS hcn hk => ?_
    refine PyProof.Rows.args_nil ?_
    have I2 : Inv X pins σ H1 { s1 with heap := h', toks := tk } := I1.kept fun b o e => hk b o e
    obtain ⟨o, es, ep, t, ho, hex, hd, _, hnd, hmem, _, hf, hn, _⟩ := hS
    have e1 : (es.toList.map _).length = (nubI ns).length := nodup_len hnd (nubI_nodup ns) fun k => by
      rw [← hmem k, decide_eq_true_eq, nubI_mem]
    have e2 : es.size = (nubI ns).length := by
      rw [List.length_map, Array.length_toList] at e1
      exact e1
    exact call_len_set ho hex hd hf (by omega) ⟨.int ((nubI ns).length : Nat), H1, I2.tok _, ⟨_, by rw [e2]⟩, q1⟩
def sLenSet (f : SE) : SE := fun ρ => match f ρ with
  | some (x, ρ1) => match res ρ1 x with
    | some (.list ds) => match intsOf ds with
      | some ns => if ns.length ≤ 4000 then some (.d (.int (nubI ns).length), ρ1) else none
      | none => none
    | some (.tuple ds) => match intsOf ds with
      | some ns => if ns.length ≤ 4000 then some (.d (.int (nubI ns).length), ρ1) else none
      | none => none
    | _ => none
  | none => none
theorem eo_lenSet {a ce : Expr} {f : SE} (hK : X.K = c.K) (h : ∀ {te : TE}, PE X a te → PE X ce (tLenSet X.K te)) (ha : EO c X a f) : EO c X ce (sLenSet f) := by
  refine ⟨pe_imp (h ha.pe) fun σ H Q ⟨F, ρ, x, ρ', R, e, k⟩ => ?_⟩
  unfold sLenSet at e
  cases e1 : f ρ with
  | none => rw [e1] at e; cases e
  | some p =>
    obtain ⟨y, ρ1⟩ := p
    rw [e1] at e
    dsimp only at e
    cases e2 : res ρ1 y with
    | none => rw [e2] at e; cases e
    | some d =>
      rw [e2] at e
      cases d with
      | list ds =>
        dsimp only at e
        cases e3 : intsOf ds with
        | none => rw [e3] at e; cases e
        | some ns =>
          rw [e3] at e
          dsimp only at e
          split at e
          · rename_i hl
            cases e
            refine ⟨F, ρ, y, _, R, e1, fun v H1 F1 s1 R1 o1 => ?_⟩
            obtain ⟨p, vs, rfl, hs, hd⟩ := (R1.vw o1 e2).list R1.sub
            rw [intsOf_eq e3] at hd
            rw [dpAll_ints hd] at hs
            rw [hK]
            exact ⟨p, ns, rfl, .inl hs, hl, k _ H1 F1 s1 R1 (.int _)⟩
          · cases e
      | tuple ds =>
        dsimp only at e
        cases e3 : intsOf ds with
        | none => rw [e3] at e; cases e
        | some ns =>
          rw [e3] at e
          dsimp only at e
          split at e
          · rename_i hl
            cases e
            refine ⟨F, ρ, y, _, R, e1, fun v H1 F1 s1 R1 o1 => ?_⟩
            obtain ⟨p, vs, rfl, hs, hd⟩ := (R1.vw o1 e2).tup R1.sub
            rw [intsOf_eq e3] at hd
            rw [dpAll_ints hd] at hs
            rw [hK]
            exact ⟨p, ns, rfl, .inr hs, hl, k _ H1 F1 s1 R1 (.int _)⟩
          · cases e
      | _ => cases e
end
end PD
/-! Plain data: list + list, parallel assignment, extend, count, list(range(..)) -/
namespace PD
open PySem PySem.Spec PyProof.Rows L2 GxR LG
section
variable {X : Cx} {K : PySem.W.Frag}
/-! ### list + list -/
def rCatL (K : PySem.W.Frag) : R2 := fun x y H Q => ∃ a b xs ys, x = .ref a ∧ y = .ref b ∧ SqL K H a xs ∧ SqL K H b ys ∧ xs.length + ys.length ≤ sizeLine ∧ ∀ p, H p = none → Q (.ref p) (upd H p (.lst (xs ++ ys)))
theorem op_catL : OpR X (binaryOp .Add) (rCatL X.K) := by
  intro pins s σ H x y v u Q I rx ry h
  obtain ⟨a, b, xs, ys, rfl, rfl, ha, hb, hz, q⟩ := h
  cases rx
  cases ry
  obtain ⟨its, r1, ⟨⟨cls, dd, data, sl⟩, n, ho, hc, hdn, hd⟩, hlen⟩ := I.list ha
  obtain ⟨its2, r2, ⟨⟨cls2, dd2, data2, sl2⟩, n2, ho2, hc2, hdn2, hd2⟩, hlen2⟩ := I.list hb
  simp only at hc hd hc2 hd2
  subst hc hd hc2 hd2
  have l1 := r1.length
  have l2 := r2.length
  refine concat_meets (T := "list") (id := "list.__add__") ⟨_, ho, rfl⟩ ⟨_, ho2, rfl⟩ (by kernel_rfl) (by kernel_rfl) PySem.F.slot_list_add PySem.F.entry_list_add (PySem.F.args_list_add_2 _ _)
    (list_addW a b its.toArray its2.toArray n n2 dd dd2 sl sl2 (by rw [List.size_toArray, List.size_toArray]; omega)) ⟨ho, ho2, ?_⟩
  have ea : its.toArray ++ its2.toArray = (its ++ its2).toArray := by simp
  rw [ea]
  exact ⟨.ref _, _, I.lnew (t' := s.toks) (r1.append r2) (by rw [List.length_append]; omega), rfl, q _ I.fresh⟩
def rAdd3 (K : PySem.W.Frag) : R2 := fun x y H Q => rAddA K x y H Q ∨ rCatL K x y H Q
theorem op_add3 : OpR X (binaryOp .Add) (rAdd3 X.K) := opr_or op_addA op_catL
theorem l2_add3 : L2ok K (rAdd3 K) fAdd := by
  intro F H x y d e z Q s hx hy hf k
  by_cases hl : ∃ xs ys, d = .list xs ∧ e = .list ys
  · obtain ⟨xs, ys, rfl, rfl⟩ := hl
    simp only [fAdd] at hf
    split at hf
    · rename_i hn
      cases hf
      obtain ⟨a, vs, rfl, ha, hva⟩ := hx.list s
      obtain ⟨b, us, rfl, hb, hvb⟩ := hy.list s
      exact .inr ⟨a, b, vs, us, rfl, rfl, ha, hb, by rw [dpAll_len hva, dpAll_len hvb]; exact size_line hn, fun p hp => k _ _ _ (Xt.new s hp) (dp_newL (s.free hp) (dpAll_app hva hvb))⟩
    · cases hf
  · refine .inl (l2_add F H x y d e z Q s hx hy ?_ k)
    rw [← hf]
    unfold fAdd fAddT
    cases d <;> cases e <;> first | rfl | exact absurd ⟨_, _, rfl, rfl⟩ hl
end
section
variable {c : Co} {X : Cx} {e : Expr} {es : List Expr} {pos : Pos}
/-! ### a, b = e1, e2 -/
def putDs : List Nat → List PyData → Ev → Option Ev
  | [], [], ρ => some ρ
  | i :: is, d :: ds, ρ => putDs is ds (ρ.set i (.dat d))
  | _, _, _ => none
def sPar (is : List Nat) (fa : SA) : SS := fun ρ => match fa ρ with
  | none => none
  | some (xs, ρ1) => match allD xs with
    | none => none
    | some ds => (putDs is ds ρ1).map fun ρ2 => (.nx, ρ2)
theorem es_par {i j : Nat} {fa : SA} {st : Stmt} (h : ∀ {t : TA}, PA X es t → PS X st (tPar i j t)) (ha : EA c X es fa) : ES c X st (sPar [i, j] fa) := by
  refine ⟨ps_imp (h ha.pa) fun D σ H ⟨F, ρ, fl, ρ', R, e, k⟩ => ?_⟩
  unfold sPar at e
  cases e1 : fa ρ with
  | none => rw [e1] at e; cases e
  | some p =>
    obtain ⟨xs, ρ1⟩ := p
    rw [e1] at e
    dsimp only at e
    cases e2 : allD xs with
    | none => rw [e2] at e; cases e
    | some ds =>
      rw [e2] at e
      dsimp only at e
      match ds, e2, e with
      | [d1, d2], e2, e =>
        cases e
        refine ⟨F, ρ, xs, _, R, e1, fun vs H1 F1 s1 R1 o1 => ?_⟩
        cases allD_ok o1 e2 with
        | cons a b => cases b with
          | cons a' b' => cases b' with
            | nil => exact ⟨_, _, rfl, k _ H1 F1 s1 ((R1.set a).set a')⟩
      | [], _, e => cases e
      | [_], _, e => cases e
      | _ :: _ :: _ :: _, _, e => cases e
/-- a new list first, then a value: both names on one line -/
def sParO (i j : Nat) (f : SI) (g : SE) : SS := fun ρ => match f ρ with
  | none => none
  | some (ds, ρ1) => match g ρ1 with
    | some (.d d, ρ2) => if i = j then none else some (.nx, (ρ2.set i (.own ds)).set j (.dat d))
    | _ => none
theorem es_parO {i j : Nat} {a b : Expr} {f : SI} {g : SE} {st : Stmt} (h : ∀ {t u : TE}, PE X a t → PE X b u → PS X st (tPar i j (tCons t (tCons u tNil)))) (ha : EF c X a f) (hb : ∀ H0 F0 io, EO (c.re H0 F0 io) X b g) : ES c X st (sParO i j f g) := by
  refine ⟨ps_imp (h ha.pe (any_e hb)) fun D σ H ⟨F, ρ, fl, ρ', R, e, k⟩ => ?_⟩
  unfold sParO at e
  cases e1 : f ρ with
  | none => rw [e1] at e; cases e
  | some p =>
    obtain ⟨ds, ρ1⟩ := p
    rw [e1] at e
    dsimp only at e
    cases e2 : g ρ1 with
    | none => rw [e2] at e; cases e
    | some q =>
      obtain ⟨x, ρ2⟩ := q
      rw [e2] at e
      cases x with
      | s i => cases e
      | d d =>
        dsimp only at e
        split at e
        · cases e
        · rename_i hij
          cases e
          refine ⟨F, ρ, ds, ρ1, R, e1, fun a H1 F1 s1 R1 f1 => ?_⟩
          obtain ⟨vs, hv, hd⟩ := f1.at_
          have f0 : c.F0 a = none := R1.mono.free f1.nf
          have nio : a ∉ c.io := fun z => (R1.ioh a z).1 f1.h0
          have R2 := R1.guard f1 hv f0
          refine ⟨c.with a (.lst vs), rfl, ⟨rfl, rfl⟩, F1, ρ1, _, ρ2, R2, e2, fun v H3 F3 s3 R3 o3 => ?_⟩
          obtain ⟨R4, h4, n4, no4⟩ := R3.unguard f1.h0 f1.nt nio f0
          have f4 : Fresh c F3 H3 σ ρ2 a ds := ⟨⟨vs, h4, dpAll_same s3 hd⟩, n4, f1.nt, f1.h0, no4⟩
          have R5 := (R4.putOwn i f4).set (i := j) o3
          exact ⟨_, _, rfl, k _ H3 F3 (s1.trans s3) R5⟩
/-! ### x.extend([..]) -/
def sExt (i : Nat) (f : SI) : SS := fun ρ => match cont? ρ i with
  | none => none
  | some _ => match f ρ with
    | some (ys, ρ1) => match cont? ρ1 i with
      | some ds => if ds.length + ys.length ≤ 1000000 then some (.nx, setCont ρ1 i (ds ++ ys)) else none
      | none => none
    | _ => none
theorem es_ext (i : Nat) {f : SI} {st : Stmt} (h : ∀ {te : TE}, PE X e te → PS X st (tDrop (tBM X.K "list" rExtend (tVar i) (tCons te tNil)))) (he : EF c X e f) : ES c X st (sExt i f) := by
  refine ⟨ps_imp (h he.pe) fun D σ H ⟨F, ρ, fl, ρ', R, e, k⟩ => ?_⟩
  unfold sExt at e
  cases e0 : cont? ρ i with
  | none => rw [e0] at e; cases e
  | some rs0 =>
    rw [e0] at e
    dsimp only at e
    obtain ⟨r, ws, v0, v1, v2, v3, v4⟩ := cont_at R e0
    cases e1 : f ρ with
    | none => rw [e1] at e; cases e
    | some p =>
      obtain ⟨ys, ρ1⟩ := p
      rw [e1] at e
      dsimp only at e
      cases e2 : cont? ρ1 i with
      | none => rw [e2] at e; cases e
      | some ds =>
        rw [e2] at e
        dsimp only at e
        split at e
        · rename_i hn
          cases e
          refine ⟨.ref r, vAt_eq v0, .inl ⟨rfl, ws, .inl (.inl v1)⟩, F, ρ, _, ρ1, R, e1, fun a H1 F1 s1 R1 f1 => ?_⟩
          obtain ⟨r1, ws1, w0, w1, w2, w3, w4⟩ := cont_at R1 e2
          rw [v0] at w0
          cases w0
          obtain ⟨us, hu, hd⟩ := f1.at_
          exact ⟨r, a, ws1, us, rfl, rfl, w1, hu, by rw [dpAll_len w2, dpAll_len hd]; exact size_line hn, k σ _ F1 s1 (R1.put e2 v0 w3 w4 (dpAll_app w2 hd))⟩
        · cases e
/-! ### xs.count(x) -/
def fCount : PyData → PyData → Option PyData
  | .list ds, .int k => match intsOf ds with
    | some ns => some (.int (ns.count k : Nat))
    | none => none
  | _, _ => none
/-- a method of a list, one argument -/
def sM1 (f : PyData → PyData → Option PyData) (fo fa : SE) : SE := fun ρ => match fo ρ with
  | none => none
  | some (u, ρ1) => match res ρ1 u with
    | some (.list _) => match fa ρ1 with
      | none => none
      | some (v, ρ2) => match res ρ2 u, res ρ2 v with
        | some d, some e => (f d e).map fun z => (.d z, ρ2)
        | _, _ => none
    | _ => none
def L1M (K : PySem.W.Frag) (r : V → List V → Hp → VK → Prop) (f : PyData → PyData → Option PyData) : Prop :=
  ∀ (F H : Hp) (x y : V) (d e z : PyData) (Q : VK), Same F H → Vw K F H x d → Vw K F H y e → f d e = some z → (∀ v F' H', Xt F H F' H' → Dz K F' v z → Q v H') → r x [y] H Q
theorem eo_m1 {o ce : Expr} {fo fa : SE} {r : V → List V → Hp → VK → Prop} {f : PyData → PyData → Option PyData} (hK : X.K = c.K) (h : ∀ {to te : TE}, PE X o to → PE X e te → PE X ce (tBM X.K "list" r to (tCons te tNil))) (hl : L1M c.K r f) (ho : EO c X o fo) (he : EO c X e fa) : EO c X ce (sM1 f fo fa) := by
  refine ⟨pe_imp (h ho.pe he.pe) fun σ H Q ⟨F, ρ, x, ρ', R, q, k⟩ => ?_⟩
  unfold sM1 at q
  cases h1 : fo ρ with
  | none => rw [h1] at q; cases q
  | some p =>
    obtain ⟨u, ρ1⟩ := p
    rw [h1] at q
    dsimp only at q
    split at q
    · rename_i ds0 h2
      cases h3 : fa ρ1 with
      | none => rw [h3] at q; cases q
      | some p =>
        obtain ⟨v, ρ2⟩ := p
        rw [h3] at q
        dsimp only at q
        cases h4 : res ρ2 u with
        | none => rw [h4] at q; cases q
        | some d =>
          cases h5 : res ρ2 v with
          | none => rw [h4, h5] at q; cases q
          | some d' =>
            rw [h4, h5] at q
            dsimp only at q
            cases h6 : f d d' with
            | none => rw [h6] at q; cases q
            | some z =>
              rw [h6] at q
              cases q
              refine ⟨F, ρ, u, ρ1, R, h1, fun xv H1 F1 s1 R1 o1 => ?_⟩
              obtain ⟨a, vs, rfl, ha, _⟩ := (R1.vw o1 h2).list R1.sub
              refine ⟨.inl ⟨rfl, vs, by rw [hK]; exact ha⟩, F1, ρ1, v, _, R1, h3, fun yv H2 F2 s2 R2 o2 => ?_⟩
              exact hl F2 H2 _ yv d d' z Q R2.sub (R2.vw (o1.same s2) h4) (R2.vw o2 h5) h6 fun w F3 H3 xt dz => k w H3 F3 (s1.trans (s2.trans xt.f)) (R2.xt xt) dz
    · cases q
theorem l1_count {K : PySem.W.Frag} : L1M K (rCntI K) fCount := by
  intro F H x y d e z Q s hx hy hf k
  unfold fCount at hf
  split at hf
  · rename_i ds j
    split at hf
    · rename_i ns e1
      cases hf
      obtain ⟨a, vs, rfl, ha, hd⟩ := hx.list s
      rw [intsOf_eq e1] at hd
      have hv := dpAll_ints hd
      subst hv
      refine ⟨a, ns, j, rfl, by rw [hy.int], ha, k _ F H (Xt.refl s) (.int _)⟩
    · cases hf
  · cases hf
/-! ### list(range(a, b)), tuple(range(a, b)) -/
def rgOkB (a b : Int) : Bool := decide (a.natAbs ≤ 1000000 ∧ b.natAbs ≤ 1000000)
theorem rgOk_of {a b : Int} (h : rgOkB a b = true) : RgOk a b ∧ (b - a).toNat ≤ 2000000 := by
  have h := of_decide_eq_true h
  unfold RgOk
  have : (sizeLine : Nat) = sizeLine := rfl
  refine ⟨?_, by omega⟩
  have z := sizeLine_eq
  omega
/-- the two ends -/
abbrev SR := Ev → Option (Int × Int × Ev)
def sR1 (f : SE) : SR := fun ρ => match f ρ with
  | some (.d (.int n), ρ1) => some (0, n, ρ1)
  | _ => none
def rR (c : Co) (f : SR) : L2.St → Hp → (Int → Int → Hp → Prop) → Prop := fun σ H Q => ∃ F ρ a b ρ', Rl c F H σ ρ ∧ f ρ = some (a, b, ρ') ∧ ∀ H' F', Same F F' → Rl c F' H' σ ρ' → Q a b H'
structure ER (c : Co) (X : Cx) (e : Expr) (f : SR) : Prop where
  pr : PRg X e (rR c f)
theorem er_1 {a ce : Expr} {f : SE} (h : ∀ {t : TE}, PE X a t → PRg X ce (tRg1 t)) (ha : EO c X a f) : ER c X ce (sR1 f) := by
  refine ⟨fun pins s σ H Q I ⟨F, ρ, i, j, ρ', R, e, k⟩ => h ha.pe pins s σ H Q I ?_⟩
  unfold sR1 at e
  split at e
  · rename_i n ρ1 e1
    cases e
    refine ⟨F, ρ, _, _, R, e1, fun v H1 F1 s1 R1 o1 => ?_⟩
    cases o1
    exact ⟨_, rfl, k H1 F1 s1 R1⟩
  · cases e
theorem rgV_dp {F : Hp} {K : PySem.W.Frag} (a b : Int) : DzAll K F (rgV a b) (rangeD a b) := by
  unfold rgV rangeD
  have e1 : (List.range (b - a).toNat).map (fun i => V.int (a + (i : Nat))) = ((List.range (b - a).toNat).map fun i => a + (i : Nat)).map V.int := by rw [List.map_map]; rfl
  have e2 : (List.range (b - a).toNat).map (fun i => PyData.int (a + (i : Nat))) = ((List.range (b - a).toNat).map fun i => a + (i : Nat)).map PyData.int := by rw [List.map_map]; rfl
  rw [e1, e2]
  exact ints_dpAll _
def sLstRg (f : SR) : SI := fun ρ => match f ρ with
  | some (a, b, ρ1) => if rgOkB a b then some (rangeD a b, ρ1) else none
  | none => none
theorem ef_lstRg {ce : Expr} {f : SR} (h : ∀ {t}, PRg X e t → PE X ce (tLstRg t)) (he : ER c X e f) : EF c X ce (sLstRg f) := by
  refine ⟨pe_imp (h he.pr) fun σ H Q ⟨F, ρ, ds, ρ', R, q, k⟩ => ?_⟩
  unfold sLstRg at q
  cases e1 : f ρ with
  | none => rw [e1] at q; cases q
  | some p =>
    obtain ⟨i, j, ρ1⟩ := p
    rw [e1] at q
    dsimp only at q
    split at q
    · rename_i hr
      cases q
      refine ⟨F, ρ, i, j, _, R, e1, fun H1 F1 s1 R1 => ⟨(rgOk_of hr).1, fun p hp => ?_⟩⟩
      obtain ⟨R2, f2⟩ := R1.fresh hp (rgV_dp (F := F1) i j)
      exact k p _ F1 s1 R2 f2
    · cases q
end
end PD
/-! Plain data: truth as a test; what stands at a def's name -/
namespace PD
open PySem PySem.Spec PyProof.Rows L2 GxR LG
section
variable {c : Co} {X : Cx} {a : Expr} {fa : SE}
theorem Vw.str {K : PySem.W.Frag} {F H : Hp} {x : V} {z : Str} (h : Vw K F H x (.str z)) : x = .str z := by
  rcases h with h | ⟨_, _, _, _, h, _⟩ | ⟨_, _, _, _, h, _⟩
  · cases h; rfl
  · cases h
  · cases h
theorem et_tr (ha : EO c X a fa) (hK : X.K = c.K := by rfl) (he : ∀ whole, isTrue a X.env whole = (do let v ← whole; standAt a.pos; holding [v] (truthy v)) := by intro _; rfl) : ET c X a (sTr fa) := by
  refine ⟨pt_imp (pt_truth ha.pe he) fun σ H Q ⟨F, ρ, b, ρ', R, e, k⟩ => ?_⟩
  unfold sTr at e
  cases e1 : fa ρ with
  | none => rw [e1] at e; cases e
  | some p =>
    obtain ⟨x, ρ1⟩ := p
    rw [e1] at e
    dsimp only at e
    cases e2 : res ρ1 x with
    | none => rw [e2] at e; cases e
    | some d =>
      rw [e2] at e
      dsimp only at e
      cases e3 : truth d with
      | none => rw [e3] at e; cases e
      | some bb =>
        rw [e3] at e
        cases e
        refine ⟨F, ρ, x, _, R, e1, fun v H1 F1 s1 R1 o1 => ⟨b, ?_, k H1 F1 s1 R1⟩⟩
        have vw := R1.vw o1 e2
        rw [hK]
        cases d with
        | none => cases e3; rw [vw.non]; exact rfl
        | bool t => cases e3; rw [vw.bool]; exact rfl
        | int t => cases e3; rw [vw.int]; exact rfl
        | list ds =>
          cases e3
          obtain ⟨p, vs, rfl, h1, h2⟩ := vw.list R1.sub
          refine .inl ⟨vs, h1, ?_⟩
          have := dpAll_len h2
          cases vs <;> cases ds <;> simp_all
        | tuple ds =>
          cases e3
          obtain ⟨p, vs, rfl, h1, h2⟩ := vw.tup R1.sub
          refine .inr (.inl ⟨vs, h1, ?_⟩)
          have := dpAll_len h2
          cases vs <;> cases ds <;> simp_all
        | _ => cases e3
end
theorem hu64 {A : Around} {k : Nat} (hr : Room k A) : A.units + 64 < cLine := by have := hr.un; omega
theorem hu65 {A : Around} {k : Nat} (hr : Room k A) : A.units + 65 < cLine := by have := hr.un; omega
/-- a value, then a new list: both names on one line -/
def sParQ (i j : Nat) (g : SE) (f : SI) : SS := fun ρ => match g ρ with
  | some (.d d, ρ1) => match f ρ1 with
    | none => none
    | some (ds, ρ2) => if i = j then none else some (.nx, (ρ2.set i (.dat d)).set j (.own ds))
  | _ => none
theorem es_parQ {c : Co} {X : Cx} {i j : Nat} {a b : Expr} {f : SI} {g : SE} {st : Stmt} (h : ∀ {t u : TE}, PE X a t → PE X b u → PS X st (tPar i j (tCons t (tCons u tNil)))) (ha : EO c X a g) (hb : EF c X b f) : ES c X st (sParQ i j g f) := by
  refine ⟨ps_imp (h ha.pe hb.pe) fun D σ H ⟨F, ρ, fl, ρ', R, e, k⟩ => ?_⟩
  unfold sParQ at e
  cases e1 : g ρ with
  | none => rw [e1] at e; cases e
  | some p =>
    obtain ⟨x, ρ1⟩ := p
    rw [e1] at e
    cases x with
    | s i => cases e
    | d d =>
      dsimp only at e
      cases e2 : f ρ1 with
      | none => rw [e2] at e; cases e
      | some q =>
        obtain ⟨ds, ρ2⟩ := q
        rw [e2] at e
        dsimp only at e
        split at e
        · cases e
        · rename_i hij
          cases e
          refine ⟨F, ρ, _, ρ1, R, e1, fun v H1 F1 s1 R1 o1 => ⟨F1, ρ1, ds, ρ2, R1, e2, fun a H2 F2 s2 R2 f2 => ?_⟩⟩
          have R5 := (R2.putOwn j f2).set (i := i) (dp_same s2 o1)
          rw [List.set_comm _ _ (Ne.symm hij), List.set_comm _ _ (Ne.symm hij)] at R5
          exact ⟨_, _, rfl, k _ H2 F2 (s1.trans s2) R5⟩
/-- name = [.. for ..] on one line -/
theorem es_lc {c : Co} {X : Cx} {st : Stmt} {i : Nat} {S : SS} {elt tg iter : Expr} {ifs : List Expr} {scope : Scope} {own : List (Str × Nat)} {fi : SI} {g : SG} {ks : List Nat} {t : STe} {f : SE}
    (hS : ∀ D σ H, rS c S D σ H → rF c (sComp fi g t f (own.map (·.2))) σ H fun x H1 => gName i x σ H1 D.nx)
    (h : ∀ {wi : TI} {g' : TG} {tt : TT} {te : TE}, PI X tg iter wi → (∀ (s : Shared) (H : Hp) (C : Addr) (cl : List (Str × Addr)) (fp : List Addr), PG (X.blk s H scope (compEnvC scope cl C X.env) fp) tg g') →
      (∀ (s : Shared) (H : Hp) (C : Addr) (cl : List (Str × Addr)) (fp : List Addr), PTs (X.blk s H scope (compEnvC scope cl C X.env) fp) ifs tt) → (∀ (s : Shared) (H : Hp) (C : Addr) (cl : List (Str × Addr)) (fp : List Addr), PE (X.blk s H scope (compEnvC scope cl C X.env) fp) elt te) → PS X st (tAsg (tLc wi g' tt te (own.map (·.2))) (gName i)))
    (hi : EI c X tg iter fi) (hks : ∀ i ∈ ks, i ∈ own.map (·.2))
    (hg : ∀ H0 F0 io (s : Shared) (H : Hp) (C : Addr) (cl : List (Str × Addr)) (fp : List Addr), EG (c.re H0 F0 io) (X.blk s H scope (compEnvC scope cl C X.env) fp) tg g ks)
    (ht : ∀ H0 F0 io (s : Shared) (H : Hp) (C : Addr) (cl : List (Str × Addr)) (fp : List Addr), ETs (c.re H0 F0 io) (X.blk s H scope (compEnvC scope cl C X.env) fp) ifs t)
    (he : ∀ H0 F0 io (s : Shared) (H : Hp) (C : Addr) (cl : List (Str × Addr)) (fp : List Addr), EO (c.re H0 F0 io) (X.blk s H scope (compEnvC scope cl C X.env) fp) elt f) : ES c X st S :=
  setlc_core hS (h hi.pi (fun s H C cl fp => any_g fun H0 F0 io => hg H0 F0 io s H C cl fp) (fun s H C cl fp => any_t fun H0 F0 io => ht H0 F0 io s H C cl fp) fun s H C cl fp => any_e fun H0 F0 io => he H0 F0 io s H C cl fp) fun _ _ _ hyp => comp_core hks hyp
/-- -1 -/
theorem eo_neg {c : Co} {X : Cx} (i : Int) {j : Nat} {p q : Pos} : EO c X (.UnaryOp .USub (.Constant (.int i) j p) q) (sC (.int (-i))) :=
  ⟨pe_imp (pe_un un_neg pe_int) fun σ H Q ⟨F, ρ, y, ρ', R, e, k⟩ => by
    cases e
    exact ⟨i, rfl, k _ H F (Same.refl _) R (.int _)⟩⟩
/-- the def st stands at the module's name x -/
structure Dk (K : PySem.W.Frag) (mg : Str → Option Value) (x : Str) (st : Stmt) (ps : List Str) (f : Addr) (fd : FuncData) : Prop where
  fn : Fun K x x st f fd
  mg : mg x = some (.ref f)
  b : Binds K fd ps []
/-- .. its code object at cA (a def with generator expressions) -/
structure Dg (K : PySem.W.Frag) (mg : Str → Option Value) (x : Str) (st : Stmt) (ps : List Str) (f : Addr) (fd : FuncData) (cA : Addr) : Prop where
  ex : ∃ (oc : Value) (od : Option Addr) (kV doc pm : Value) (an : Option Addr) (ct : Value) (osl : Array (Option Value)),
    fd = PySem.W.fnOf x x (defArgs st) (defBody st) (defScope st) .none kV doc pm an (.ref cA) ct ∧ K.lookup f = some ⟨oc, od, .func fd, osl⟩ ∧ PySem.W.codeIn K (.ref cA) x = true
  kp : PySem.W.keepIn K (.ref f) = true
  mg : mg x = some (.ref f)
  b : Binds K fd ps []
theorem Dg.pure {K : PySem.W.Frag} {T : List Addr} {P : Program} {w : World} {mg : Str → Option Value} {base : Heap} {x : Str} {st : Stmt} {ps : List Str} {f : Addr} {fd : FuncData} {cA : Addr} {N : List Str} {k : Nat} (D : Dg K mg x st ps f fd cA) (S : FnScope N ps (defScope st)) (g : SS) (hnp : ps.length ≤ N.length)
    (hb : ∀ (A : Around) (outer : List Env) (s : Shared) (H : Hp) (E : XK) (H0 F0 : Hp) (io : List Addr), Room k (A.deeper (envOfC x (defScope st) s.heap.objs.size f (.ref cA))) →
      ESs ⟨K, T, H0, F0, io, []⟩ (cxOf CX0 P w K mg base N x (defScope st) f (.ref cA) A outer s H E).nox (defBody st) g) :
    FnOk P w K mg base CX0 (k + 1) f fd ps (spP K T (fun ds => if ds.length = ps.length then bodyP g N.length ds else none)) := by
  obtain ⟨oc, od, kV, doc, pm, an, ct, osl, rfl, l, cd⟩ := D.ex
  exact fn_pureC l cd S g hnp hb
end PD
/-! the end: what stands at names, tables -/
namespace PD
open PySem PySem.Spec PyProof.Rows L2 LamX
theorem mkDk {K : PySem.W.Frag} {h : Heap} {mg : Str → Option Value} {x : Str} {st : Stmt} {ps : List Str} {f : Addr} {oc kV doc pm cd ct : Value} {od an : Option Addr} {osl : Array (Option Value)} (X : K.In h) (G : h.Ns mainGlobals mg)
    (a : PySem.W.nsIn K mainGlobals x = some (some (.ref f))) (l : K.lookup f = some ⟨oc, od, .func (PySem.W.fnOf x x (defArgs st) (defBody st) (defScope st) .none kV doc pm an cd ct), osl⟩) (c : PySem.W.codeIn K cd x = true) (k : PySem.W.keepIn K (.ref f) = true)
    (b : ∀ (kV doc pm : Value) (an : Option Addr) (cdv ct : Value) (us : List Value), us.length = ps.length → bindArgs (PySem.W.fnOf x x (defArgs st) (defBody st) (defScope st) .none kV doc pm an cdv ct) ⟨us, []⟩ = pure (ps.zip us)) : ∃ f fd, Dk K mg x st ps f fd :=
  ⟨f, _, fun_mk l c k, PySem.W.mg_of X G a, (fun_mk (st := st) l c k).binds b⟩
theorem mkDg {K : PySem.W.Frag} {h : Heap} {mg : Str → Option Value} {x : Str} {st : Stmt} {ps : List Str} {f cA Pt : Addr} {oc kV doc pm ct : Value} {od an : Option Addr} {osl : Array (Option Value)} {q : Program} {e : Value} {dd : Option Addr} {vs : Array Value} {sl : Array (Option Value)} (X : K.In h) (G : h.Ns mainGlobals mg)
    (tab : ∀ d ∈ recsOf q, ∃ a o fd c P, mg d.name = some (.ref a) ∧ h.get? a = some o ∧ o.data = .func fd ∧ fd.code = .ref c ∧ h.IsCode c P #[] ∧ h.TableAt c P #[]) (hrec : ((recsOf q).any fun e => e.name == x) = true)
    (a : PySem.W.nsIn K mainGlobals x = some (some (.ref f))) (l : K.lookup f = some ⟨oc, od, .func (PySem.W.fnOf x x (defArgs st) (defBody st) (defScope st) .none kV doc pm an (.ref cA) ct), osl⟩) (c : PySem.W.codeIn K (.ref cA) x = true) (k : PySem.W.keepIn K (.ref f) = true)
    (lc : K.lookup cA = some ⟨e, dd, .fields vs, sl⟩) (h11 : vs[11]? = some (.ref Pt)) (nP : K.lookup Pt = none)
    (b : ∀ (kV doc pm : Value) (an : Option Addr) (cdv ct : Value) (us : List Value), us.length = ps.length → bindArgs (PySem.W.fnOf x x (defArgs st) (defBody st) (defScope st) .none kV doc pm an cdv ct) ⟨us, []⟩ = pure (ps.zip us)) :
    ∃ f fd cA Pt, Dg K mg x st ps f fd cA ∧ h.get? Pt = some { cls := .none, data := .fields #[] } ∧ K.lookup Pt = none ∧ PySem.W.CodeHd h cA Pt := by
  have hmg := PySem.W.mg_of X G a
  refine ⟨f, _, cA, Pt, ⟨⟨oc, od, kV, doc, pm, an, ct, osl, rfl, l, c⟩, k, hmg, (fun_mk (st := st) l c k).binds b⟩, ?_, nP, ?_⟩
  all_goals
    obtain ⟨dL, hm, hn1⟩ := List.any_eq_true.mp hrec
    have hn2 : dL.name = x := beq_iff_eq.mp hn1
    obtain ⟨a', o', fd', c', P', h1, h2, h3, h4, h5, h6⟩ := tab dL hm
    rw [hn2, hmg] at h1
    cases h1
    have g1 := X _ _ l
    rw [g1] at h2
    cases h2
    cases h3
    cases h4
    have hd := PySem.W.CodeHd.of h5 h6
    obtain ⟨⟨oc, vc, e1, _, e3, e4⟩, hP⟩ := h6
    have g2 := X _ _ lc
    rw [g2] at e1
    cases e1
    cases e3
    rw [h11] at e4
    cases e4
    first | exact hP | exact hd
theorem walk_ofG {l : PySem.W.OpenLaw} {n k : Nat} {q : Program} {loose : List Str} {XP : (Str → Option Value) → Heap → Prop} {YP : World → Heap → Prop} {d : DefRec} {K : Params → PySem.W.Frag} {CX : World → CXT} {x : Str}
    (hn : l.most = some n) (hn2 : n ≤ sizeLine) (hdf : d.params.defaults = []) (hr : Room k callerA) (hY : ∀ (w : World) (h : Heap), YP w h → (K w.params).In h)
    (F : ∀ (w : World) (mg : Str → Option Value) (fa : Addr) (h : Heap), YP w h → (K w.params).In h → h.Ns mainGlobals mg → mg d.name = some (.ref fa) →
      (∀ d ∈ recsOf q, ∃ a o fd c P, mg d.name = some (.ref a) ∧ h.get? a = some o ∧ o.data = .func fd ∧ fd.code = .ref c ∧ h.IsCode c P #[] ∧ h.TableAt c P #[]) → LawAtS l w (K w.params) (CX w) k n x mg fa h)
    (hCX : ∀ (w : World) (H : Hp) (s : Shared) (e : Value) (s' : Shared), CX w [] H s (fun _ _ _ => False) e s' → False) :
    PySem.W.WalkO q loose XP YP l.row.toRowW d [] (fun f vs => PySem.call f vs) := by
  refine Att.attach_callB hn hdf fun w s₀ s₁ mg mb fa o pm cd doc a vs ns G Y ho hd hcd hmg hobj hints hlen hbits hg => ?_
  have KX := hY w _ Y
  obtain ⟨fd, cs, sp, hT, nT, C, hb, hsp, hF⟩ := F w mg fa _ Y KX G.T.g hmg G.T.tab
  exact law_callTs KX G.T.g G.T.b G.T.builtins G.T.nolimit hg hT nT C G.T.bmain hobj hints (Nat.le_trans hlen hn2) hr hF hb (fun H hH hS => hsp H a ns hlen hbits hH hS) fun H e s' => hCX w H s₁ e s'
end PD
namespace PD
open PySem PySem.Spec PyProof.Rows L2 LamX
theorem law_sp {K : PySem.W.Frag} {T : List Addr} {p : List PyData → Option PyData} {H : Hp} {a : Addr} {ns : List Int} {E : XK} (kt : ∀ b o, K.lookup b = some o → o.cls = .type "tuple" → PlT o) (hT : ∀ P ∈ T, H P = some (.tbl #[])) (h : SqL K H a (ns.map V.int)) (e : p [.list (ns.map PyData.int)] = some (.bool true)) : spP K T p [.ref a] H (fun v _ => v = .bl true) E := by
  have key : ∃ F : Hp, Same F H ∧ (∀ P ∈ T, F P = none) ∧ TF K F ∧ SqL K F a (ns.map V.int) := by
    have one : ∀ o, TFo o → (∀ ps, o ≠ .tbl ps) → H a = some o → Same (upd (fun _ => none) a o) H ∧ (∀ P ∈ T, upd (fun _ => none) a o P = none) ∧ TF K (upd (fun _ => none) a o) := fun o ho no hH => by
      refine ⟨fun b u z => ?_, fun P hP => ?_, fun b u z => ?_, kt⟩
      · by_cases hb : b = a
        · rw [hb, upd_same] at z
          rw [hb, hH, z]
        · rw [upd_ne hb] at z
          cases z
      · by_cases hb : P = a
        · rw [← hb, hT P hP] at hH
          cases hH
          exact absurd rfl (no _)
        · rw [upd_ne hb]
      · by_cases hb : b = a
        · rw [hb, upd_same] at z
          cases z
          exact ho
        · rw [upd_ne hb] at z
          cases z
    rcases h with (h | ⟨o, h⟩) | h
    · obtain ⟨h1, h2, h3⟩ := one (.lst (ns.map V.int)) trivial (fun _ => by simp) h
      exact ⟨_, h1, h2, h3, .inl (.inl upd_same)⟩
    · obtain ⟨h1, h2, h3⟩ := one (.frz o (.lst (ns.map V.int))) trivial (fun _ => by simp) h
      exact ⟨_, h1, h2, h3, .inl (.inr ⟨o, upd_same⟩)⟩
    · exact ⟨fun _ => none, (fun b u (z : (none : Option HO) = some u) => nomatch z), fun _ _ => rfl, ⟨(fun b u (z : (none : Option HO) = some u) => nomatch z), kt⟩, Or.inr h⟩
  obtain ⟨F, hF, fT, tf, hS⟩ := key
  refine ⟨F, [.list (ns.map PyData.int)], .bool true, .cons (.lst hS (ints_dpAll ns)) .nil, hF, fun P hP => ⟨fT P hP, ?_⟩, tf, e, fun v H' F' _ _ _ _ _ _ dv => ?_⟩
  · exact ⟨#[], hT P hP, by first | trivial | exact .nil | constructor⟩
  · cases dv
    rfl
/-- no tuple of the frame bears a dict -/
def ktB (K : PySem.W.Frag) : Bool := K.all fun p => !(match p.2.cls with | .type t => t == "tuple" | _ => false) || (p.2.dict.isNone && p.2.slots.isEmpty)
theorem kt_of {K : PySem.W.Frag} (h : ktB K = true) : ∀ b o, K.lookup b = some o → o.cls = .type "tuple" → PlT o := by
  unfold ktB at h
  induction K with
  | nil => intro b o e; cases e
  | cons q r ih =>
    intro b o e c
    rw [List.all_cons, Bool.and_eq_true] at h
    rw [List.lookup_cons] at e
    split at e
    · cases e
      have := h.1
      rw [c] at this
      simpa [PlT] using this
    · exact ih h.2 b o e c
end PD
namespace PD
open PySem PySem.Spec PyProof.Rows L2 LamX
theorem withDk {Z : Prop} {K : PySem.W.Frag} {h : Heap} {mg : Str → Option Value} {x : Str} {st : Stmt} {ps : List Str} {f : Addr} {oc kV doc pm cd ct : Value} {od an : Option Addr} {osl : Array (Option Value)} (X : K.In h) (G : h.Ns mainGlobals mg)
    (a : PySem.W.nsIn K mainGlobals x = some (some (.ref f))) (l : K.lookup f = some ⟨oc, od, .func (PySem.W.fnOf x x (defArgs st) (defBody st) (defScope st) .none kV doc pm an cd ct), osl⟩) (c : PySem.W.codeIn K cd x = true) (k : PySem.W.keepIn K (.ref f) = true)
    (b : ∀ (kV doc pm : Value) (an : Option Addr) (cdv ct : Value) (us : List Value), us.length = ps.length → bindArgs (PySem.W.fnOf x x (defArgs st) (defBody st) (defScope st) .none kV doc pm an cdv ct) ⟨us, []⟩ = pure (ps.zip us))
    (next : ∀ f fd, Dk K mg x st ps f fd → Z) : Z := by
  obtain ⟨f, fd, D⟩ := mkDk X G a l c k b
  exact next f fd D
theorem withDg {Z : Prop} {K : PySem.W.Frag} {h : Heap} {mg : Str → Option Value} {x : Str} {st : Stmt} {ps : List Str} {f cA Pt : Addr} {oc kV doc pm ct : Value} {od an : Option Addr} {osl : Array (Option Value)} {q : Program} {e : Value} {dd : Option Addr} {vs : Array Value} {sl : Array (Option Value)} (X : K.In h) (G : h.Ns mainGlobals mg)
    (tab : ∀ d ∈ recsOf q, ∃ a o fd c P, mg d.name = some (.ref a) ∧ h.get? a = some o ∧ o.data = .func fd ∧ fd.code = .ref c ∧ h.IsCode c P #[] ∧ h.TableAt c P #[]) (hrec : ((recsOf q).any fun e => e.name == x) = true)
    (a : PySem.W.nsIn K mainGlobals x = some (some (.ref f))) (l : K.lookup f = some ⟨oc, od, .func (PySem.W.fnOf x x (defArgs st) (defBody st) (defScope st) .none kV doc pm an (.ref cA) ct), osl⟩) (c : PySem.W.codeIn K (.ref cA) x = true) (k : PySem.W.keepIn K (.ref f) = true)
    (lc : K.lookup cA = some ⟨e, dd, .fields vs, sl⟩) (h11 : vs[11]? = some (.ref Pt)) (nP : K.lookup Pt = none)
    (b : ∀ (kV doc pm : Value) (an : Option Addr) (cdv ct : Value) (us : List Value), us.length = ps.length → bindArgs (PySem.W.fnOf x x (defArgs st) (defBody st) (defScope st) .none kV doc pm an cdv ct) ⟨us, []⟩ = pure (ps.zip us))
    (next : ∀ f fd cA Pt, Dg K mg x st ps f fd cA → h.get? Pt = some { cls := .none, data := .fields #[] } → K.lookup Pt = none → PySem.W.CodeHd h cA Pt → Z) : Z := by
  obtain ⟨f, fd, cA, Pt, D, t1, t2, t3⟩ := mkDg X G tab hrec a l c k lc h11 nP b
  exact next f fd cA Pt D t1 t2 t3
theorem Dk.bindsTo {K : PySem.W.Frag} {mg : Str → Option Value} {x : Str} {st : Stmt} {p : Str} {f : Addr} {fd : FuncData} (D : Dk K mg x st [p] f fd) (b : ∀ (kV doc pm : Value) (an : Option Addr) (cdv ct : Value) (u : Value), bindArgs (PySem.W.fnOf x x (defArgs st) (defBody st) (defScope st) .none kV doc pm an cdv ct) ⟨[u], []⟩ = pure [(p, u)]) :
    ∀ (s : Shared) (u : Value), BindsTo s fd ⟨[u], []⟩ [(p, u)] := fun s u => by
  obtain ⟨oc, od, kV, doc, pm, an, cdv, ct, osl, rfl, _⟩ := D.fn.ex
  exact .of_eq (b _ _ _ _ _ _ _)
end PD
namespace PD
open PySem PySem.Spec PyProof.Rows L2 LamX
theorem withC {Z : Prop} {K : PySem.W.Frag} {h : Heap} {mg : Str → Option Value} {x : Str} {v : Value} (X : K.In h) (G : h.Ns mainGlobals mg) (a : PySem.W.nsIn K mainGlobals x = some (some v)) (next : mg x = some v → Z) : Z := next (PySem.W.mg_of X G a)
end PD
namespace PD
open PySem PySem.Spec PyProof.Rows L2 LamX
theorem lawAtS_of {l : PySem.W.OpenLaw} {w : World} {K : PySem.W.Frag} {k n : Nat} {mg : Str → Option Value} {fa : Addr} {h : Heap} {fd : FuncData} (cs : List (Addr × Addr)) (p : List PyData → Option PyData) {x : Str} (kt : ktB K = true)
    (t1 : ∀ q ∈ cs, h.get? q.2 = some { cls := .none, data := .fields #[] }) (t2 : ∀ q ∈ cs, K.lookup q.2 = none) (t3 : ∀ q ∈ cs, PySem.W.CodeHd h q.1 q.2) (hb : ∀ (s : Shared) (u : Value), BindsTo s fd ⟨[u], []⟩ [(x, u)])
    (hm : ∀ ns : List Int, ns.length ≤ n → (∀ z ∈ ns, Builtin.Int.intBits z ≤ 1048576) → p [.list (ns.map PyData.int)] = some (.bool true))
    (hF : ∀ base : Heap, K.In base → base.Ns mainGlobals mg → (∀ q ∈ cs, GxR.TabB base mg q.1 q.2) → FnOk l.prog w K mg base CX0 k fa fd [x] (spP K (cs.map (·.2)) p)) : LawAtS l w K CX0 k n x mg fa h :=
  ⟨fd, cs, spP K (cs.map (·.2)) p, t1, t2, t3, hb, fun H a ns hl hbits hT hS => law_sp (kt_of kt) (fun P hP => by
    obtain ⟨q, hq, e⟩ := List.mem_map.mp hP
    rw [← e]
    exact hT q hq) hS (hm ns hl hbits), fun base KB GB hT => hF base KB GB fun q hq => ⟨(hT q hq).code, (hT q hq).bm, (hT q hq).gP⟩⟩
end PD
/-! Plain data: a written list times an int -/
namespace PD
open PySem PySem.Spec PyProof.Rows L2 GxR LG
end PD
/-! Plain data: xs.count(x) of a tuple, too -/
namespace PD
open PySem PySem.Spec PyProof.Rows L2 GxR LG
section
variable {X : Cx}
def rCntT (K : PySem.W.Frag) : V → List V → Hp → VK → Prop := fun x xs H Q => ∃ (p : Addr) (ns : List Int) (k : Int), x = .ref p ∧ xs = [.int k] ∧ SqT K H p (ns.map V.int) ∧ Q (.int (ns.count k : Nat)) H
theorem mt_tcount : MtR X "tuple.count" (rCntT X.K) := by
  intro pins s σ H x args v us Q I rx rxs h
  obtain ⟨tp, ns, k, rfl, rfl, hs, wish⟩ := h
  cases rx
  obtain ⟨u, rfl, ru⟩ := rxs.one
  obtain ⟨t, rfl⟩ := ru
  obtain ⟨vals, rv, ⟨⟨cls, dct, data, sl⟩, ho, hc, n, hd⟩, _⟩ := I.tuple hs
  replace hc : cls = .type "tuple" := hc
  replace hd : data = .seq vals.toArray n := hd
  subst hc hd
  have hi := ints_of_vals rv
  have many : vals.toArray.toList.countP (eqk k) = ns.count k := eqk_count hi
  refine call_meets PySem.F.slot_tuple_count ⟨_, ho, rfl⟩ PySem.F.entry_tuple_count (PySem.F.args_tuple_count_2 _ _)
    (SeqAt.tuple_countAt tp vals.toArray n dct sl (.int k t) (eqk k)) ⟨ho, fun y hy => (eqk_gives hi y (by simpa using hy)).at _ _, ?_⟩
  refine ⟨.int (ns.count k : Nat), H, I.tok _, ⟨s.toks, ?_⟩, wish⟩
  rw [many]
end
/-- a tuple that is known to bear no dict -/
def TupD (K : PySem.W.Frag) (H : Hp) (a : Addr) : Prop := (∃ o vs, H a = some (.frz o (.tup vs)) ∧ PlT o) ∨ ∃ o, K.lookup a = some o ∧ o.cls = .type "tuple" ∧ PlT o
theorem TupD.is {X : Cx} {pins : List (Addr × Obj)} {σ : L2.St} {H : Hp} {s : Shared} {a : Addr} (I : Inv X pins σ H s) (h : TupD X.K H a) :
    s.TypeIs (.ref a) "tuple" ∧ ∃ o, s.heap.get? a = some o ∧ o.dict = none := by
  rcases h with ⟨o, vs, e, d⟩ | ⟨o, e, c, d⟩
  · obtain ⟨e1, _, us, _, pt⟩ := (show ObjOk X.prog X.w H s.heap a (.frz o (.tup vs)) from I.hok a _ e)
    exact ⟨pt.typeIs, o, e1, d.1⟩
  · have e1 := I.kIn a o e
    exact ⟨⟨o, e1, c⟩, o, e1, d.1⟩
/-- a method of a tuple -/
def tTM (K : PySem.W.Frag) (r : V → List V → Hp → VK → Prop) (to : TE) (t : TA) : TE := fun σ H Q => to σ H fun x H1 => (∃ a, x = .ref a ∧ TupD K H1 a) ∧ t σ H1 fun vs H2 => r x vs H2 Q
theorem pe_tm {X : Cx} {o e : Expr} {to : TE} {t : TA} {name : Str} {apos cpos : Pos} {id : String} {r : V → List V → Hp → VK → Prop} (slot : Slot "tuple" name id) (hty : typeOf (.builtin id) = pure (.type "method_descriptor")) (hm : MtR X id r) (ho : PE X o to) (ha : PA X [e] t)
    (hb : attributeBase o name X.env (eval o X.env) = eval o X.env := by rfl)
    (hf : ((backTo cpos (starEach [e] X.env)).all (fun x => !x.1) && (backToKw cpos (keywordEach [] X.env)).all (fun x => x.1.isSome)
      && decide ([e].length + ([] : List Keyword).length + (if ([] : List Keyword).isEmpty then 0 else 1) < 30)) = true := by rfl)
    (hl : (apos.endLine == cpos.line) = true := by rfl) (hs : starEach [e] X.env = (false, eval e X.env) :: starEach [] X.env := by rfl) (hp : (backTo cpos (starEach [] X.env)).any (·.1) = false := by rfl) :
    PE X (.Call (.Attribute o name apos) [e] [] cpos) (tTM X.K r to t) := by
  refine ⟨fun pins s σ H Q I h => ?_⟩
  refine wpAny_Call_method_late hb hf hl rfl (thn (ho.run pins s σ H _ I h) fun v s1 ⟨x, H1, I1, r1, ⟨a, ex, td⟩, q1⟩ => ?_)
  subst ex
  cases r1
  obtain ⟨h1, ob, h2, h3⟩ := td.is I1
  refine ⟨"tuple", id, PySem.F.plainAttrs_tuple, slot, hty, h1, fun b eb => ?_, ?_⟩
  · cases eb
    exact ⟨ob, h2, h3⟩
  · have args := ha.run cpos pins s1 σ H1 _ I1 q1
    rw [hs] at args ⊢
    refine Calls.callWith_builtin (by show (false || (backTo cpos (starEach [] X.env)).any (·.1)) = false; rw [hp] <;> rfl) (Calls.evalArgs_plain ?_)
    exact thn args fun us s2 ⟨vs, H2, I2, r2, q2⟩ => hm pins s2 σ H2 (.ref a) vs _ us Q I2 rfl r2 q2
def fCountT : PyData → PyData → Option PyData
  | .tuple ds, .int k => match intsOf ds with
    | some ns => some (.int (ns.count k : Nat))
    | none => none
  | _, _ => none
/-- a method of a tuple, one argument -/
def sM1T (f : PyData → PyData → Option PyData) (fo fa : SE) : SE := fun ρ => match fo ρ with
  | none => none
  | some (u, ρ1) => match res ρ1 u with
    | some (.tuple _) => match fa ρ1 with
      | none => none
      | some (v, ρ2) => match res ρ2 u, res ρ2 v with
        | some d, some e => (f d e).map fun z => (.d z, ρ2)
        | _, _ => none
    | _ => none
section
variable {c : Co} {X : Cx}
theorem eo_m1T {o ce : Expr} {fo fa : SE} {r : V → List V → Hp → VK → Prop} {f : PyData → PyData → Option PyData} (hK : X.K = c.K) (h : ∀ {to te : TE}, PE X o to → PE X e te → PE X ce (tTM X.K r to (tCons te tNil))) (hl : L1M c.K r f) (ho : EO c X o fo) (he : EO c X e fa) : EO c X ce (sM1T f fo fa) := by
  refine ⟨pe_imp (h ho.pe he.pe) fun σ H Q ⟨F, ρ, x, ρ', R, q, k⟩ => ?_⟩
  unfold sM1T at q
  cases h1 : fo ρ with
  | none => rw [h1] at q; cases q
  | some p =>
    obtain ⟨u, ρ1⟩ := p
    rw [h1] at q
    dsimp only at q
    split at q
    · rename_i ds0 h2
      cases h3 : fa ρ1 with
      | none => rw [h3] at q; cases q
      | some p =>
        obtain ⟨v, ρ2⟩ := p
        rw [h3] at q
        dsimp only at q
        cases h4 : res ρ2 u with
        | none => rw [h4] at q; cases q
        | some d =>
          cases h5 : res ρ2 v with
          | none => rw [h4, h5] at q; cases q
          | some d' =>
            rw [h4, h5] at q
            dsimp only at q
            cases h6 : f d d' with
            | none => rw [h6] at q; cases q
            | some z =>
              rw [h6] at q
              cases q
              refine ⟨F, ρ, u, ρ1, R, h1, fun xv H1 F1 s1 R1 o1 => ?_⟩
              have td : ∃ a, xv = .ref a ∧ TupD X.K H1 a := by
                rw [hK]
                rcases R1.vw o1 h2 with z | ⟨_, _, _, _, z, _⟩ | ⟨_, _, _, _, z, _⟩
                · cases z with
                  | tup hq _ =>
                    refine ⟨_, rfl, ?_⟩
                    rcases R1.tf.dict hq with ⟨ob, z1, z2⟩ | z1
                    · exact .inl ⟨ob, _, R1.sub _ _ z1, z2⟩
                    · exact .inr z1
                · cases z
                · cases z
              refine ⟨td, F1, ρ1, v, _, R1, h3, fun yv H2 F2 s2 R2 o2 => ?_⟩
              exact hl F2 H2 _ yv d d' z Q R2.sub (R2.vw (o1.same s2) h4) (R2.vw o2 h5) h6 fun w F3 H3 xt dz => k w H3 F3 (s1.trans (s2.trans xt.f)) (R2.xt xt) dz
    · cases q
theorem l1_countT {K : PySem.W.Frag} : L1M K (rCntT K) fCountT := by
  intro F H x y d e z Q s hx hy hf k
  unfold fCountT at hf
  split at hf
  · rename_i ds j
    split at hf
    · rename_i ns e1
      cases hf
      obtain ⟨a, vs, rfl, ha, hd⟩ := hx.tup s
      rw [intsOf_eq e1] at hd
      have hv := dpAll_ints hd
      subst hv
      refine ⟨a, ns, j, rfl, by rw [hy.int], ha, k _ F H (Xt.refl s) (.int _)⟩
    · cases hf
  · cases hf
/-- one or the other -/
def sOrE (f g : SE) : SE := fun ρ => match f ρ with
  | some r => some r
  | none => g ρ
theorem eo_or2 {e : Expr} {f g : SE} (hf : EO c X e f) (hg : EO c X e g) : EO c X e (sOrE f g) := by
  have h1 := hf.pe
  have h2 := hg.pe
  refine ⟨⟨fun pins s σ H Q I ⟨F, ρ, x, ρ', R, q, k⟩ => ?_⟩⟩
  unfold sOrE at q
  cases e1 : f ρ with
  | none =>
    rw [e1] at q
    exact h2.run pins s σ H Q I ⟨F, ρ, x, ρ', R, q, k⟩
  | some r =>
    rw [e1] at q
    cases q
    exact h1.run pins s σ H Q I ⟨F, ρ, x, ρ', R, e1, k⟩
end
end PD
/-! Plain data: x += e, -e, comb, perm, factorial, gcd, defs with defaults -/
namespace PD
open PySem PySem.Spec PyProof.Rows L2 GxR LG
/-! ### math -/
/-! ### -e -/
/-! ### a def with defaults, all of its arguments given -/
structure Dd (K : PySem.W.Frag) (mg : Str → Option Value) (x : Str) (st : Stmt) (ps : List Str) (f : Addr) (fd : FuncData) (dvs : List V) : Prop where
  ex : ∃ (oc : Value) (od : Option Addr) (dV kV doc pm : Value) (an : Option Addr) (cdv ct : Value) (osl : Array (Option Value)),
    fd = PySem.W.fnOf x x (defArgs st) (defBody st) (defScope st) dV kV doc pm an cdv ct ∧ K.lookup f = some ⟨oc, od, .func fd, osl⟩ ∧ PySem.W.codeIn K cdv x = true
  kp : PySem.W.keepIn K (.ref f) = true
  mg : mg x = some (.ref f)
  b : Binds K fd ps []
  bd : ∃ ds, Vals dvs ds ∧ Binds K fd ps ds
theorem Dd.pure {K : PySem.W.Frag} {T : List Addr} {P : Program} {w : World} {mg : Str → Option Value} {base : Heap} {x : Str} {st : Stmt} {ps : List Str} {f : Addr} {fd : FuncData} {N : List Str} {k : Nat} {dvs : List V} (D : Dd K mg x st ps f fd dvs) (S : FnScope N ps (defScope st)) (g : SS) (hnp : ps.length ≤ N.length)
    (hb : ∀ (cdv : Value) (A : Around) (outer : List Env) (s : Shared) (H : Hp) (E : XK) (H0 F0 : Hp) (io : List Addr), Room k (A.deeper (envOfC x (defScope st) s.heap.objs.size f cdv)) →
      ESs ⟨K, T, H0, F0, io, []⟩ (cxOf CX0 P w K mg base N x (defScope st) f cdv A outer s H E).nox (defBody st) g) :
    FnOk P w K mg base CX0 (k + 1) f fd ps (spP K T (fun ds => if ds.length = ps.length then bodyP g N.length ds else none)) := by
  obtain ⟨oc, od, dV, kV, doc, pm, an, cdv, ct, osl, rfl, l, cd⟩ := D.ex
  exact fn_pureC l cd S g hnp (hb cdv)
end PD
/-! Plain data: isinstance of two classes, x.extend(t), a def that calls itself -/
namespace PD
open PySem PySem.Spec PyProof.Rows L2 GxR LG
end PD
/-! zip of two sequences, each a tuple or a list -/
namespace ZIP
open PySem PySem.Spec PyProof.Rows L2
/-- the class of a sequence, and of what walks it: a tuple (true), a list (false) -/
def nm : Bool → String | true => "tuple" | false => "list"
def nmI : Bool → String | true => "tuple_iterator" | false => "list_iterator"
def SeqK (k : Bool) (h : Heap) (a : Addr) (items : Array Value) : Prop := ∃ o, h.get? a = some o ∧ o.cls = .type (nm k) ∧ ∃ n, o.data = .seq items n
def ItrK (k : Bool) (h : Heap) (a l : Addr) (i : Nat) : Prop := ∃ o, h.get? a = some o ∧ o.cls = .type (nmI k) ∧ o.data = .fields #[.ref l, .int i 0]
theorem SeqK.at {k : Bool} {h h' : Heap} {a : Addr} {items : Array Value} (x : SeqK k h a items) (e : ∀ o, h.get? a = some o → h'.get? a = some o) : SeqK k h' a items := let ⟨o, ho, r⟩ := x; ⟨o, e _ ho, r⟩
theorem ItrK.at {k : Bool} {h h' : Heap} {a l : Addr} {i : Nat} (x : ItrK k h a l i) (e : ∀ o, h.get? a = some o → h'.get? a = some o) : ItrK k h' a l i := let ⟨o, ho, r⟩ := x; ⟨o, e _ ho, r⟩
theorem SeqK.ext {k : Bool} {h h' : Heap} {a b : Addr} {items : Array Value} (x : SeqK k h a items) (hs : Heap.ExtBut b h h') (n : a ≠ b) : SeqK k h' a items := x.at fun _ e => hs _ _ n e
theorem ItrK.ext {k : Bool} {h h' : Heap} {a b l : Addr} {i : Nat} (x : ItrK k h a l i) (hs : Heap.ExtBut b h h') (n : a ≠ b) : ItrK k h' a l i := x.at fun _ e => hs _ _ n e
theorem ItrK.lt {k : Bool} {h : Heap} {a l : Addr} {i : Nat} (x : ItrK k h a l i) : a < h.objs.size := let ⟨_, ho, _⟩ := x; Heap.lt_size ho
theorem SeqK.lt {k : Bool} {h : Heap} {a : Addr} {items : Array Value} (x : SeqK k h a items) : a < h.objs.size := let ⟨_, ho, _⟩ := x; Heap.lt_size ho
section
variable {prog : Program} {w : World} {A : Around} {E : Value → Shared → Prop} {s : Shared}
theorem next_item {it l : Addr} {i : Nat} {items : Array Value} {x : Value} {Q : Value → Shared → Prop} : ∀ {k : Bool}, ItrK k s.heap it l i → SeqK k s.heap l items → items[i]? = some x →
    (∀ h', ItrK k h' it l (i + 1) → Heap.SameBut it s.heap h' → Q x { s with heap := h' }) → wpAny (model prog w) A (Builtin.SmallTypes.nextOf (.ref it)) Q E s
  | true, hit, hl, hx, hQ => RZ.nextOf_tuple_item hit hl hx hQ
  | false, hit, hl, hx, hQ => wpAny_nextOf_list_item hit hl hx hQ
theorem next_end {it l : Addr} {i : Nat} {items : Array Value} {Q : Value → Shared → Prop} (hh : A.handled = none) : ∀ {k : Bool}, ItrK k s.heap it l i → SeqK k s.heap l items → items[i]? = none →
    (∀ h' e, Heap.ExtBut it s.heap h' → (∃ o, h'.get? e = some o ∧ o.cls = .type "StopIteration") → E (.ref e) { s with heap := h' }) → wpAny (model prog w) A (Builtin.SmallTypes.nextOf (.ref it)) Q E s
  | true, hit, hl, hx, hE => RZ.nextOf_tuple_end hh hit hl hx hE
  | false, hit, hl, hx, hE => wpAny_nextOf_list_end hh hit hl hx hE
theorem zip_item {k1 k2 : Bool} {z TI TO i1 i2 l1 l2 : Addr} {n1 n2 : Nat} {xs ys : Array Value} {x y a b : Value} {Q : Value → Shared → Prop} (D : ZipApart z TI TO i1 i2 l1 l2)
    (hz : IsZip s.heap z TI TO .none) (hTI : IsPair s.heap TI (.ref i1) (.ref i2)) (hTO : IsPair s.heap TO a b)
    (h1 : ItrK k1 s.heap i1 l1 n1) (h2 : ItrK k2 s.heap i2 l2 n2) (q1 : SeqK k1 s.heap l1 xs) (q2 : SeqK k2 s.heap l2 ys) (hx : xs[n1]? = some x) (hy : ys[n2]? = some y)
    (hQ : ∀ h', IsZip h' z TI TO (rawInt s.heap.objs.size) → IsPair h' TO x y → ItrK k1 h' i1 l1 (n1 + 1) → ItrK k2 h' i2 l2 (n2 + 1) → IsPair h' s.heap.objs.size x y → h'.objs.size = s.heap.objs.size + 1 →
      (∀ c o, c ≠ z → c ≠ TO → c ≠ i1 → c ≠ i2 → s.heap.get? c = some o → h'.get? c = some o) → Q (.ref s.heap.objs.size) { s with heap := h' }) :
    wpAny (model prog w) A (Builtin.«zip.__next__» ⟨[.ref z], []⟩) (fun fin s' => ∃ v, fin = .done (.ret v) ∧ Q v s') E s := by
  show wpAny _ _ (field (.ref z) 2 >>= _) _ _ _
  refine wpAny_bind (wpAny_field hz rfl (x := .bool false) rfl ?_)
  show wpAny _ _ (field (.ref z) 3 >>= _) _ _ _
  refine wpAny_bind (wpAny_field hz rfl (x := .ref TI) rfl (wpAny_bind (wpAny_seqItems hTI rfl ?_)))
  show wpAny _ _ (Builtin.SmallTypes.ownedTupleIsFree (.ref z) >>= _) _ _ _
  refine wpAny_bind ?_
  unfold Builtin.SmallTypes.ownedTupleIsFree
  refine wpAny_bind (wpAny_field hz rfl (x := .none) rfl (wpAny_pure ?_))
  simp only [if_true]
  refine wpAny_bind (wpAny_rule (wpAny_bind (wpAny_field hz rfl (x := .ref TO) rfl (wpAny_bind (wpAny_setField_rec hz (by simp) fun Ha za sa => ?_)))))
  replace za : IsZip Ha z TI TO .ellipsis := za
  refine wpAny_bind ?_
  simp only [List.zipIdx_cons, List.zipIdx_nil, List.forIn_cons, List.forIn_nil]
  refine wpAny_bind (wpAny_bind (wpAny_onRaise ?_))
  show wpAny _ _ (Builtin.SmallTypes.nextOf (.ref i1) >>= _) _ _ _
  refine wpAny_bind (next_item (h1.ext sa.extBut D.i1z) (q1.ext sa.extBut D.l1z) hx fun Hb ib sb => wpAny_pure ?_)
  have ob : IsPair Hb TO a b := sb.extBut _ _ D.TOi1 (sa.extBut _ _ D.TOz hTO)
  refine wpAny_bind (wpAny_seqItems ob rfl (wpAny_bind (wpAny_updateSeq_pair ob fun Hc oc sc => ?_)))
  replace oc : IsPair Hc TO x b := oc
  refine wpAny_bind (wpAny_letGo (wpAny_pure (wpAny_bind (wpAny_bind (wpAny_onRaise ?_)))))
  show wpAny _ _ (Builtin.SmallTypes.nextOf (.ref i2) >>= _) _ _ _
  refine wpAny_bind (next_item (((h2.ext sa.extBut D.i2z).ext sb.extBut D.i12.symm).ext sc.extBut D.TOi2.symm)
    (((q2.ext sa.extBut D.l2z).ext sb.extBut D.l2i1).ext sc.extBut D.l2TO) hy fun Hd id_ sd => wpAny_pure ?_)
  have od : IsPair Hd TO x b := sd.extBut _ _ D.TOi2 oc
  refine wpAny_bind (wpAny_seqItems od rfl (wpAny_bind (wpAny_updateSeq_pair od fun He oe se => ?_)))
  replace oe : IsPair He TO x y := oe
  refine wpAny_bind (wpAny_letGo (wpAny_pure (wpAny_pure (wpAny_bind (wpAny_seqItems oe rfl (wpAny_bind (wpAny_newTuple ?_)))))))
  have size : He.objs.size = s.heap.objs.size := by rw [se.1, sd.1, sc.1, sb.1, sa.1]
  have ze : IsZip He z TI TO .ellipsis := se.extBut _ _ D.TOz.symm (sd.extBut _ _ D.i2z.symm (sc.extBut _ _ D.TOz.symm (sb.extBut _ _ D.i1z.symm za)))
  have keep : ∀ c o, c ≠ z → c ≠ TO → c ≠ i1 → c ≠ i2 → s.heap.get? c = some o → He.get? c = some o := fun c o c1 c2 c3 c4 e =>
    se.extBut _ _ c2 (sd.extBut _ _ c4 (sc.extBut _ _ c2 (sb.extBut _ _ c3 (sa.extBut _ _ c1 e))))
  have ie : ItrK k1 He i1 l1 (n1 + 1) := ((ib.ext sc.extBut D.TOi1.symm).ext sd.extBut D.i12).ext se.extBut D.TOi1.symm
  have je : ItrK k2 He i2 l2 (n2 + 1) := id_.ext se.extBut D.TOi2.symm
  have zlt : z < He.objs.size := Heap.lt_size ze
  show wpAny _ _ (Builtin.SmallTypes.ownedTupleHandOut (.ref z) (.ref He.objs.size) >>= _) _ _ _
  refine wpAny_bind ?_
  unfold Builtin.SmallTypes.ownedTupleHandOut
  have zf : IsZip (He.push { cls := .type "tuple", data := .seq #[x, y] }) z TI TO .ellipsis := Heap.get?_push_of_some _ ze
  refine wpAny_bind (wpAny_setField_rec zf (by simp) fun Hg zg sg => ?_)
  replace zg : IsZip Hg z TI TO (rawInt He.objs.size) := zg
  refine wpAny_setField_rec zg (by simp) fun Hh zh sh => ?_
  replace zh : IsZip Hh z TI TO (rawInt He.objs.size) := zh
  have up : ∀ c o, c ≠ z → He.get? c = some o → Hh.get? c = some o := fun c o c1 e => sh.extBut _ _ c1 (sg.extBut _ _ c1 (Heap.get?_push_of_some _ e))
  have tH : IsPair Hh He.objs.size x y := sh.extBut _ _ (Nat.ne_of_gt zlt) (sg.extBut _ _ (Nat.ne_of_gt zlt) (Heap.get?_push_size _ rfl))
  have zs : Hh.objs.size = He.objs.size + 1 := by rw [sh.1, sg.1, Heap.size_push]
  rw [size] at zh tH zs
  refine wpAny_pure ⟨_, rfl, ?_⟩
  show Q (.ref He.objs.size) _
  rw [size]
  exact hQ Hh zh (up _ _ D.TOz oe) (ie.at fun o e => up _ o D.i1z e) (je.at fun o e => up _ o D.i2z e) tH zs fun c o c1 c2 c3 c4 e => up c o c1 (keep c o c1 c2 c3 c4 e)
theorem zip_end {k1 k2 : Bool} {z TI TO i1 i2 l1 l2 : Addr} {n1 n2 : Nat} {xs ys : Array Value} {a b : Value} {Q : Fin → Shared → Prop} (hh : A.handled = none) (D : ZipApart z TI TO i1 i2 l1 l2)
    (hz : IsZip s.heap z TI TO .none) (hTI : IsPair s.heap TI (.ref i1) (.ref i2)) (hTO : IsPair s.heap TO a b)
    (h1 : ItrK k1 s.heap i1 l1 n1) (h2 : ItrK k2 s.heap i2 l2 n2) (q1 : SeqK k1 s.heap l1 xs) (q2 : SeqK k2 s.heap l2 ys) (hend : xs[n1]? = none ∨ ys[n2]? = none)
    (hE : ∀ h' e, (∀ c o, c ≠ z → c ≠ TO → c ≠ i1 → c ≠ i2 → s.heap.get? c = some o → h'.get? c = some o) → (∃ o, h'.get? e = some o ∧ o.cls = .type "StopIteration") → E (.ref e) { s with heap := h' }) :
    wpAny (model prog w) A (Builtin.«zip.__next__» ⟨[.ref z], []⟩) Q E s := by
  show wpAny _ _ (field (.ref z) 2 >>= _) _ _ _
  refine wpAny_bind (wpAny_field hz rfl (x := .bool false) rfl ?_)
  show wpAny _ _ (field (.ref z) 3 >>= _) _ _ _
  refine wpAny_bind (wpAny_field hz rfl (x := .ref TI) rfl (wpAny_bind (wpAny_seqItems hTI rfl ?_)))
  show wpAny _ _ (Builtin.SmallTypes.ownedTupleIsFree (.ref z) >>= _) _ _ _
  refine wpAny_bind ?_
  unfold Builtin.SmallTypes.ownedTupleIsFree
  refine wpAny_bind (wpAny_field hz rfl (x := .none) rfl (wpAny_pure ?_))
  simp only [if_true]
  refine wpAny_bind (wpAny_rule (wpAny_bind (wpAny_field hz rfl (x := .ref TO) rfl (wpAny_bind (wpAny_setField_rec hz (by simp) fun Ha za sa => ?_)))))
  replace za : IsZip Ha z TI TO .ellipsis := za
  refine wpAny_bind ?_
  simp only [List.zipIdx_cons, List.zipIdx_nil, List.forIn_cons, List.forIn_nil]
  refine wpAny_bind (wpAny_bind (wpAny_onRaise ?_))
  show wpAny _ _ (Builtin.SmallTypes.nextOf (.ref i1) >>= _) _ _ _
  cases hx : xs[n1]? with
  | none =>
    refine wpAny_bind (next_end hh (h1.ext sa.extBut D.i1z) (q1.ext sa.extBut D.l1z) hx fun Hb e sb he => ?_)
    obtain ⟨oe, hoe, hce⟩ := he
    have zb : IsZip Hb z TI TO .ellipsis := sb _ _ D.i1z.symm za
    have ne : e ≠ z := fun x => by subst x; rw [zb] at hoe; cases hoe; simp at hce
    exact wpAny_setField_rec zb (by simp) fun Hc _ sc => hE Hc e (fun c o c1 _ c3 _ x => sc.extBut _ _ c1 (sb _ _ c3 (sa.extBut _ _ c1 x))) ⟨oe, sc.extBut _ _ ne hoe, hce⟩
  | some x =>
    have hy : ys[n2]? = none := by rcases hend with h | h; rw [hx] at h; cases h; exact h
    refine wpAny_bind (next_item (h1.ext sa.extBut D.i1z) (q1.ext sa.extBut D.l1z) hx fun Hb ib sb => wpAny_pure ?_)
    have ob : IsPair Hb TO a b := sb.extBut _ _ D.TOi1 (sa.extBut _ _ D.TOz hTO)
    refine wpAny_bind (wpAny_seqItems ob rfl (wpAny_bind (wpAny_updateSeq_pair ob fun Hc oc sc => ?_)))
    refine wpAny_bind (wpAny_letGo (wpAny_pure (wpAny_bind (wpAny_bind (wpAny_onRaise ?_)))))
    show wpAny _ _ (Builtin.SmallTypes.nextOf (.ref i2) >>= _) _ _ _
    refine wpAny_bind (next_end hh (((h2.ext sa.extBut D.i2z).ext sb.extBut D.i12.symm).ext sc.extBut D.TOi2.symm)
      (((q2.ext sa.extBut D.l2z).ext sb.extBut D.l2i1).ext sc.extBut D.l2TO) hy fun Hd e sd he => ?_)
    obtain ⟨oe, hoe, hce⟩ := he
    have zd : IsZip Hd z TI TO .ellipsis := sd _ _ D.i2z.symm (sc.extBut _ _ D.TOz.symm (sb.extBut _ _ D.i1z.symm za))
    have ne : e ≠ z := fun x => by subst x; rw [zd] at hoe; cases hoe; simp at hce
    exact wpAny_setField_rec zd (by simp) fun He _ se => hE He e (fun c o c1 c2 c3 c4 x => se.extBut _ _ c1 (sd _ _ c4 (sc.extBut _ _ c2 (sb.extBut _ _ c3 (sa.extBut _ _ c1 x))))) ⟨oe, se.extBut _ _ ne hoe, hce⟩
theorem py_item {k1 k2 : Bool} {z TI TO i1 i2 l1 l2 : Addr} {n1 n2 : Nat} {xs ys : Array Value} {x y a b : Value} {Q : Option Value → Shared → Prop} (D : ZipApart z TI TO i1 i2 l1 l2)
    (hz : IsZip s.heap z TI TO .none) (hTI : IsPair s.heap TI (.ref i1) (.ref i2)) (hTO : IsPair s.heap TO a b)
    (h1 : ItrK k1 s.heap i1 l1 n1) (h2 : ItrK k2 s.heap i2 l2 n2) (q1 : SeqK k1 s.heap l1 xs) (q2 : SeqK k2 s.heap l2 ys) (hx : xs[n1]? = some x) (hy : ys[n2]? = some y)
    (hQ : ∀ h', IsZip h' z TI TO (rawInt s.heap.objs.size) → IsPair h' TO x y → ItrK k1 h' i1 l1 (n1 + 1) → ItrK k2 h' i2 l2 (n2 + 1) → IsPair h' s.heap.objs.size x y → h'.objs.size = s.heap.objs.size + 1 →
      (∀ c o, c ≠ z → c ≠ TO → c ≠ i1 → c ≠ i2 → s.heap.get? c = some o → h'.get? c = some o) → Q (some (.ref s.heap.objs.size)) { s with heap := h' }) :
    wpAny (model prog w) A (pyNext (.ref z)) Q E s := by
  have hT : s.TypeIs (.ref z) "zip" := ⟨_, hz, rfl⟩
  unfold pyNext
  exact wpAny_bind (wpAny_attempt (wpAny_callSpecial?_slot (name := Str.ofString "__next__") hT F.slot_zip_next
    (wpAny_call_entry F.slot_zip_next hT F.entry_zip_next
      (zip_item D hz hTI hTO h1 h2 q1 q2 hx hy fun h' a1 a2 a3 a4 a5 a6 a7 => wpAny_pure (hQ h' a1 a2 a3 a4 a5 a6 a7)) (F.args_zip_next_1 _))))
theorem py_end {k1 k2 : Bool} {z TI TO i1 i2 l1 l2 : Addr} {n1 n2 : Nat} {xs ys : Array Value} {a b : Value} {Q : Option Value → Shared → Prop} (hh : A.handled = none) (D : ZipApart z TI TO i1 i2 l1 l2)
    (hz : IsZip s.heap z TI TO .none) (hTI : IsPair s.heap TI (.ref i1) (.ref i2)) (hTO : IsPair s.heap TO a b)
    (h1 : ItrK k1 s.heap i1 l1 n1) (h2 : ItrK k2 s.heap i2 l2 n2) (q1 : SeqK k1 s.heap l1 xs) (q2 : SeqK k2 s.heap l2 ys) (hend : xs[n1]? = none ∨ ys[n2]? = none)
    (hQ : ∀ h', (∀ c o, c ≠ z → c ≠ TO → c ≠ i1 → c ≠ i2 → s.heap.get? c = some o → h'.get? c = some o) → Q none { s with heap := h' }) : wpAny (model prog w) A (pyNext (.ref z)) Q E s := by
  have hT : s.TypeIs (.ref z) "zip" := ⟨_, hz, rfl⟩
  unfold pyNext
  refine wpAny_bind (wpAny_attempt (wpAny_callSpecial?_slot (name := Str.ofString "__next__") hT F.slot_zip_next
    (wpAny_call_entry F.slot_zip_next hT F.entry_zip_next (zip_end hh D hz hTI hTO h1 h2 q1 q2 hend fun h' e hk he => ?_) (F.args_zip_next_1 _))))
  obtain ⟨o, ho, hc⟩ := he
  exact wpAny_bind (wpAny_isInstance (T := "StopIteration") (b := true) ⟨o, ho, hc⟩ isSubtype_stop (wpAny_pure (hQ _ hk)))
end
abbrev hp1 (k1 : Bool) (h : Heap) (l1 : Addr) : Heap := h.push { cls := .type (nmI k1), data := .fields #[.ref l1, .int 0 0] }
abbrev hp2 (k1 k2 : Bool) (h : Heap) (l1 l2 : Addr) : Heap := (hp1 k1 h l1).push { cls := .type (nmI k2), data := .fields #[.ref l2, .int 0 0] }
abbrev hp3 (k1 k2 : Bool) (h : Heap) (l1 l2 : Addr) : Heap := (hp2 k1 k2 h l1 l2).push { cls := .type "tuple", data := .seq #[.ref h.objs.size, .ref (hp1 k1 h l1).objs.size] }
abbrev hp4 (k1 k2 : Bool) (h : Heap) (l1 l2 : Addr) : Heap := (hp3 k1 k2 h l1 l2).push { cls := .type "tuple", data := .seq #[.none, .none] }
abbrev hp5 (k1 k2 : Bool) (h : Heap) (l1 l2 : Addr) : Heap := (hp4 k1 k2 h l1 l2).push { cls := .type "zip", data := .fields #[.none, .bool false, .bool false, .ref (hp2 k1 k2 h l1 l2).objs.size, .ref (hp3 k1 k2 h l1 l2).objs.size] }
theorem meets_mixed (l1 l2 : Addr) (xs ys : Array Value) :
    Meets (Builtin.«zip.__new__» ⟨[.type "zip", .ref l1, .ref l2], []⟩) (fun _ R s => s.heap.IsTuple l1 xs ∧ s.heap.IsList l2 ys ∧
      R (.ok (.ret (.ref (hp4 true false s.heap l1 l2).objs.size))) { s with heap := hp5 true false s.heap l1 l2 }) :=
  .of_wp fun prog w A R s h => by
    obtain ⟨hp, g, d, tk, os⟩ := s; obtain ⟨hl1, hl2, h⟩ := h
    have hsub := sub_zip
    have hL1 : Heap.IsTuple (Shared.heap ⟨hp, g, d, tk, os⟩) l1 xs := hl1
    have hL2 : Heap.IsList (Shared.heap ⟨hp.push { cls := .type "tuple_iterator", data := .fields #[.ref l1, .int 0 0] }, g, d, tk, os⟩) l2 ys := Heap.IsList.push hl2 _
    wp_walk using wpAny_pyIter_tuple hL1, wpAny_pyIter_list hL2
    exact ⟨_, rfl, h⟩
section
variable {prog : Program} {w : World} {A : Around} {E : Value → Shared → Prop} {s : Shared}
theorem call_mixed {l1 l2 : Addr} {xs ys : Array Value} {Q : Value → Shared → Prop} (q1 : s.heap.IsTuple l1 xs) (q2 : s.heap.IsList l2 ys)
    (h : ∀ h', IsZip h' (s.heap.objs.size + 4) (s.heap.objs.size + 2) (s.heap.objs.size + 3) .none → IsPair h' (s.heap.objs.size + 2) (.ref s.heap.objs.size) (.ref (s.heap.objs.size + 1)) →
      IsPair h' (s.heap.objs.size + 3) .none .none → h'.IsTupleIter s.heap.objs.size l1 0 → h'.IsListIter (s.heap.objs.size + 1) l2 0 →
      (∀ c o, s.heap.get? c = some o → h'.get? c = some o) → Q (.ref (s.heap.objs.size + 4)) { s with heap := h' }) :
    wpAny (model prog w) A (call (.type "zip") [.ref l1, .ref l2]) Q E s := by
  refine callType_new F.called_zip (by decide) (F.typeCall_zip_2 _ _) (F.newCall_zip_2 _ _) (fun obj => F.args_object_init_3 obj _ _) F.entry_zip_new
    (meets_mixed l1 l2 xs ys) ⟨q1, q2, ?_⟩
  have s1 : (hp1 true s.heap l1).objs.size = s.heap.objs.size + 1 := Heap.size_push ..
  have s2 : (hp2 true false s.heap l1 l2).objs.size = s.heap.objs.size + 2 := by rw [Heap.size_push, s1]
  have s3 : (hp3 true false s.heap l1 l2).objs.size = s.heap.objs.size + 3 := by rw [Heap.size_push, s2]
  have s4 : (hp4 true false s.heap l1 l2).objs.size = s.heap.objs.size + 4 := by rw [Heap.size_push, s3]
  have g1 : (hp5 true false s.heap l1 l2).get? s.heap.objs.size = some _ := Heap.get?_push_of_some _ (Heap.get?_push_of_some _ (Heap.get?_push_of_some _ (Heap.get?_push_of_some _ (Heap.get?_push_size _ rfl))))
  have g2 : (hp5 true false s.heap l1 l2).get? (hp1 true s.heap l1).objs.size = some _ := Heap.get?_push_of_some _ (Heap.get?_push_of_some _ (Heap.get?_push_of_some _ (Heap.get?_push_size _ rfl)))
  have g3 : (hp5 true false s.heap l1 l2).get? (hp2 true false s.heap l1 l2).objs.size = some _ := Heap.get?_push_of_some _ (Heap.get?_push_of_some _ (Heap.get?_push_size _ rfl))
  have g4 : (hp5 true false s.heap l1 l2).get? (hp3 true false s.heap l1 l2).objs.size = some _ := Heap.get?_push_of_some _ (Heap.get?_push_size _ rfl)
  have g5 : (hp5 true false s.heap l1 l2).get? (hp4 true false s.heap l1 l2).objs.size = some _ := Heap.get?_push_size _ rfl
  show _ ∧ _
  rw [s2, s3, s4] at g5
  rw [s3] at g4
  rw [s1, s2] at g3
  rw [s1] at g2
  rw [s4]
  exact ⟨⟨_, g5, rfl⟩, h _ g5 g3 g4 ⟨_, g1, rfl, rfl⟩ ⟨_, g2, rfl, rfl⟩ fun c o x =>
    Heap.get?_push_of_some _ (Heap.get?_push_of_some _ (Heap.get?_push_of_some _ (Heap.get?_push_of_some _ (Heap.get?_push_of_some _ x))))⟩
/-- a list behind a tuple, or two of a kind -/
inductive Two : Bool → Bool → Prop | tt : Two true true | ll : Two false false | tl : Two true false
theorem call_two {k1 k2 : Bool} (T : Two k1 k2) {l1 l2 : Addr} {xs ys : Array Value} {Q : Value → Shared → Prop} (q1 : SeqK k1 s.heap l1 xs) (q2 : SeqK k2 s.heap l2 ys)
    (h : ∀ h', IsZip h' (s.heap.objs.size + 4) (s.heap.objs.size + 2) (s.heap.objs.size + 3) .none → IsPair h' (s.heap.objs.size + 2) (.ref s.heap.objs.size) (.ref (s.heap.objs.size + 1)) →
      IsPair h' (s.heap.objs.size + 3) .none .none → ItrK k1 h' s.heap.objs.size l1 0 → ItrK k2 h' (s.heap.objs.size + 1) l2 0 →
      (∀ c o, s.heap.get? c = some o → h'.get? c = some o) → Q (.ref (s.heap.objs.size + 4)) { s with heap := h' }) :
    wpAny (model prog w) A (call (.type "zip") [.ref l1, .ref l2]) Q E s := by
  cases T with
  | tt => exact RZ.call_zipT q1 q2 fun h' a b c d e _ g => h h' a b c d e g
  | ll => exact call_zip_2 q1 q2 fun h' a b c d e _ g => h h' a b c d e g
  | tl => exact call_mixed q1 q2 h
end
/-- a sequence of the heap as the shapes have it -/
def SqK (K : PySem.W.Frag) (k : Bool) (H : Hp) (a : Addr) (xs : List V) : Prop := cond k (SqT K H a xs) (SqL K H a xs)
theorem sqK_raw {X : Cx} {pins : List (Addr × Obj)} {σ : L2.St} {H : Hp} {s : Shared} (I : Inv X pins σ H s) : ∀ {k : Bool} {a : Addr} {xs : List V}, SqK X.K k H a xs → ∃ its, Vals xs its ∧ SeqK k s.heap a its.toArray
  | true, a, xs, h => by
    obtain ⟨its, rv, p, _⟩ := I.tuple h
    exact ⟨its, rv, p⟩
  | false, a, xs, h => by
    obtain ⟨its, rv, p, _⟩ := I.list h
    exact ⟨its, rv, p.isList⟩
theorem sqK_inj {X : Cx} {pins : List (Addr × Obj)} {σ : L2.St} {H : Hp} {s : Shared} (I : Inv X pins σ H s) : ∀ {k : Bool} {a : Addr} {xs ys : List V}, SqK X.K k H a xs → SqK X.K k H a ys → xs = ys
  | true, a, xs, ys, h, h' => I.tuple_inj h h'
  | false, a, xs, ys, h, h' => I.list_inj h h'
def Itz (K : PySem.W.Frag) (k1 k2 : Bool) (a b : Addr) : It :=
  ⟨fun i H => ∃ (xs ys : List V) (x y : V), SqK K k1 H a xs ∧ SqK K k2 H b ys ∧ xs[i]? = some x ∧ ys[i]? = some y,
    fun i H v H' => ∃ T x y ob, v = .ref T ∧ H T = none ∧ PD.PlT ob ∧ H' = upd H T (.frz ob (.tup [x, y])) ∧ (∀ xs, SqK K k1 H a xs → xs[i]? = some x) ∧ ∀ ys, SqK K k2 H b ys → ys[i]? = some y,
    fun i H => ∃ xs ys : List V, SqK K k1 H a xs ∧ SqK K k2 H b ys ∧ (xs.length ≤ i ∨ ys.length ≤ i)⟩
theorem turn {P : Program} {w : World} {K : PySem.W.Frag} {elts : List Expr} {kk : Nat} {tpos : Pos} {k1 k2 : Bool} {a b z TI TO i1 i2 : Addr} (D : ZipApart z TI TO i1 i2 a b) :
    Turn P w K (.Tuple elts kk tpos) (Itz K k1 k2 a b) [z, TI, TO, i1, i2] z (fun i h => IsZip h z TI TO .none ∧ IsPair h TI (.ref i1) (.ref i2) ∧ (∃ x y, IsPair h TO x y) ∧ ItrK k1 h i1 a i ∧ ItrK k2 h i2 b i) where
  mem := by simp
  obj := fun i h st c hc => by
    obtain ⟨hz, hTI, ⟨x, y, hTO⟩, ⟨o1, e1, _, d1⟩, ⟨o2, e2, _, d2⟩⟩ := st
    rcases (show c = z ∨ c = TI ∨ c = TO ∨ c = i1 ∨ c = i2 by simpa using hc) with q | q | q | q | q
    · rw [q]; exact ⟨_, hz, fun v q => nomatch q⟩
    · rw [q]; exact ⟨_, hTI, fun v q => nomatch q⟩
    · rw [q]; exact ⟨_, hTO, fun v q => nomatch q⟩
    · rw [q]; exact ⟨o1, e1, fun v q => by rw [d1] at q; cases q⟩
    · rw [q]; exact ⟨o2, e2, fun v q => by rw [d2] at q; cases q⟩
  keep := fun i h h' st k => by
    obtain ⟨hz, hTI, ⟨x, y, hTO⟩, h1, h2⟩ := st
    exact ⟨k z (by simp) _ hz, k TI (by simp) _ hTI, ⟨x, y, k TO (by simp) _ hTO⟩, h1.at fun o q => k i1 (by simp) o q, h2.at fun o q => k i2 (by simp) o q⟩
  item := by
    intro X hP hw hK hc i pins s σ H E I hf st hg
    subst hP hw hK
    obtain ⟨hz, hTI, ⟨x0, y0, hTO⟩, h1, h2⟩ := st
    obtain ⟨xs, ys, x, y, hqx, hqy, hx, hy⟩ := hg
    obtain ⟨its, rv, p⟩ := sqK_raw I hqx
    obtain ⟨its2, rv2, p2⟩ := sqK_raw I hqy
    obtain ⟨u, hu, ru⟩ := rv.get hx
    obtain ⟨u2, hu2, ru2⟩ := rv2.get hy
    have zl : z < s.heap.objs.size := Heap.lt_size hz
    refine py_item D hz hTI hTO h1 h2 p p2 (x := u) (y := u2) (by simpa using hu) (by simpa using hu2) fun h' z' TO' h1' h2' hT hsz hk => ?_
    refine ⟨_, rfl, wpAny_letOwnedTupleGo_zip (s := { s with heap := h' }) z' fun h'' z'' sb => ?_⟩
    let ob : Obj := { cls := .type "tuple", data := .seq #[u, u2] }
    let cell : HO := .frz ob (.tup [x, y])
    have hT2 : h''.get? s.heap.objs.size = some ob := (sb.2 _ (Nat.ne_of_gt zl)).trans hT
    have new : ObjOk X.prog X.w (upd H s.heap.objs.size cell) h'' s.heap.objs.size cell :=
      ⟨hT2, by show 2 ≤ sizeLine; decide, [u, u2], .cons ru (.cons ru2 .nil), ⟨_, hT2, rfl, _, rfl⟩⟩
    have I1 : Inv X pins σ (upd H s.heap.objs.size cell) { s with heap := h'' } :=
      I.turnedNew (t' := s.toks) (ch := [z, TI, TO, i1, i2]) (fun c o hb q => (sb.2 c (fun q' => hb (by simp [q']))).trans (hk c o (fun q' => hb (by simp [q'])) (fun q' => hb (by simp [q'])) (fun q' => hb (by simp [q'])) (fun q' => hb (by simp [q'])) q)) hf (Nat.le_refl _) new
    refine ⟨.ref s.heap.objs.size, _, I1, rfl, ⟨_, x, y, ob, rfl, I.hok.fresh (Nat.le_refl _), ⟨rfl, rfl⟩, rfl, fun l hl => by rw [sqK_inj I hl hqx]; exact hx, fun l hl => by rw [sqK_inj I hl hqy]; exact hy⟩, ⟨z'', ?_, ⟨u, u2, ?_⟩, ?_, ?_⟩, fun c hcm => ?_⟩
    · exact (sb.2 _ D.TIz).trans (hk _ _ D.TIz D.TITO D.TIi1 D.TIi2 hTI)
    · exact (sb.2 _ D.TOz).trans TO'
    · exact h1'.at fun o q => (sb.2 _ D.i1z).trans q
    · exact h2'.at fun o q => (sb.2 _ D.i2z).trans q
    · have lt : c < s.heap.objs.size := by
        rcases (show c = z ∨ c = TI ∨ c = TO ∨ c = i1 ∨ c = i2 by simpa using hcm) with q | q | q | q | q
        · rw [q]; exact zl
        · rw [q]; exact Heap.lt_size hTI
        · rw [q]; exact Heap.lt_size hTO
        · rw [q]; exact h1.lt
        · rw [q]; exact h2.lt
      rw [upd_ne (Nat.ne_of_lt lt)]
      exact (hf c hcm).1
  done := by
    intro X hP hw hK hc i pins s σ H E I hf st hg
    subst hP hw hK
    obtain ⟨hz, hTI, ⟨x0, y0, hTO⟩, h1, h2⟩ := st
    obtain ⟨xs, ys, hqx, hqy, hend⟩ := hg
    obtain ⟨its, rv, p⟩ := sqK_raw I hqx
    obtain ⟨its2, rv2, p2⟩ := sqK_raw I hqy
    have l1 := rv.length
    have l2 := rv2.length
    have he : its.toArray[i]? = none ∨ its2.toArray[i]? = none := by
      rcases hend with q | q
      · exact .inl (by simp; omega)
      · exact .inr (by simp; omega)
    exact py_end (I.ok.hd hc) D hz hTI hTO h1 h2 p p2 he fun h' hk => ⟨rfl, I.turnedL (t' := s.toks) (ch := [z, TI, TO, i1, i2]) (fun c o hb q =>
      hk c o (fun q' => hb (by simp [q'])) (fun q' => hb (by simp [q'])) (fun q' => hb (by simp [q'])) (fun q' => hb (by simp [q'])) q) hf⟩
  self := fun A i s Q E st h => wpAny_pyIter_zip st.1 h
def iZip (K : PySem.W.Frag) (ta : TA) : TI := fun σ H R => ta σ H fun vs H1 => ∃ k1 k2 a b xs ys, Two k1 k2 ∧ vs = [.ref a, .ref b] ∧ SqK K k1 H1 a xs ∧ SqK K k2 H1 b ys ∧ R (Itz K k1 k2 a b) H1
theorem pi_zip {X : Cx} {e e2 : Expr} {ta : TA} {p pos tpos : Pos} {elts : List Expr} {kk : Nat} (hg : Gl X "zip") (hm : X.mg "zip" = none) (ha : PA X [e, e2] ta)
    (hs : starEach [e, e2] X.env = (false, eval e X.env) :: starEach [e2] X.env := by rfl) (hpl : (backTo pos (starEach [e2] X.env)).any (·.1) = false := by rfl) :
    PI X (.Tuple elts kk tpos) (.Call (.Name "zip" p) [e, e2] [] pos) (iZip X.K ta) := by
  refine ⟨fun pins s σ H R I h => ?_⟩
  refine Call_ (ld_blt I hg hm PyProof.Rows.boot_zip (PyProof.Rows.callWith_type1 (thn (ha.run pos pins s σ H _ I h) fun us s1 ⟨vs, H1, I1, r1, q1⟩ => ?_) hs hpl))
  obtain ⟨k1, k2, a, b, xs, ys, T2, ex, hqx, hqy, q⟩ := q1
  subst ex
  cases r1 with
  | cons r rr =>
    cases rr with
    | cons r' rr =>
      cases rr
      cases r
      cases r'
      obtain ⟨its, rv, p1⟩ := sqK_raw I1 hqx
      obtain ⟨its2, rv2, p2⟩ := sqK_raw I1 hqy
      have fresh5 : ∀ c, c ∈ [s1.heap.objs.size + 4, s1.heap.objs.size + 2, s1.heap.objs.size + 3, s1.heap.objs.size, s1.heap.objs.size + 1] → FpOk X pins H1 c := fun c hcm => by
        have hle : s1.heap.objs.size ≤ c := by
          rcases (show c = s1.heap.objs.size + 4 ∨ c = s1.heap.objs.size + 2 ∨ c = s1.heap.objs.size + 3 ∨ c = s1.heap.objs.size ∨ c = s1.heap.objs.size + 1 by simpa using hcm) with z | z | z | z | z <;> omega
        exact I1.fpOk hle (I1.hok.fresh hle)
      refine call_two T2 p1 p2 fun h' hz hTI hTO h1 h2 hk => wpAny_pyIter_zip hz ?_
      have I2 : Inv X pins σ H1 { s1 with heap := h' } := I1.kept (t' := s1.toks) hk
      exact ⟨s1.heap.objs.size + 4, [s1.heap.objs.size + 4, s1.heap.objs.size + 2, s1.heap.objs.size + 3, s1.heap.objs.size, s1.heap.objs.size + 1], _, _, H1, rfl, I2, turn (PySem.W.ktu_apart s1.heap.objs.size a b p1.lt p2.lt), ⟨hz, hTI, ⟨_, _, hTO⟩, h1, h2⟩, fresh5, q⟩
end ZIP
/-! zip of data; more of built-ins -/
namespace PD
open PySem PySem.Spec PyProof.Rows L2 GxR LG
section
variable {X : Cx} {c : Co}
def zipD (xs ys : List PyData) : List PyData := List.zipWith (fun a b => .tuple [a, b]) xs ys
def sZip (f : SA) : SI := fun ρ => match f ρ with
  | some ([.d (.tuple xs), .d (.tuple ys)], ρ1) => some (zipD xs ys, ρ1)
  | some ([.d (.tuple xs), .d (.list ys)], ρ1) => some (zipD xs ys, ρ1)
  | _ => none
theorem zipD_at {xs ys : List PyData} {i : Nat} {d : PyData} (h : (zipD xs ys)[i]? = some d) : ∃ x y, xs[i]? = some x ∧ ys[i]? = some y ∧ d = .tuple [x, y] := by
  unfold zipD at h
  rw [List.getElem?_zipWith] at h
  cases e1 : xs[i]? with
  | none => rw [e1] at h; cases h
  | some x =>
    cases e2 : ys[i]? with
    | none => rw [e1, e2] at h; cases h
    | some y =>
      rw [e1, e2] at h
      cases h
      exact ⟨x, y, rfl, rfl, rfl⟩
theorem sqK_same {K : PySem.W.Frag} {F H : Hp} (s : Same F H) : ∀ {k : Bool} {a : Addr} {xs : List V}, ZIP.SqK K k F a xs → ZIP.SqK K k H a xs
  | true, _, _, h => sqT_same s h
  | false, _, _, h => s.seq h
theorem wk_zip {k1 k2 : Bool} {F : Hp} {a b : Addr} {vs us : List V} {xs ys : List PyData} (hK : X.K = c.K) (h1 : ZIP.SqK c.K k1 F a vs) (d1 : DzAll c.K F vs xs) (h2 : ZIP.SqK c.K k2 F b us) (d2 : DzAll c.K F us ys) :
    Wk c (ZIP.Itz X.K k1 k2 a b) F (zipD xs ys) := by
  rw [hK]
  refine ⟨fun i d F2 H2 e s1 s2 => ?_, fun F2 H2 s1 s2 => ⟨vs, us, sqK_same s2 (sqK_same s1 h1), sqK_same s2 (sqK_same s1 h2), ?_⟩⟩
  · obtain ⟨x, y, e1, e2, rfl⟩ := zipD_at e
    obtain ⟨v, ev, dv⟩ := dpAll_at d1 e1
    obtain ⟨u, eu, du⟩ := dpAll_at d2 e2
    refine ⟨⟨vs, us, v, u, sqK_same s2 (sqK_same s1 h1), sqK_same s2 (sqK_same s1 h2), ev, eu⟩, fun p H3 ⟨T, z, z', ob, q1, q2, qd, q3, q4, q5⟩ => ?_⟩
    subst q1
    subst q3
    have t1 := q4 vs (sqK_same s2 (sqK_same s1 h1))
    rw [ev] at t1
    cases t1
    have t2 := q5 us (sqK_same s2 (sqK_same s1 h2))
    rw [eu] at t2
    cases t2
    exact ⟨_, Xt.new s2 q2 qd, dp_newT (s2.free q2) (.cons (dp_same s1 dv) (.cons (dp_same s1 du) .nil))⟩
  · have l1 := dpAll_len d1
    have l2 := dpAll_len d2
    have : (zipD xs ys).length = min xs.length ys.length := by unfold zipD; rw [List.length_zipWith]
    rw [this]
    omega
theorem ei_zip {a b : Expr} {fa : SA} {tg ce : Expr} (hK : X.K = c.K) (h : ∀ {t : TA}, PA X [a, b] t → PI X tg ce (ZIP.iZip X.K t)) (ha : EA c X [a, b] fa) : EI c X tg ce (sZip fa) := by
  refine ⟨⟨fun pins s σ H R I ⟨F, ρ, items, ρ', RR, e1, k⟩ => ?_⟩⟩
  unfold sZip at e1
  split at e1
  · rename_i xs ys ρ1 e2
    cases e1
    refine (h ha.pa).run pins s σ H R I ⟨F, ρ, _, _, RR, e2, fun vs H1 F1 s1 R1 o1 => ?_⟩
    match vs, o1 with
    | [v, u], ⟨o, o', _⟩ =>
      cases o with
      | tup hs hd =>
        cases o' with
        | tup hs' hd' =>
          exact ⟨true, true, _, _, _, _, .tt, rfl, by rw [hK]; exact sqT_same R1.sub hs, by rw [hK]; exact sqT_same R1.sub hs', k _ H1 F1 s1 R1 (wk_zip hK (k1 := true) (k2 := true) hs hd hs' hd')⟩
  · rename_i xs ys ρ1 e2
    cases e1
    refine (h ha.pa).run pins s σ H R I ⟨F, ρ, _, _, RR, e2, fun vs H1 F1 s1 R1 o1 => ?_⟩
    match vs, o1 with
    | [v, u], ⟨o, o', _⟩ =>
      cases o with
      | tup hs hd =>
        cases o' with
        | lst hs' hd' =>
          exact ⟨true, false, _, _, _, _, .tl, rfl, by rw [hK]; exact sqT_same R1.sub hs, by rw [hK]; exact R1.sub.seq hs', k _ H1 F1 s1 R1 (wk_zip hK (k1 := true) (k2 := false) hs hd hs' hd')⟩
  · cases e1
end
end PD
/-! t.index(x), t[::-1], all(list), sorted(set(t)), two new lists at once -/
namespace PD
open PySem PySem.Spec PyProof.Rows L2 GxR LG
/-! ### index -/
/-! ### t[::-1] -/
/-! ### all(list of truths) -/
/-! ### sorted(set(t)), t a tuple of ints -/
/-! ### x, y = [..], [..], both changed later -/
end PD
/-! sorted(set(pairs)), pairs of ints in 0 .. 63 -/
namespace PD
open PySem PySem.Spec PyProof.Rows L2 GxR LG
end PD
/-! x > y of data -/
namespace PD
open PySem PySem.Spec PyProof.Rows L2 GxR LG
end PD
/-! (x,) * k -/
namespace PD
open PySem PySem.Spec PyProof.Rows L2 GxR LG
end PD
/-! Plain data: sum of a list or a tuple of ints -/
namespace PD
open PySem PySem.Spec PyProof.Rows L2 GxR LG
end PD
/-! Plain data: dicts in the heap: what they hold, look-up, a value stored -/
namespace PD
open PySem PySem.Spec PyProof.Rows L2 GxR LG
/-! ### keys -/
mutual
theorem keyD_pl : ∀ {d : PyData} {k : NestedKey}, keyD d = some k → Plk k
  | .none, _, h => by
    simp only [keyD, Option.some.injEq] at h
    subst h
    exact .none
  | .int i, _, h => by
    simp only [keyD, Option.some.injEq] at h
    subst h
    exact .num i
  | .tuple ds, k, h => by
    simp only [keyD, Option.map_eq_some_iff] at h
    obtain ⟨ks, e, rfl⟩ := h
    exact .tup (keysD_pl e)
  | .bool _, _, h => by simp [keyD] at h
  | .str _, _, h => by simp [keyD] at h
  | .list _, _, h => by simp [keyD] at h
  | .dict _, _, h => by simp [keyD] at h
theorem keysD_pl : ∀ {ds : List PyData} {ks : List NestedKey}, keysD ds = some ks → ∀ k ∈ ks, Plk k
  | [], _, h, k, hk => by
    simp only [keysD, Option.some.injEq] at h
    subst h
    cases hk
  | d :: ds, ks, h, k, hk => by
    unfold keysD at h
    cases e : keyD d with
    | none => rw [e] at h; cases h
    | some k0 =>
      rw [e] at h
      obtain ⟨r, e2, rfl⟩ := Option.map_eq_some_iff.mp h
      rcases List.mem_cons.mp hk with rfl | hk
      · exact keyD_pl e
      · exact keysD_pl e2 k hk
end
theorem hashes_pl {w w' : World} : ∀ {ks : List NestedKey}, (∀ k ∈ ks, k.hash w = k.hash w') → NestedKey.hashes w ks = NestedKey.hashes w' ks
  | [], _ => by simp [NestedKey.hashes]
  | k :: ks, h => by
    rw [NestedKey.hashes, NestedKey.hashes, h k (List.mem_cons_self ..), hashes_pl fun k' hk => h k' (List.mem_cons_of_mem _ hk)]
theorem hash_pl (w w' : World) {k : NestedKey} (h : Plk k) : k.hash w = k.hash w' := by
  induction h with
  | none => simp [NestedKey.hash]
  | num i => simp [NestedKey.hash]
  | tup _ ih => rw [NestedKey.hash, NestedKey.hash, hashes_pl ih]
section
variable {X : Cx} {pins : List (Addr × Obj)} {σ : L2.St} {H : Hp} {s : Shared} {a : Addr}
mutual
/-- data that are a key are that key in the heap -/
theorem key_in (I : Inv X pins σ H s) : ∀ {d : PyData} {k : NestedKey} {v : V} {u : Value}, Dz X.K H v d → keyD d = some k → RelV v u → NestedIs s.heap k u
  | .none, _, _, _, h, e, r => by
    simp only [keyD, Option.some.injEq] at e
    subst e
    cases h
    cases r
    exact .none
  | .int i, _, _, _, h, e, r => by
    simp only [keyD, Option.some.injEq] at e
    subst e
    cases h
    obtain ⟨t, rfl⟩ := r
    exact .int i t
  | .tuple ds, _, _, _, h, e, r => by
    simp only [keyD, Option.map_eq_some_iff] at e
    obtain ⟨ks, e, rfl⟩ := e
    cases h with
    | tup hs ha =>
      cases r
      obtain ⟨its, rv, ⟨o, ho, hc, n, hd⟩, _⟩ := I.tuple hs
      exact .tup ho hc hd (keys_in I ha e rv)
  | .bool _, _, _, _, _, e, _ => by simp [keyD] at e
  | .str _, _, _, _, _, e, _ => by simp [keyD] at e
  | .list _, _, _, _, _, e, _ => by simp [keyD] at e
  | .dict _, _, _, _, _, e, _ => by simp [keyD] at e
theorem keys_in (I : Inv X pins σ H s) : ∀ {ds : List PyData} {ks : List NestedKey} {vs : List V} {us : List Value}, DzAll X.K H vs ds → keysD ds = some ks → Vals vs us → NestedAll s.heap ks us
  | [], _, _, _, h, e, r => by
    simp only [keysD, Option.some.injEq] at e
    subst e
    cases h
    cases r
    exact .nil
  | d :: ds, _, _, _, h, e, r => by
    cases h with
    | cons h hs =>
      cases r with
      | cons r rs =>
        unfold keysD at e
        cases e1 : keyD d with
        | none => rw [e1] at e; cases e
        | some k0 =>
          rw [e1] at e
          obtain ⟨ks, e2, rfl⟩ := Option.map_eq_some_iff.mp e
          exact .cons (key_in I h e1 r) (keys_in I hs e2 rs)
end
/-- the key of a dict's entry -/
def dkey : PyData → Option NestedKey
  | .tuple ds => match keysD ds with
    | some ks => if (NestedKey.tup ks).depth ≤ 8 then some (.tup ks) else none
    | none => none
  | _ => none
theorem dkey_use {d : PyData} {k : NestedKey} (h : dkey d = some k) : keyD d = some k ∧ k.depth ≤ 8 ∧ ∃ ds, d = .tuple ds := by
  unfold dkey at h
  split at h
  · rename_i ds
    split at h
    · rename_i ks e
      split at h
      · rename_i hd
        cases h
        exact ⟨by rw [keyD, e]; rfl, hd, ds, rfl⟩
      · cases h
    · cases h
  · cases h
/-! ### what a dict holds -/
def dLook (kvs : List (PyData × PyData)) (k : NestedKey) : Option PyData := (kvs.find? fun p => decide (keyD p.1 = some k)).map (·.2)
def dPut (kvs : List (PyData × PyData)) (k : NestedKey) (dk d : PyData) : List (PyData × PyData) :=
  if (dLook kvs k).isSome then kvs.map (fun p => if keyD p.1 = some k then (p.1, d) else p) else kvs ++ [(dk, d)]
theorem DeR.len : ∀ {xs : List (NestedKey × Addr × V)} {us : List (NestedKey × Addr × Value)}, Paired DeR xs us → xs.length = us.length
  | _, _, h => Paired.length h
theorem DeR.keys : ∀ {xs : List (NestedKey × Addr × V)} {us : List (NestedKey × Addr × Value)}, Paired DeR xs us → xs.map (·.1) = us.map (·.1)
  | _, _, .nil => rfl
  | _, _, .cons r t => by rw [List.map_cons, List.map_cons, r.1, DeR.keys t]
theorem kv_is (I : Inv X pins σ H s) : ∀ {xs : List (NestedKey × Addr × V)} {us : List (NestedKey × Addr × Value)} {kvs : List (PyData × PyData)}, Paired DeR xs us → DzKv X.K H xs kvs → ∀ q ∈ us, NestedIs s.heap q.1 (.ref q.2.1)
  | _, _, _, .nil, _, _, hq => by cases hq
  | _, _, _, .cons r t, .cons e1 h1 h2 hs, q, hq => by
    rcases List.mem_cons.mp hq with rfl | hq
    · obtain ⟨r1, r2, _⟩ := r
      dsimp only at r1 r2
      subst r1 r2
      exact key_in I h1 e1 rfl
    · exact kv_is I t hs q hq
/-- a dict's object at its place -/
theorem dct_at (I : Inv X pins σ H s) {xs : List (NestedKey × Addr × V)} {kvs : List (PyData × PyData)} (e : H a = some (DkO a xs)) (hk : DzKv X.K H xs kvs) :
    (a == sysModules) = false ∧ xs.length ≤ sizeLine ∧ (∀ x ∈ xs, Plk x.1 ∧ x.1.depth ≤ 8) ∧ (xs.map (·.1)).Nodup ∧ ∃ us, Paired DeR xs us ∧ s.heap.DictOfH (nestedKind X.prog X.w) a us := by
  obtain ⟨⟨h1, h2, h3, h4, w, us, o, es, ep, rel, g, ex, dat, ent⟩, _⟩ := I.hok a _ e
  refine ⟨h1, h2, h4, h3, us, rel, o, es, ep, g, ex, dat, ?_, fun q hq => ⟨kv_is I rel hk q hq, ?_⟩, by rw [← DeR.keys rel]; exact h3⟩
  · rw [ent]
    refine List.map_congr_left fun q hq => ?_
    have hm : q.1 ∈ xs.map (·.1) := by rw [DeR.keys rel]; exact List.mem_map.mpr ⟨q, hq, rfl⟩
    obtain ⟨x, hx, ex⟩ := List.mem_map.mp hm
    have := (h4 x hx).1
    rw [ex] at this
    show (⟨q.1.hash w, .ref q.2.1, q.2.2⟩ : DictEntry) = ⟨q.1.hash X.w, .ref q.2.1, q.2.2⟩
    rw [hash_pl w X.w this]
  · have hm : q.1 ∈ xs.map (·.1) := by rw [DeR.keys rel]; exact List.mem_map.mpr ⟨q, hq, rfl⟩
    obtain ⟨x, hx, ex⟩ := List.mem_map.mp hm
    have := (h4 x hx).2
    rw [ex] at this
    exact this
theorem look_at {K : PySem.W.Frag} {k : NestedKey} : ∀ {xs : List (NestedKey × Addr × V)} {us : List (NestedKey × Addr × Value)} {kvs : List (PyData × PyData)}, Paired DeR xs us → DzKv K H xs kvs →
    (dLook kvs k = none ∧ atKey us k = none) ∨ ∃ d v q, dLook kvs k = some d ∧ atKey us k = some q ∧ RelV v q.2 ∧ Dz K H v d
  | _, _, _, .nil, .nil => .inl ⟨rfl, rfl⟩
  | (k0, ak, v) :: xs0, b :: us0, (dk, d) :: kvs0, .cons r t, .cons e1 h1 h2 hs => by
    obtain ⟨r1, r2, r3⟩ := r
    dsimp only at r1 r2 r3
    by_cases h : k0 = k
    · refine .inr ⟨d, v, b.2, ?_, ?_, r3, h2⟩
      · unfold dLook
        rw [List.find?_cons_of_pos (by rw [decide_eq_true_eq, e1, h])]
        rfl
      · unfold atKey
        rw [List.find?_cons_of_pos (by rw [decide_eq_true_eq, ← r1, h])]
        rfl
    · have c1 : dLook ((dk, d) :: kvs0) k = dLook kvs0 k := by
        unfold dLook
        rw [List.find?_cons_of_neg (by rw [decide_eq_true_eq, e1]; exact fun z => h (Option.some.inj z))]
      have c2 : atKey (b :: us0) k = atKey us0 k := by
        unfold atKey
        rw [List.find?_cons_of_neg (by rw [decide_eq_true_eq, ← r1]; exact h)]
      rw [c1, c2]
      exact look_at t hs
theorem kv_len {K : PySem.W.Frag} : ∀ {xs : List (NestedKey × Addr × V)} {kvs : List (PyData × PyData)}, DzKv K H xs kvs → xs.length = kvs.length
  | _, _, .nil => rfl
  | _, _, .cons _ _ _ h => congrArg (· + 1) (kv_len h)
theorem Vw.dict {K : PySem.W.Frag} {F : Hp} {x : V} {kvs : List (PyData × PyData)} (h : Vw K F H x (.dict kvs)) (s : Same F H) : ∃ a xs, x = .ref a ∧ H a = some (DkO a xs) ∧ DzKv K F xs kvs := by
  rcases h with h | ⟨_, _, _, _, e, _⟩ | ⟨a, xs, _, rfl, e, h, hs⟩
  · cases h with
    | dct h hs => exact ⟨_, _, rfl, s _ _ h, hs⟩
  · cases e
  · cases e
    exact ⟨a, xs, rfl, h, hs⟩
/-! ### k in d, k not in d, d[k] -/
def rDk (K : PySem.W.Frag) (y x : V) (H : Hp) (Q : NestedKey → List (PyData × PyData) → Prop) : Prop := ∃ dk k a xs kvs, Dz K H y dk ∧ dkey dk = some k ∧ x = .ref a ∧ H a = some (DkO a xs) ∧ DzKv K H xs kvs ∧ Q k kvs
def rNotInK (K : PySem.W.Frag) : R2 := fun y x H Q => rDk K y x H fun k kvs => Q (.bl (!(dLook kvs k).isSome)) H
theorem key_ref {K : PySem.W.Frag} {y : V} {dk : PyData} {k : NestedKey} (h : Dz K H y dk) (e : dkey dk = some k) : ∃ b, y = .ref b := by
  obtain ⟨_, _, ds, rfl⟩ := dkey_use e
  cases h with
  | tup _ _ => exact ⟨_, rfl⟩
theorem op_notInK (hu : X.A.units + 20 < cLine) : OpR X (compareOp .NotIn) (rNotInK X.K) := by
  intro pins s σ H y x v u Q I ry rx h
  obtain ⟨dk, k, a, xs, kvs, hy, ek, rfl, hH, hk, q⟩ := h
  obtain ⟨b, rfl⟩ := key_ref hy ek
  cases rx
  cases ry
  obtain ⟨e1, e2, _⟩ := dkey_use ek
  obtain ⟨hd, _, _, _, us, rel, dd⟩ := dct_at I hH hk
  refine wpAny_notIn_heap (knd := nestedKind X.prog X.w) (k := k) (show X.A.units + 1 + 8 < cLine by omega) ⟨key_in I hy e1 rfl, e2⟩ hd dd ?_
  rcases look_at (k := k) rel hk with ⟨l1, l2⟩ | ⟨d, v, p, l1, l2, _, _⟩
  · rw [l2]
    rw [l1] at q
    exact ⟨.bl true, H, I.tok _, rfl, q⟩
  · rw [l2]
    rw [l1] at q
    exact ⟨.bl false, H, I.tok _, rfl, q⟩
def fNotInK : PyData → PyData → Option PyData
  | d, .dict kvs => (dkey d).map fun k => .bool (!(dLook kvs k).isSome)
  | _, _ => none
theorem l2_notInK {K : PySem.W.Frag} : L2ok K (rNotInK K) fNotInK := by
  intro F H y x d e z Q s hy hx hf k
  unfold fNotInK at hf
  split at hf
  · rename_i kvs
    obtain ⟨kk, ek, rfl⟩ := Option.map_eq_some_iff.mp hf
    obtain ⟨a, xs, rfl, h1, h2⟩ := hx.dict s
    exact ⟨_, kk, a, xs, kvs, hy.dp s, ek, rfl, h1, dpKv_same s h2, k _ F H (Xt.refl s) (.bl _)⟩
  · cases hf
end
end PD
/-! Plain data: d[k], d[k] = v, {} and {k: v} -/
namespace PD
open PySem PySem.Spec PyProof.Rows L2 GxR LG
section
variable {X : Cx} {H : Hp} {K : PySem.W.Frag}
/-! ### d[k] -/
def rIxK (K : PySem.W.Frag) : R2 := fun x y H Q => ∃ F dk k a xs kvs d, Same F H ∧ Dz K H y dk ∧ dkey dk = some k ∧ x = .ref a ∧ H a = some (DkO a xs) ∧ DzKv K F xs kvs ∧ dLook kvs k = some d ∧ ∀ v, Dz K F v d → Q v H
theorem ix_dct (hu : X.A.units + 20 < cLine) : IxR X (rIxK X.K) := by
  intro value slice pins s σ H x y v u Q I rx ry h hs
  obtain ⟨F, dk, k, a, xs, kvs, d, sF, hy, ek, rfl, hH, hk, hd, q⟩ := h
  obtain ⟨b, rfl⟩ := key_ref hy ek
  cases rx
  cases ry
  obtain ⟨e1, e2, _⟩ := dkey_use ek
  obtain ⟨_, _, _, _, us, rel, dd⟩ := dct_at I hH (dpKv_same sF hk)
  rcases look_at (k := k) rel hk with ⟨l1, l2⟩ | ⟨d', w, p, l1, l2, l3, l4⟩
  · rw [l1] at hd
    cases hd
  · rw [l1] at hd
    cases hd
    refine subscriptTail_builtinR (x := p.2) dd.typeIs PySem.F.slot_dict_getitem.lookup (wpAny_getItem_heap (knd := nestedKind X.prog X.w) (k := k) (show X.A.units + 1 + 8 < cLine by omega) ⟨key_in I hy e1 rfl, e2⟩ dd l2 ?_) hs
    exact ⟨rfl, w, H, I.tok _, l3, q w l4⟩
def fIxK : PyData → PyData → Option PyData
  | .dict kvs, d => (dkey d).bind fun k => dLook kvs k
  | _, _ => none
theorem l2_ixK : L2ok K (rIxK K) fIxK := by
  intro F H x y d e z Q s hx hy hf k
  unfold fIxK at hf
  split at hf
  · rename_i kvs
    obtain ⟨kk, ek, el⟩ := Option.bind_eq_some_iff.mp hf
    obtain ⟨a, xs, rfl, h1, h2⟩ := hx.dict s
    exact ⟨F, _, kk, a, xs, kvs, z, s, hy.dp s, ek, rfl, h1, h2, el, fun v hv => k v F H (Xt.refl s) hv⟩
  · cases hf
/-! ### d[k] = v -/
def vHas (xs : List (NestedKey × Addr × V)) (k : NestedKey) : Bool := (xs.find? fun x => decide (x.1 = k)).isSome
def vPut (xs : List (NestedKey × Addr × V)) (k : NestedKey) (b : Addr) (v : V) : List (NestedKey × Addr × V) :=
  if vHas xs k then xs.map (fun x => if x.1 = k then (x.1, x.2.1, v) else x) else xs ++ [(k, b, v)]
theorem has_us {k : NestedKey} : ∀ {xs : List (NestedKey × Addr × V)} {us : List (NestedKey × Addr × Value)}, Paired DeR xs us → (atKey us k).isSome = vHas xs k
  | _, _, .nil => rfl
  | x :: xs0, b :: us0, .cons r t => by
    obtain ⟨r1, _, _⟩ := r
    by_cases h : x.1 = k
    · unfold vHas atKey
      rw [List.find?_cons_of_pos (by rw [decide_eq_true_eq, ← r1]; exact h), List.find?_cons_of_pos (by rw [decide_eq_true_eq]; exact h)]
      rfl
    · have ih := has_us (k := k) t
      unfold vHas atKey at ih ⊢
      rw [List.find?_cons_of_neg (by rw [decide_eq_true_eq, ← r1]; exact h), List.find?_cons_of_neg (by rw [decide_eq_true_eq]; exact h)]
      exact ih
theorem has_kv {k : NestedKey} : ∀ {xs : List (NestedKey × Addr × V)} {kvs : List (PyData × PyData)}, DzKv K H xs kvs → (dLook kvs k).isSome = vHas xs k
  | _, _, .nil => rfl
  | (k0, ak, v) :: xs0, (dk, d) :: kvs0, .cons e1 _ _ hs => by
    by_cases h : k0 = k
    · unfold vHas dLook
      rw [List.find?_cons_of_pos (by rw [decide_eq_true_eq, e1, h]), List.find?_cons_of_pos (by rw [decide_eq_true_eq]; exact h)]
      rfl
    · have ih := has_kv (k := k) hs
      unfold vHas dLook at ih ⊢
      rw [List.find?_cons_of_neg (by rw [decide_eq_true_eq, e1]; exact fun z => h (Option.some.inj z)), List.find?_cons_of_neg (by rw [decide_eq_true_eq]; exact h)]
      exact ih
theorem put_map {k : NestedKey} {v : V} {u : Value} (r : RelV v u) : ∀ {xs : List (NestedKey × Addr × V)} {us : List (NestedKey × Addr × Value)}, Paired DeR xs us → Paired DeR (xs.map fun x => if x.1 = k then (x.1, x.2.1, v) else x) (us.map (putAt k u))
  | _, _, .nil => .nil
  | x :: xs0, b :: us0, .cons q t => by
    rw [List.map_cons, List.map_cons]
    refine .cons ?_ (put_map r t)
    obtain ⟨q1, q2, q3⟩ := q
    unfold putAt
    by_cases h : x.1 = k
    · rw [if_pos h, if_pos (by rw [← q1]; exact h)]
      exact ⟨q1, q2, r⟩
    · rw [if_neg h, if_neg (by rw [← q1]; exact h)]
      exact ⟨q1, q2, q3⟩
theorem paired_snoc {α β : Type} {R : α → β → Prop} {a : α} {b : β} (r : R a b) : ∀ {xs : List α} {ys : List β}, Paired R xs ys → Paired R (xs ++ [a]) (ys ++ [b])
  | _, _, .nil => .cons r .nil
  | _, _, .cons q t => .cons q (paired_snoc r t)
theorem put_us {k : NestedKey} {b : Addr} {v : V} {u : Value} (r : RelV v u) {xs : List (NestedKey × Addr × V)} {us : List (NestedKey × Addr × Value)} (h : Paired DeR xs us) : Paired DeR (vPut xs k b v) (storedH us k b u) := by
  unfold vPut storedH
  rw [has_us h]
  by_cases c : vHas xs k = true
  · rw [if_pos c, if_pos c]
    exact put_map r h
  · rw [if_neg c, if_neg c]
    exact paired_snoc ⟨rfl, rfl, r⟩ h
theorem kv_map {k : NestedKey} {v : V} {d : PyData} (hv : Dz K H v d) : ∀ {xs : List (NestedKey × Addr × V)} {kvs : List (PyData × PyData)}, DzKv K H xs kvs → DzKv K H (xs.map fun x => if x.1 = k then (x.1, x.2.1, v) else x) (kvs.map fun p => if keyD p.1 = some k then (p.1, d) else p)
  | _, _, .nil => .nil
  | (k0, ak, v0) :: xs0, (dk, d0) :: kvs0, .cons e1 h1 h2 hs => by
    rw [List.map_cons, List.map_cons]
    by_cases h : k0 = k
    · rw [if_pos h, if_pos (by rw [e1, h])]
      exact .cons e1 h1 hv (kv_map hv hs)
    · rw [if_neg h, if_neg (by rw [e1]; exact fun z => h (Option.some.inj z))]
      exact .cons e1 h1 h2 (kv_map hv hs)
theorem kv_snoc {k : NestedKey} {b : Addr} {v : V} {dk d : PyData} (e : keyD dk = some k) (hk : Dz K H (.ref b) dk) (hv : Dz K H v d) : ∀ {xs : List (NestedKey × Addr × V)} {kvs : List (PyData × PyData)}, DzKv K H xs kvs → DzKv K H (xs ++ [(k, b, v)]) (kvs ++ [(dk, d)])
  | _, _, .nil => .cons e hk hv .nil
  | _, _, .cons e1 h1 h2 hs => .cons e1 h1 h2 (kv_snoc e hk hv hs)
theorem put_kv {k : NestedKey} {b : Addr} {v : V} {dk d : PyData} (e : keyD dk = some k) (hk : Dz K H (.ref b) dk) (hv : Dz K H v d) {xs : List (NestedKey × Addr × V)} {kvs : List (PyData × PyData)} (h : DzKv K H xs kvs) : DzKv K H (vPut xs k b v) (dPut kvs k dk d) := by
  unfold vPut dPut
  rw [has_kv h]
  by_cases c : vHas xs k = true
  · rw [if_pos c, if_pos c]
    exact kv_map hv h
  · rw [if_neg c, if_neg c]
    exact kv_snoc e hk hv h
theorem put_keys {k : NestedKey} {b : Addr} {v : V} {P : NestedKey → Prop} (hk : P k) {xs : List (NestedKey × Addr × V)} (h : ∀ x ∈ xs, P x.1) : ∀ x ∈ vPut xs k b v, P x.1 := fun x hx => by
  unfold vPut at hx
  split at hx
  · obtain ⟨y, hy, rfl⟩ := List.mem_map.mp hx
    split
    · exact h y hy
    · exact h y hy
  · rcases List.mem_append.mp hx with hx | hx
    · exact h x hx
    · rw [List.mem_singleton.mp hx]
      exact hk
theorem put_len {k : NestedKey} {b : Addr} {v : V} (xs : List (NestedKey × Addr × V)) : (vPut xs k b v).length ≤ xs.length + 1 := by
  unfold vPut
  split
  · rw [List.length_map]
    omega
  · rw [List.length_append]
    exact Nat.le_refl _
def rSetK (K : PySem.W.Frag) : TSet := fun o i v H Q => ∃ dk k a b xs kvs, o = .ref a ∧ i = .ref b ∧ H a = some (DkO a xs) ∧ DzKv K H xs kvs ∧ Dz K H (.ref b) dk ∧ dkey dk = some k ∧ xs.length < 1000000 ∧ Q (upd H a (DkO a (vPut xs k b v)))
theorem pset_dct (hu : X.A.units + 20 < cLine) : PSet X (rSetK X.K) := by
  intro pins s σ H o i v ov iv u Q I ro ri rv h
  obtain ⟨dk, k, a, b, xs, kvs, rfl, rfl, hH, hk, hy, ek, hn, q⟩ := h
  cases ro
  cases ri
  obtain ⟨e1, e2, _⟩ := dkey_use ek
  obtain ⟨hd, _, hp, nd, us, rel, dd⟩ := dct_at I hH hk
  have hl := DeR.len rel
  have z := sizeLine_eq
  refine wpAny_setItem_heap (knd := nestedKind X.prog X.w) (hsz := by omega) (k := k) (show X.A.units + 1 + 8 < cLine by omega) ⟨key_in I hy e1 rfl, e2⟩ dd fun h' dd' hs => ⟨_, ?_, q⟩
  obtain ⟨ob, es, ep, hq, h2, h3, h4, _, h5⟩ := dd'
  have pl := put_us (k := k) (b := b) rv rel
  refine d_write I (by rw [hH]; exact True.intro) hs ⟨ob, hq⟩ ⟨⟨hd, ?_, ?_, put_keys (P := fun k => Plk k ∧ k.depth ≤ 8) ⟨keyD_pl e1, e2⟩ hp, X.w, _, ob, es, ep, pl, hq, h2, h3, h4⟩, ⟨ob, hq⟩, fun h1 h2 c k => ?_⟩
  · have := put_len (k := k) (b := b) (v := v) xs
    omega
  · rw [DeR.keys pl]
    exact h5
  · obtain ⟨c1, c2, c3, c4, w, us', o', es', ep', c5, c6, c7⟩ := c
    exact ⟨c1, c2, c3, c4, w, us', o', es', ep', c5, k _ c6, c7⟩
end
/-! ### a dict of the def's own -/
section
variable {c : Co} {F F' H H' : Hp} {σ : L2.St} {ρ : Ev}
def dicAt (ρ : Ev) (i : Nat) : Option (List (PyData × PyData)) := match ρ[i]? with
  | some (.dic kvs) => some kvs
  | _ => none
theorem dicAt_use {ρ : Ev} {i : Nat} {kvs : List (PyData × PyData)} (h : dicAt ρ i = some kvs) : ρ[i]? = some (.dic kvs) := by
  unfold dicAt at h
  split at h
  · rename_i e
    cases h
    exact e
  · cases h
/-- its object changes -/
theorem Rl.putDic {i : Nat} {a : Addr} {kvs kvs' : List (PyData × PyData)} {xs' : List (NestedKey × Addr × V)} (R : Rl c F H σ ρ) (q : ρ[i]? = some (Sl.dic kvs)) (hv : vAt σ i = some (.ref a)) (hk : DzKv c.K F xs' kvs') : Rl c F (upd H a (DkO a xs')) σ (ρ.set i (.dic kvs')) := by
  obtain ⟨a', xs, e1, e2, e3, e4, e5, e6⟩ := R.sl i _ q
  rw [hv] at e1
  cases e1
  have hi : i < ρ.length := (List.getElem?_eq_some_iff.mp q).1
  have nio : ∀ b ∈ c.io, b ≠ a := fun b hb z => (R.ioh b hb).1 (by rw [z]; exact e6)
  have far : ∀ {j : Nat} {sl : Sl}, i ≠ j → (ρ.set i (.dic kvs'))[j]? = some sl → ρ[j]? = some sl := fun {j sl} hj e => by
    rw [List.getElem?_set_ne hj] at e
    exact e
  have notd : ∀ {j : Nat} {ds : List PyData}, (ρ.set i (.dic kvs'))[j]? = some (Sl.own ds) → ρ[j]? = some (Sl.own ds) := fun {j ds} e => by
    by_cases hj : i = j
    · subst hj
      rw [List.getElem?_set_self hi] at e
      cases e
    · exact far hj e
  have notd2 : ∀ {j : Nat} {ds : List PyData}, (ρ.set i (.dic kvs'))[j]? = some (Sl.io ds) → ρ[j]? = some (Sl.io ds) := fun {j ds} e => by
    by_cases hj : i = j
    · subst hj
      rw [List.getElem?_set_self hi] at e
      cases e
    · exact far hj e
  have dics : ∀ {j : Nat} {ks : List (PyData × PyData)}, (ρ.set i (.dic kvs'))[j]? = some (Sl.dic ks) → ∃ ks', ρ[j]? = some (Sl.dic ks') := fun {j ks} e => by
    by_cases hj : i = j
    · subst hj
      exact ⟨_, q⟩
    · exact ⟨_, far hj e⟩
  refine ⟨by rw [List.length_set]; exact R.len, fun b x e => ?_, R.ft, fun P hP => ?_, R.mono, fun b x e h1 h2 => ?_, fun b hb => ?_, fun j sl e => ?_, fun j m b x y h1 h2 h3 h4 => R.dj j m b x y (notd h1) (notd h2) h3 h4, fun j m x y h1 h2 => R.iu j m x y (notd2 h1) (notd2 h2), R.nw, R.tf, fun j m b x y h1 h2 h3 h4 => ?_⟩
  · rw [upd_ne (ne_of_none e e4)]
    exact R.sub _ _ e
  · obtain ⟨ps, e, t⟩ := R.tb P hP
    have nP : P ≠ a := fun z => e5 (by rw [← z]; exact hP)
    exact ⟨ps, by rw [upd_ne nP]; exact e, t⟩
  · rw [upd_ne (ne_of_none e e6)]
    exact R.fr b x e h1 h2
  · obtain ⟨h1, h2, h3, ws, h4⟩ := R.ioh b hb
    exact ⟨h1, h2, h3, ws, by rw [upd_ne (nio b hb)]; exact h4⟩
  · by_cases hj : i = j
    · subst hj
      rw [List.getElem?_set_self hi] at e
      cases e
      exact ⟨a, xs', hv, upd_same, hk, e4, e5, e6⟩
    · have old := R.sl j sl (far hj e)
      cases sl with
      | un => trivial
      | fn n => exact old
      | dat d => exact old
      | own es =>
        obtain ⟨b, ws, x1, h1, h2, h3, h4⟩ := old
        have nb : b ≠ a := fun z => by
          rw [z, e2] at h1
          cases h1
        exact ⟨b, ws, x1, by rw [upd_ne nb]; exact h1, h2, h3, h4⟩
      | io es =>
        obtain ⟨b, ws, x0, x1, h1, h2, h3, h4⟩ := old
        exact ⟨b, ws, x0, x1, by rw [upd_ne (nio b (by rw [x0]; simp))]; exact h1, h2, h3, h4⟩
      | dic es =>
        obtain ⟨b, ws, x1, h1, h2, h3, h4⟩ := old
        have nb : b ≠ a := fun z => hj (R.dk i j a kvs es q (far hj e) hv (by rw [x1, z]))
        exact ⟨b, ws, x1, by rw [upd_ne nb]; exact h1, h2, h3, h4⟩
  · obtain ⟨x', g1⟩ := dics h1
    obtain ⟨y', g2⟩ := dics h2
    exact R.dk j m b x' y' g1 g2 h3 h4
end
section
variable {c : Co} {X : Cx} {e : Expr} {pos : Pos}
def sSetK (i : Nat) (fk fe : SE) : SS := fun ρ => match fe ρ with
  | some (.d y, ρ1) => match dicAt ρ1 i with
    | none => none
    | some _ => match fk ρ1 with
      | some (.d dk, ρ2) => match dicAt ρ2 i with
        | some kvs => match dkey dk with
          | some k => if kvs.length < 1000000 then some (.nx, ρ2.set i (.dic (dPut kvs k dk y))) else none
          | none => none
        | none => none
      | _ => none
  | _ => none
theorem es_setK (i : Nat) {fk fe : SE} {st : Stmt} {ie : Expr} (hK : X.K = c.K) (h : ∀ {te ti : TE}, PE X e te → PE X ie ti → PS X st (tAsg te (gSub (tVar i) ti (rSetK X.K)))) (he : EO c X e fe) (hi : EO c X ie fk) : ES c X st (sSetK i fk fe) := by
  refine ⟨ps_imp (h he.pe hi.pe) fun D σ H ⟨F, ρ, fl, ρ', R, e, k⟩ => ?_⟩
  unfold sSetK at e
  cases e1 : fe ρ with
  | none => rw [e1] at e; cases e
  | some p =>
    obtain ⟨x, ρ1⟩ := p
    rw [e1] at e
    cases x with
    | s i => cases e
    | d y =>
      dsimp only at e
      cases e2 : dicAt ρ1 i with
      | none => rw [e2] at e; cases e
      | some rs1 =>
        rw [e2] at e
        dsimp only at e
        split at e
        · rename_i dk ρ2 e3
          cases e4 : dicAt ρ2 i with
          | none => rw [e4] at e; cases e
          | some kvs =>
            rw [e4] at e
            dsimp only at e
            cases e5 : dkey dk with
            | none => rw [e5] at e; cases e
            | some kk =>
              rw [e5] at e
              dsimp only at e
              split at e
              · rename_i hn
                cases e
                refine ⟨F, ρ, _, ρ1, R, e1, fun v H1 F1 s1 R1 o1 => ?_⟩
                obtain ⟨r, xs1, v0, v1, v2, v3, v4, v5⟩ := R1.sl i _ (dicAt_use e2)
                refine ⟨.ref r, vAt_eq v0, F1, ρ1, _, ρ2, R1, e3, fun w H2 F2 s2 R2 o2 => ?_⟩
                have q := dicAt_use e4
                obtain ⟨r2, xs2, w0, w1, w2, w3, w4, w5⟩ := R2.sl i _ q
                rw [v0] at w0
                cases w0
                have o2' : Dz c.K F2 w dk := o2
                obtain ⟨b, rfl⟩ := key_ref o2' e5
                refine ⟨dk, kk, r, b, xs2, kvs, rfl, rfl, w1, ?_, ?_, e5, by rw [kv_len w2]; exact hn, ?_⟩
                · rw [hK]
                  exact dpKv_same R2.sub w2
                · rw [hK]
                  exact dp_same R2.sub o2'
                · exact k σ _ F2 (s1.trans s2) (R2.putDic q v0 (put_kv (dkey_use e5).1 o2' (dp_same s2 o1) w2))
              · cases e
        · cases e
/-! ### {} and {k: v} -/
end
end PD
/-! Plain data: x = {}, x = {k: v} -/
namespace PD
open PySem PySem.Spec PyProof.Rows L2 GxR LG
section
variable {X : Cx} {pos : Pos}
def tNew1 (tk tv : TE) : TE := fun σ H Q => ∀ p, H p = none → tk σ (upd H p (DkO p [])) fun y H1 => tv σ H1 fun v H2 =>
  H2 p = some (DkO p []) ∧ ∃ dk k b, y = .ref b ∧ Dz X.K H2 (.ref b) dk ∧ dkey dk = some k ∧ Q (.ref p) (upd H2 p (DkO p [(k, b, v)]))
theorem new_obj {P : Program} {w : World} {H : Hp} (h : Heap) (hb : sysModules < h.objs.size) : ObjOk P w H (h.push { cls := .type "dict", data := .dict #[] }) h.objs.size (DkO h.objs.size []) :=
  ⟨⟨beq_eq_false_iff_ne.mpr (Ne.symm (Nat.ne_of_lt hb)), Nat.zero_le _, List.nodup_nil, fun _ z => (by cases z), w, [], _, #[], 0, .nil, Heap.get?_push_size _ rfl, ⟨rfl, rfl, rfl⟩, rfl, rfl⟩, ⟨_, Heap.get?_push_size _ rfl⟩, fun h1 h2 c k => by
      obtain ⟨c1, c2, c3, c4, w, us', o', es', ep', c5, c6, c7⟩ := c
      exact ⟨c1, c2, c3, c4, w, us', o', es', ep', c5, k _ c6, c7⟩⟩
def n1Q (X : Cx) (p : Addr) (Q : VK) : List (V × V) → Hp → Prop := fun ps H2 => match ps with
  | [(y, v)] => H2 p = some (DkO p []) ∧ ∃ dk k b, y = .ref b ∧ Dz X.K H2 (.ref b) dk ∧ dkey dk = some k ∧ Q (.ref p) (upd H2 p (DkO p [(k, b, v)]))
  | _ => False
theorem pe_new1 {k v : Expr} {tk tv : TE} (hu : X.A.units + 20 < cLine) (hk : PE X k tk) (hv : PE X v tv) : PE X (.Dict [some k] [v] pos) (tNew1 (X := X) tk tv) := by
  refine ⟨fun pins s σ H Q I q => ?_⟩
  have hn := I.hok.fresh (Nat.le_refl s.heap.objs.size)
  have I1 := I.laid (a := s.heap.objs.size) (o := DkO s.heap.objs.size []) (h' := s.heap.push { cls := .type "dict", data := .dict #[] }) (t' := s.toks) (fun _ _ z => Heap.get?_push_of_some _ z) (Nat.le_refl _) (new_obj s.heap I.big)
  have st : tPairs [(tk, tv)] σ (upd H s.heap.objs.size (DkO s.heap.objs.size [])) (n1Q X s.heap.objs.size Q) := q _ hn
  have pr := (pps_cons (pos := pos) hk hv pps_nil).run pins _ σ _ _ I1 st
  have zp := zip_pairTrees [some k] [v] X.env pos rfl rfl
  have ln := pairTrees_length [some k] [v] X.env pos rfl rfl
  have ne0 : pairTrees [some k] [v] X.env pos ≠ [] := fun z => by
    rw [z] at ln
    cases ln
  rw [arm_eval_Dict]
  rw [zp]
  rw [dictDisplay_pairs _ ne0 (by rw [ln]; show (1 : Nat) < 17; omega)]
  refine wpAny_bind (wpAny_standAt (wpAny_bind ?_))
  refine wpAny_subDictH (knd := nestedKind X.prog X.w) (show X.A.units + 8 < cLine by omega) (by rw [ln]; show (1 : Nat) ≤ 15; omega) (wpAny_mono pr (fun ws s2 hh => ?_) fun _ _ e => e)
  obtain ⟨ps, H2, I2, rel, nq⟩ := hh
  match ps, nq, rel with
  | [(y, v')], ⟨hp, dk, kk, b, ey, hy, ek, qq⟩, .cons (b := wq) r t =>
    cases t
    subst ey
    obtain ⟨r1, r2⟩ := r
    obtain ⟨wk, wv⟩ := wq
    have r1 : wk = Value.ref b := r1
    have r2 : RelV v' wv := r2
    subst r1
    obtain ⟨e1, e2, _⟩ := dkey_use ek
    obtain ⟨hd, _, _, _, us, ru, dd⟩ := dct_at I2 hp DzKv.nil
    cases ru
    refine ⟨[(kk, b, wv)], ⟨rfl, rfl, ⟨key_in I2 hy e1 rfl, e2⟩, trivial⟩, dd, fun h' tk' dd' hs => ?_⟩
    obtain ⟨ob, es, ep, hq, h2, h3, h4, _, h5⟩ := dd'
    have z := sizeLine_eq
    refine wpAny_pure ⟨.ref s.heap.objs.size, _, d_write (ob := DkO s.heap.objs.size [(kk, b, v')]) I2 (by rw [hp]; exact True.intro) hs ⟨ob, hq⟩ ⟨⟨hd, by rw [List.length_singleton]; omega, by simp, fun x hx => by rw [List.mem_singleton.mp hx]; exact ⟨keyD_pl e1, e2⟩, X.w, [(kk, b, wv)], ob, es, ep, .cons ⟨rfl, rfl, r2⟩ .nil, hq, h2, h3, h4⟩, ⟨ob, hq⟩, fun h1 h2 c k => ?_⟩, rfl, qq⟩
    obtain ⟨c1, c2, c3, c4, w, us', o', es', ep', c5, c6, c7⟩ := c
    exact ⟨c1, c2, c3, c4, w, us', o', es', ep', c5, k _ c6, c7⟩
end
/-! ### a slot that gets a new dict -/
section
variable {c : Co} {F H : Hp} {σ : L2.St} {ρ : Ev}
/-- no slot's own thing stands at p -/
def Away (σ : L2.St) (ρ : Ev) (p : Addr) : Prop := (∀ (j : Nat) es, ρ[j]? = some (Sl.own es) → vAt σ j ≠ some (.ref p)) ∧ ∀ (j : Nat) es, ρ[j]? = some (Sl.dic es) → vAt σ j ≠ some (.ref p)
theorem Rl.away (R : Rl c F H σ ρ) {p : Addr} (hp : H p = none) : Away σ ρ p := by
  refine ⟨fun j es e z => ?_, fun j es e z => ?_⟩
  · obtain ⟨a, ws, e1, e2, _⟩ := R.sl j _ e
    rw [z] at e1
    cases e1
    rw [hp] at e2
    cases e2
  · obtain ⟨a, ws, e1, e2, _⟩ := R.sl j _ e
    rw [z] at e1
    cases e1
    rw [hp] at e2
    cases e2
theorem Rl.newDic (R : Rl c F H σ ρ) {i : Nat} {p : Addr} {xs : List (NestedKey × Addr × V)} {kvs : List (PyData × PyData)} (hF : F p = none) (nT : p ∉ c.T) (h0 : c.H0 p = none) (aw : Away σ ρ p) (hk : DzKv c.K F xs kvs) : Rl c F (upd H p (DkO p xs)) (σ.set i (some (.ref p))) (ρ.set i (.dic kvs)) := by
  have nio : ∀ b ∈ c.io, b ≠ p := fun b hb z => (R.ioh b hb).1 (by rw [z]; exact h0)
  have far : ∀ (j : Nat) sl, (ρ.set i (.dic kvs))[j]? = some sl → (i = j ∧ sl = .dic kvs ∧ i < ρ.length) ∨ (i ≠ j ∧ ρ[j]? = some sl) := fun j sl e => by
    by_cases hj : i = j
    · subst hj
      by_cases hi : i < ρ.length
      · rw [List.getElem?_set_self hi] at e
        cases e
        exact .inl ⟨rfl, rfl, hi⟩
      · rw [List.getElem?_eq_none (by simpa using hi)] at e
        cases e
    · rw [List.getElem?_set_ne hj] at e
      exact .inr ⟨hj, e⟩
  refine ⟨by rw [List.length_set, List.length_set]; exact R.len, fun b x e => ?_, R.ft, fun P hP => ?_, R.mono, fun b x e h1 h2 => ?_, fun b hb => ?_, fun j sl e => ?_, fun j m b x y e1 e2 e3 e4 => ?_, fun j m x y e1 e2 => ?_, R.nw, R.tf, fun j m b x y e1 e2 e3 e4 => ?_⟩
  · rw [upd_ne (ne_of_none e hF)]
    exact R.sub _ _ e
  · obtain ⟨ps, e, t⟩ := R.tb P hP
    have nP : P ≠ p := fun z => nT (by rw [← z]; exact hP)
    exact ⟨ps, by rw [upd_ne nP]; exact e, t⟩
  · rw [upd_ne (ne_of_none e h0)]
    exact R.fr b x e h1 h2
  · obtain ⟨h1, h2, h3, ws, h4⟩ := R.ioh b hb
    exact ⟨h1, h2, h3, ws, by rw [upd_ne (nio b hb)]; exact h4⟩
  · rcases far j sl e with ⟨rfl, rfl, hi⟩ | ⟨hj, e⟩
    · exact ⟨p, xs, vAt_set (by rw [R.len]; exact hi), upd_same, hk, hF, nT, h0⟩
    · rw [vAt_ne hj]
      have old := R.sl j sl e
      cases sl with
      | un => trivial
      | fn n => exact old
      | dat d => exact old
      | own es =>
        obtain ⟨b, ws, x1, h1, h2, h3, h4⟩ := old
        have nb : b ≠ p := fun z => aw.1 j es e (by rw [x1, z])
        exact ⟨b, ws, x1, by rw [upd_ne nb]; exact h1, h2, h3, h4⟩
      | io es =>
        obtain ⟨b, ws, x0, x1, h1, h2, h3, h4⟩ := old
        exact ⟨b, ws, x0, x1, by rw [upd_ne (nio b (by rw [x0]; simp))]; exact h1, h2, h3, h4⟩
      | dic es =>
        obtain ⟨b, ws, x1, h1, h2, h3, h4⟩ := old
        have nb : b ≠ p := fun z => aw.2 j es e (by rw [x1, z])
        exact ⟨b, ws, x1, by rw [upd_ne nb]; exact h1, h2, h3, h4⟩
  · rcases far j _ e1 with ⟨_, h, _⟩ | ⟨hj, e1⟩
    · cases h
    · rcases far m _ e2 with ⟨_, h, _⟩ | ⟨hm, e2⟩
      · cases h
      · rw [vAt_ne hj] at e3
        rw [vAt_ne hm] at e4
        exact R.dj j m b x y e1 e2 e3 e4
  · rcases far j _ e1 with ⟨_, h, _⟩ | ⟨hj, e1⟩
    · cases h
    · rcases far m _ e2 with ⟨_, h, _⟩ | ⟨hm, e2⟩
      · cases h
      · exact R.iu j m x y e1 e2
  · rcases far j _ e1 with ⟨rfl, _, hi⟩ | ⟨hj, e1⟩
    · rcases far m _ e2 with ⟨rfl, _, _⟩ | ⟨hm, e2⟩
      · rfl
      · rw [vAt_set (by rw [R.len]; exact hi)] at e3
        cases e3
        rw [vAt_ne hm] at e4
        exact absurd e4 (aw.2 m y e2)
    · rcases far m _ e2 with ⟨rfl, _, hi⟩ | ⟨hm, e2⟩
      · rw [vAt_set (by rw [R.len]; exact hi)] at e4
        cases e4
        rw [vAt_ne hj] at e3
        exact absurd e3 (aw.2 j x e1)
      · rw [vAt_ne hj] at e3
        rw [vAt_ne hm] at e4
        exact R.dk j m b x y e1 e2 e3 e4
/-- a thing on the side, kept through an expression -/
theorem Rl.guardD {D : Addr} {o : HO} (R : Rl c F H σ ρ) (hD : H D = some o) (nF : F D = none) (nT : D ∉ c.T) (h0 : c.H0 D = none) (aw : Away σ ρ D) : Rl (c.re (upd c.H0 D o) c.F0 c.io) F H σ ρ := by
  have nio : D ∉ c.io := fun z => (R.ioh D z).1 h0
  refine ⟨R.len, R.sub, R.ft, R.tb, R.mono, fun b x e h1 h2 => ?_, fun a ha => ?_, fun i sl e => ?_, R.dj, R.iu, fun a h1 h2 => ?_, R.tf, R.dk⟩
  · by_cases hb : b = D
    · have e' : upd c.H0 D o b = some x := e
      rw [hb, upd_same] at e'
      rw [hb, hD]
      exact e'
    · have e' : upd c.H0 D o b = some x := e
      rw [upd_ne hb] at e'
      exact R.fr b x e' h1 h2
  · have na : a ≠ D := fun z => nio (by rw [← z]; exact ha)
    obtain ⟨h1, h2⟩ := R.ioh a ha
    refine ⟨?_, h2⟩
    show upd c.H0 D o a ≠ none
    rw [upd_ne na]
    exact h1
  · have q := R.sl i sl e
    cases sl with
    | un => trivial
    | fn n => exact q
    | dat d => exact q
    | own es =>
      obtain ⟨a, ws, e1, e2, e3, e4, e5, e6⟩ := q
      have na : a ≠ D := fun z => aw.1 i es e (by rw [e1, z])
      refine ⟨a, ws, e1, e2, e3, e4, e5, ?_⟩
      show upd c.H0 D o a = none
      rw [upd_ne na]
      exact e6
    | io es => exact q
    | dic es =>
      obtain ⟨a, ws, e1, e2, e3, e4, e5, e6⟩ := q
      have na : a ≠ D := fun z => aw.2 i es e (by rw [e1, z])
      refine ⟨a, ws, e1, e2, e3, e4, e5, ?_⟩
      show upd c.H0 D o a = none
      rw [upd_ne na]
      exact e6
  · by_cases ha : a = D
    · rw [ha]
      exact nF
    · refine R.nw a ?_ h2
      have h1' : upd c.H0 D o a ≠ none := h1
      rw [upd_ne ha] at h1'
      exact h1'
theorem Rl.unguardD {D : Addr} {o : HO} (R : Rl (c.re (upd c.H0 D o) c.F0 c.io) F H σ ρ) (h0 : c.H0 D = none) (nT : D ∉ c.T) (nio : D ∉ c.io) (f0 : c.F0 D = none) : Rl c F H σ ρ ∧ H D = some o ∧ F D = none ∧ Away σ ρ D := by
  obtain ⟨R1, a, b, d⟩ := Rl.unguard (c := c) (D := D) (o := o) R h0 nT nio f0
  refine ⟨R1, a, b, d, fun j es e z => ?_⟩
  obtain ⟨a, ws, e1, e2, e3, e4, e5, e6⟩ := R.sl j _ e
  rw [z] at e1
  cases e1
  have e6' : upd c.H0 D o D = none := e6
  rw [upd_same] at e6'
  cases e6'
end
section
variable {c : Co} {X : Cx} {e : Expr} {pos : Pos}
theorem Rl.notT {F H : Hp} {σ : L2.St} {ρ : Ev} (R : Rl c F H σ ρ) {p : Addr} (hp : H p = none) : p ∉ c.T := fun z => by
  obtain ⟨ps, q, _⟩ := R.tb p z
  rw [hp] at q
  cases q
def sNew1 (i : Nat) (fk fv : SE) : SS := fun ρ => match fk ρ with
  | some (.d dk, ρ1) => match fv ρ1 with
    | some (.d d, ρ2) => match dkey dk with
      | some _ => some (.nx, ρ2.set i (.dic [(dk, d)]))
      | none => none
    | _ => none
  | _ => none
theorem pe_any {k : Expr} {f : SE} (h : ∀ H0 F0 io, EO (c.re H0 F0 io) X k f) : PE X k (fun σ H Q => ∃ H0 F0 io, rE (c.re H0 F0 io) f σ H Q) := ⟨fun pins s σ H Q I ⟨H0, F0, io, q⟩ => (h H0 F0 io).pe.run pins s σ H Q I q⟩
theorem es_new1 (i : Nat) {k v : Expr} {fk fv : SE} {st : Stmt} (hK : X.K = c.K) (hu : X.A.units + 20 < cLine) (h : ∀ {te : TE}, PE X (.Dict [some k] [v] pos) te → PS X st (tAsg te (gName i)))
    (hk : ∀ H0 F0 io, EO (c.re H0 F0 io) X k fk) (hv : ∀ H0 F0 io, EO (c.re H0 F0 io) X v fv) : ES c X st (sNew1 i fk fv) := by
  refine ⟨ps_imp (h (pe_new1 hu (pe_any hk) (pe_any hv))) fun D σ H ⟨F, ρ, fl, ρ', R, e, kk⟩ => fun p hp => ?_⟩
  unfold sNew1 at e
  cases e1 : fk ρ with
  | none => rw [e1] at e; cases e
  | some q1 =>
    obtain ⟨x, ρ1⟩ := q1
    rw [e1] at e
    cases x with
    | s i => cases e
    | d dk =>
      dsimp only at e
      cases e2 : fv ρ1 with
      | none => rw [e2] at e; cases e
      | some q2 =>
        obtain ⟨y, ρ2⟩ := q2
        rw [e2] at e
        cases y with
        | s i => cases e
        | d d =>
          dsimp only at e
          cases e3 : dkey dk with
          | none => rw [e3] at e; cases e
          | some kd =>
            rw [e3] at e
            cases e
            have nF := R.sub.free hp
            have R0 := (R.xt (Xt.raw (o := DkO p []) R.sub hp)).guardD (D := p) (o := DkO p []) upd_same nF (R.notT hp) (R.h0_of_new hp) (R.away hp)
            have nio : p ∉ c.io := fun z => (R.ioh p z).1 (R.h0_of_new hp)
            have f0 : c.F0 p = none := by
              cases q : c.F0 p with
              | none => rfl
              | some o =>
                have := R.mono p o q
                rw [nF] at this
                cases this
            refine ⟨_, c.F0, c.io, F, ρ, _, ρ1, R0, e1, fun yv H1 F1 s1 R1 o1 => ⟨_, c.F0, c.io, F1, ρ1, _, ρ2, R1, e2, fun vv H2 F2 s2 R2 o2 => ?_⟩⟩
            obtain ⟨R3, hp2, nF2, aw2⟩ := Rl.unguardD (c := c) R2 (R.h0_of_new hp) (R.notT hp) nio f0
            have o1' : Dz c.K F2 yv dk := dp_same s2 o1
            obtain ⟨b, rfl⟩ := key_ref o1' e3
            refine ⟨hp2, dk, kd, b, rfl, ?_, e3, kk _ _ F2 (s1.trans s2) (R3.newDic nF2 (R.notT hp) (R.h0_of_new hp) aw2 (.cons (dkey_use e3).1 o1' o2 .nil))⟩
            rw [hK]
            exact dp_same R3.sub o1'
end
end PD
/-! Plain data: defs that are handed defs -/
namespace PD
open PySem PySem.Spec PyProof.Rows L2 GxR LG
/-- the promise of a def on data whose last arguments are the defs at fs -/
def spF (K : PySem.W.Frag) (T fs : List Addr) (f : List PyData → Option PyData) : Sp := fun vs H Q E => ∃ vs0, vs = vs0 ++ fs.map V.ref ∧ spP K T f vs0 H Q E
def startF (n m : Nat) (ds : List PyData) : Ev := ds.map Sl.dat ++ ((List.range m).map Sl.fn ++ List.replicate (n - ds.length - m) Sl.un)
def bodyF (g : SS) (n m : Nat) (ds : List PyData) : Option PyData := match g (startF n m ds) with
  | some (.rt d, _) => some d
  | some (.nx, _) => some .none
  | _ => none
section
variable {K : PySem.W.Frag} {T : List Addr} {F H : Hp}
theorem startF_cases {n m : Nat} {ds : List PyData} {i : Nat} {sl : Sl} (h : (startF n m ds)[i]? = some sl) : (∃ d, ds[i]? = some d ∧ sl = .dat d) ∨ (∃ j, i = ds.length + j ∧ j < m ∧ sl = .fn j) ∨ sl = .un := by
  unfold startF at h
  by_cases hi : i < ds.length
  · rw [List.getElem?_append_left (by rw [List.length_map]; exact hi), List.getElem?_map, List.getElem?_eq_getElem hi] at h
    cases h
    exact .inl ⟨_, List.getElem?_eq_getElem hi, rfl⟩
  · rw [List.getElem?_append_right (by rw [List.length_map]; omega), List.length_map] at h
    by_cases hj : i - ds.length < m
    · rw [List.getElem?_append_left (by rw [List.length_map, List.length_range]; exact hj), List.getElem?_map, List.getElem?_range hj] at h
      cases h
      exact .inr (.inl ⟨i - ds.length, by omega, hj, rfl⟩)
    · rw [List.getElem?_append_right (by rw [List.length_map, List.length_range]; omega)] at h
      obtain ⟨_, e⟩ := List.getElem?_eq_some_iff.mp h
      rw [List.getElem_replicate] at e
      exact .inr (.inr e.symm)
theorem rl_startF {N : List Str} {vs : List V} {ds : List PyData} {fs : List Addr} (hd : DzAll K F vs ds) (hn : ds.length + fs.length ≤ N.length) (s : Same F H) (t : ∀ P ∈ T, F P = none ∧ TabG H P) (tf : TF K F) :
    Rl ⟨K, T, H, F, [], fs⟩ F H (L2.start N (vs ++ fs.map V.ref)) (startF N.length fs.length ds) := by
  have hl := dpAll_len hd
  refine ⟨?_, s, fun P hP => (t P hP).1, fun P hP => (t P hP).2, Same.refl _, fun b o e _ _ => e, fun a ha => (by cases ha), fun i sl e => ?_, fun i j a x y e1 => ?_, fun i j x y e1 => ?_, fun a _ h => h, tf, fun i j a x y e1 => ?_⟩
  · unfold L2.start startF
    simp only [List.length_append, List.length_map, List.length_replicate, List.length_range]
    omega
  · rcases startF_cases e with ⟨d, e1, rfl⟩ | ⟨j, rfl, hj, rfl⟩ | rfl
    · obtain ⟨v, e2, dv⟩ := dpAll_at hd e1
      obtain ⟨hi, e3⟩ := List.getElem?_eq_some_iff.mp e2
      refine ⟨v, ?_, dv⟩
      rw [vAt_start (by rw [List.length_append]; omega), List.getElem_append_left hi, e3]
    · refine ⟨fs[j], List.getElem?_eq_getElem hj, ?_⟩
      rw [vAt_start (by rw [List.length_append, List.length_map]; omega), List.getElem_append_right (by omega), List.getElem_map]
      congr 3
      omega
    · trivial
  · rcases startF_cases e1 with ⟨d, _, h⟩ | ⟨_, _, _, h⟩ | h <;> cases h
  · rcases startF_cases e1 with ⟨d, _, h⟩ | ⟨_, _, _, h⟩ | h <;> cases h
  · rcases startF_cases e1 with ⟨d, _, h⟩ | ⟨_, _, _, h⟩ | h <;> cases h
theorem fn_pureF {P : Program} {w : World} {mg : Str → Option Value} {base : Heap} {x qual : Str} {st : Stmt} {f : Addr} {fd : FuncData} {N ps : List Str} {k : Nat} {fs : List Addr} (Fu : Fun K x qual st f fd) (S : FnScope N ps (defScope st)) (g : SS) (hnp : ps.length ≤ N.length)
    (hb : ∀ (cdv : Value) (A : Around) (outer : List Env) (s : Shared) (H : Hp) (E : XK) (H0 F0 : Hp) (io : List Addr), Room k (A.deeper (envOfC qual (defScope st) s.heap.objs.size f cdv)) →
      ESs ⟨K, T, H0, F0, io, fs⟩ (cxOf CX0 P w K mg base N qual (defScope st) f cdv A outer s H E).nox (defBody st) g) :
    FnOk P w K mg base CX0 (k + 1) f fd ps (spF K T fs (fun ds => if ds.length + fs.length = ps.length then bodyF g N.length fs.length ds else none)) := by
  refine Fu.ok S (fun vs H Q E h => ?_) (fun cdv A outer s H vs Q E hr h => ?_)
  · obtain ⟨vs0, rfl, F, ds, d, hd, _, _, _, e, _⟩ := h
    dsimp only at e
    split at e
    · rename_i hl
      rw [List.length_append, List.length_map, dpAll_len hd, hl]
    · cases e
  · obtain ⟨vs0, rfl, F, ds, d, hd, sF, t, tf, e, q⟩ := h
    dsimp only at e
    split at e
    · rename_i hl
      have es := hb cdv A outer s H E H F [] hr
      refine ⟨_, es.pss, ?_⟩
      have R := rl_startF (N := N) (fs := fs) hd (by rw [hl]; exact hnp) sF t tf
      unfold bodyF at e
      cases e1 : g (startF N.length fs.length ds) with
      | none => rw [e1] at e; cases e
      | some p =>
        obtain ⟨fl, ρ'⟩ := p
        rw [e1] at e
        refine ⟨F, _, fl, ρ', R, e1, fun σ' H' F' s' R' => ?_⟩
        have fin : ∀ v, Dz K F' v d → Q v H' := fun v dv => q v H' F' s' R'.sub (fun P hP => ⟨R'.ft P hP, R'.tb P hP⟩) (fun b o e1 e2 => R'.fr b o e1 e2 (by simp)) R'.nw R'.tf dv
        cases fl with
        | rt d' =>
          cases e
          exact fun v dv => fin v dv
        | nx =>
          cases e
          exact fin .non .non
        | bk => cases e
        | ct => cases e
    · cases e
end
section
variable {c : Co} {X : Cx} {a b : Expr} {es : List Expr} {pos : Pos}
/-- a call of the def in a slot -/
def sCallV (i n : Nat) (f : List PyData → Option PyData) (fa : SA) : SE := fun ρ => match ρ[i]? with
  | some (.fn m) => if m = n then sCall f [] fa ρ else none
  | _ => none
theorem eo_callV (i n : Nat) {r : Addr} {f : List PyData → Option PyData} {fa : SA} {ce : Expr} {E : XK} (hfv : c.fv[n]? = some r) (h : ∀ {t : TA}, PA X es t → PE X ce (tCallL i r (spP c.K c.T f) [] E t)) (ha : EA c X es fa) : EO c X ce (sCallV i n f fa) := by
  refine ⟨pe_imp (h ha.pa) fun σ H Q ⟨F, ρ, x, ρ', R, e, k⟩ => ?_⟩
  unfold sCallV at e
  split at e
  · rename_i m q
    split at e
    · rename_i hm
      subst hm
      obtain ⟨r', e1, e2⟩ := R.sl i _ q
      rw [hfv] at e1
      cases e1
      refine ⟨vAt_eq e2, ?_⟩
      unfold sCall at e
      cases e1 : fa ρ with
      | none => rw [e1] at e; cases e
      | some p =>
        obtain ⟨xs, ρ1⟩ := p
        rw [e1] at e
        dsimp only at e
        cases e2 : allD xs with
        | none => rw [e2] at e; cases e
        | some ds =>
          rw [e2] at e
          dsimp only at e
          cases e3 : f (ds ++ []) with
          | none => rw [e3] at e; cases e
          | some d =>
            rw [e3] at e
            cases e
            refine ⟨F, ρ, xs, _, R, e1, fun vs H1 F1 s1 R1 o1 => ?_⟩
            exact ⟨F1, ds ++ [], d, dpAll_app (allD_ok o1 e2) .nil, R1.sub, fun P hP => ⟨R1.ft P hP, R1.tb P hP⟩, R1.tf, e3, fun v H' F' f1 s2 t h1 n tf dv => k v H' F' (s1.trans f1) (R1.call f1 s2 t h1 n tf) dv⟩
    · cases e
  · cases e
/-- f(a, g), g a def -/
theorem eo_callF1 {f : List PyData → Option PyData} {r : Addr} {fa : SE} {ce : Expr} {E : XK} (h : ∀ {t : TA}, PA X [a, b] t → PE X ce (tCall (spF c.K c.T [r] f) [] E t)) (ha : EO c X a fa) (hb : PE X b (tC (.ref r)))
    (h1 : starEach [a, b] X.env = (false, eval a X.env) :: starEach [b] X.env := by rfl) (h2 : starEach [b] X.env = (false, eval b X.env) :: starEach [] X.env := by rfl) : EO c X ce (sCall f [] (sCons fa sNil)) := by
  refine ⟨pe_imp (h (pa_cons (hs := h1) ha.pe (pa_cons (hs := h2) hb pa_nil))) fun σ H Q ⟨F, ρ, x, ρ', R, e, k⟩ => ?_⟩
  unfold sCall sCons sNil at e
  cases e1 : fa ρ with
  | none => rw [e1] at e; cases e
  | some p =>
    obtain ⟨y, ρ1⟩ := p
    rw [e1] at e
    cases y with
    | s i => cases e
    | d d0 =>
      dsimp only [allD] at e
      cases e3 : f [d0] with
      | none =>
        simp [e3] at e
      | some d =>
        simp only [Option.map_some, List.append_nil, e3, Option.some.injEq, Prod.mk.injEq] at e
        obtain ⟨rfl, rfl⟩ := e
        refine ⟨F, ρ, _, _, R, e1, fun v H1 F1 s1 R1 o1 => ?_⟩
        show spF c.K c.T [r] f ([v, .ref r] ++ []) H1 Q E
        exact ⟨[v], rfl, F1, [d0], d, .cons o1 .nil, R1.sub, fun P hP => ⟨R1.ft P hP, R1.tb P hP⟩, R1.tf, e3, fun v H' F' f1 s2 t h1 n tf dv => k v H' F' (s1.trans f1) (R1.call f1 s2 t h1 n tf) dv⟩
end
end PD
/-! Plain data: len(d) -/
namespace PD
open PySem PySem.Spec PyProof.Rows L2 GxR LG
section
variable {X : Cx} {K : PySem.W.Frag}
theorem hu20 {A : Around} {k : Nat} (hr : Room k A) : A.units + 20 < cLine := by have := hr.un; omega
end
end PD
/-! Plain data: max(d.values()) of ints -/
namespace PD
open PySem PySem.Spec PyProof.Rows L2 GxR LG
section
variable {X : Cx} {K : PySem.W.Frag} {c : Co}
theorem kv_ints {H : Hp} : ∀ {xs : List (NestedKey × Addr × V)} {us : List (NestedKey × Addr × Value)} {kvs : List (PyData × PyData)} {is : List Int}, Paired DeR xs us → DzKv K H xs kvs → kvs.map (·.2) = is.map PyData.int →
    ∀ (i : Nat) (y : NestedKey × Addr × Value), us[i]? = some y → ∃ t, y.2.2 = Value.int (is.getD i 0) t
  | _, _, _, _, .nil, _, _, i, y, h => by simp at h
  | (kk, ak, vk) :: xs, u :: us, (dk, d) :: kvs, is, .cons r t, .cons e1 h1 h2 hs, e, i, y, h => by
    cases is with
    | nil => cases e
    | cons j is =>
      rw [List.map_cons, List.map_cons] at e
      injection e with e0 e'
      have e0' : d = .int j := e0
      subst e0'
      cases i with
      | zero =>
        have : u = y := Option.some.inj h
        subst this
        obtain ⟨r1, r2, r3⟩ := r
        cases h2
        exact r3
      | succ i =>
        exact kv_ints t hs e' i y h
def mxI (is : List Int) : Int := is.tail.foldl max (is.headD 0)
def tMaxV (K : PySem.W.Frag) (td : TE) : TE := fun σ H Q => td σ H fun x H1 => ∃ a xs kvs is, x = V.ref a ∧ H1 a = some (DkO a xs) ∧ DzKv K H1 xs kvs ∧ kvs.map (·.2) = is.map PyData.int ∧ is ≠ [] ∧ Q (.int (mxI is)) H1
variable {o : Expr} {p pos apos mpos : Pos} {td : TE}
theorem pe_maxV (hc : X.calm = true) (hg : Gl X "max") (hm : X.mg "max" = none) (hd : PE X o td) (hbase : attributeBase o "values" X.env (eval o X.env) = eval o X.env := by rfl) (hline : (apos.endLine == mpos.line) = true := by rfl)
    (hse : starEach [Expr.Call (.Attribute o "values" apos) [] [] mpos] X.env = [(false, eval (Expr.Call (.Attribute o "values" apos) [] [] mpos) X.env)] := by rfl) :
    PE X (.Call (.Name "max" p) [.Call (.Attribute o "values" apos) [] [] mpos] [] pos) (tMaxV X.K td) := by
  refine ⟨fun pins s σ H Q I h => ?_⟩
  refine wpAny_Call_Name_kw (ld_blt I hg hm (u := .builtin "max") (by first | rfl | decide +kernel) ?_ (by first | decide +kernel | decide) (by first | decide +kernel | decide))
  rw [hse]
  refine PySem.callWith_builtin1 (wpAny_Call_method0_late hbase hline (thn (hd.run pins s σ H _ I h) fun v s1 ⟨x, H1, I1, r1, a, xs, kvs, is, ex, ha, hk, hv, hne, q⟩ => ?_))
  subst ex
  obtain rfl : v = Value.ref a := r1
  obtain ⟨hsys, hz, _, _, us, rel, dof⟩ := dct_at I1 ha hk
  obtain ⟨es, ep, raw, esz, ent⟩ := dof.raw
  have raw' := raw
  obtain ⟨ob, ho, ex, hdat⟩ := raw'
  have klen := kv_len hk
  have ulen := DeR.len rel
  refine ⟨"dict", "dict.values", F.plainAttrs_dict, F.slot_dict_values, F.type_dict_values, ⟨ob, ho, ex.1⟩, fun b e => ?_, Calls.callWith_builtin rfl (PySem.evalArgs_none ?_)⟩
  · cases e
    exact ⟨ob, ho, ex.2.1⟩
  refine call_meetsIn F.slot_dict_values ⟨ob, ho, ex.1⟩ F.entry_dict_values (F.args_dict_values_1 _) (meets_dict_values_raw a hsys) ⟨⟨es, ep, raw⟩, ?_⟩
  have k1 : ∀ b u, s1.heap.get? b = some u → (s1.heap.push { cls := .type "dict_values", data := .fields #[.ref a] }).get? b = some u := fun b u e => Heap.get?_push_of_some _ e
  have raw1 : (s1.heap.push { cls := .type "dict_values", data := .fields #[.ref a] }).DictRaw a es ep := raw.at fun b e => k1 a b e
  have hlen : is.length = es.size := by
    have e1 := congrArg List.length hv
    rw [List.length_map, List.length_map] at e1
    omega
  have hpos : 0 < es.size := by
    rw [← hlen]
    exact List.length_pos_iff.mpr hne
  have hval : ∀ (i : Nat) (v : Value), (∃ y, us[i]? = some y ∧ v = y.2.2) → ∃ t, v = Value.int (is.getD i 0) t := fun i v ⟨y, hy, e⟩ => by
    rw [e]
    exact kv_ints rel hk hv i y hy
  refine call_max_walk (wpAny_pyIter_values_raw (v := s1.heap.objs.size) (d := a) ⟨_, Heap.get?_push_size _ rfl, rfl, rfl⟩ raw1 ?_)
  have hlt : a < s1.heap.objs.size := Heap.lt_size ho
  have hsz : (s1.heap.push { cls := .type "dict_values", data := .fields #[.ref a] }).objs.size = s1.heap.objs.size + 1 := Heap.size_push _ _
  refine ⟨_, _, _, _, _, _, _, rfl, Walks.valuesH (xs := us) (A := X.A.in1) (I.ok.hd hc) (s1.heap.push { cls := .type "dict_values", data := .fields #[.ref a] }).objs.size a (by rw [hsz]; exact Nat.ne_of_lt (Nat.lt_succ_of_lt hlt)) es ep (fun i hi => let ⟨y, h1, h2, h3, _⟩ := ent i hi; ⟨y, h1, h2, h3⟩),
    ⟨⟨_, Heap.get?_push_size _ rfl, rfl, rfl⟩, raw1.at fun b e => Heap.get?_push_of_some _ e⟩, fun b hb => ?_, hpos, CmpOf.ints_gt (fun i => is.getD i 0) hval, fun v h' tk hP hk' => ?_⟩
  · show b < ((s1.heap.push _).push _).objs.size
    rw [Heap.size_push, Heap.size_push]
    rw [hsz] at hb
    rcases List.mem_cons.mp hb with e | hb
    · rw [e]
      exact Nat.lt_succ_self _
    · have e : b = a := List.mem_singleton.mp hb
      rw [e]
      exact Nat.lt_succ_of_lt (Nat.lt_succ_of_lt hlt)
  · obtain ⟨t, rfl⟩ := hval _ v hP
    obtain ⟨b1, b2⟩ := argBest_gt (fun i => is.getD i 0) (es.size - 1)
    have hb : argBest (fun i j => decide (is.getD i 0 > is.getD j 0)) (es.size - 1) < is.length := by omega
    have em : is.getD (argBest (fun i j => decide (is.getD i 0 > is.getD j 0)) (es.size - 1)) 0 = mxI is := by
      refine PySem.W.Mm.greatest ?_ fun j hj => ?_
      · rw [List.getD_eq_getElem?_getD, List.getElem?_eq_getElem hb]
        exact List.getElem_mem hb
      · obtain ⟨i, hi, e⟩ := List.mem_iff_getElem.mp hj
        have e2 : is.getD i 0 = j := by rw [List.getD_eq_getElem?_getD, List.getElem?_eq_getElem hi, ← e] <;> rfl
        rw [← e2]
        exact b2 i (by omega)
    refine ⟨.int (mxI is), H1, I1.kept (t' := tk) fun b u e => hk' b u (fun hmem => ?_) (Heap.get?_push_of_some _ (k1 b u e)), ⟨t, by rw [← em]⟩, q⟩
    have e1 : b = (s1.heap.push { cls := .type "dict_values", data := .fields #[.ref a] }).objs.size := List.mem_singleton.mp hmem
    have e2 := Heap.lt_size e
    rw [hsz] at e1
    rw [e1] at e2
    exact absurd e2 (Nat.not_lt.mpr (Nat.le_succ _))
def fMaxV : PyData → Option PyData
  | .dict kvs => match intsOf (kvs.map (·.2)) with
    | some (i :: is) => some (.int (mxI (i :: is)))
    | _ => none
  | _ => none
def sMaxV (fa : SE) : SE := fun ρ => match fa ρ with
  | none => none
  | some (x, ρ1) => match res ρ1 x with
    | none => none
    | some d => (fMaxV d).map fun z => (.d z, ρ1)
theorem eo_maxV {a ce : Expr} {fa : SE} (hK : X.K = c.K) (h : ∀ {te : TE}, PE X a te → PE X ce (tMaxV X.K te)) (ha : EO c X a fa) : EO c X ce (sMaxV fa) := by
  refine ⟨pe_imp (h ha.pe) fun σ H Q ⟨F, ρ, x, ρ', R, e, k⟩ => ?_⟩
  unfold sMaxV at e
  cases e1 : fa ρ with
  | none => rw [e1] at e; cases e
  | some p =>
    obtain ⟨y, ρ1⟩ := p
    rw [e1] at e
    dsimp only at e
    cases e4 : res ρ1 y with
    | none => rw [e4] at e; cases e
    | some d =>
      rw [e4] at e
      obtain ⟨z, e5, e6⟩ := Option.map_eq_some_iff.mp e
      cases e6
      refine ⟨F, ρ, y, _, R, e1, fun v H1 F1 s1 R1 o1 => ?_⟩
      have vw := R1.vw o1 e4
      unfold fMaxV at e5
      split at e5
      · rename_i kvs
        split at e5
        · rename_i i is hi
          cases e5
          obtain ⟨ad, xs, rfl, hd, hk⟩ := vw.dict R1.sub
          rw [hK]
          exact ⟨ad, xs, kvs, i :: is, rfl, hd, dpKv_same R1.sub hk, intsOf_eq hi, List.cons_ne_nil _ _, k _ H1 F1 s1 R1 (.int _)⟩
        · cases e5
      · cases e5
end
end PD
/-! Plain data: l.index(x) of any data -/
namespace PD
open PySem PySem.Spec PyProof.Rows L2 GxR LG
end PD
/-! Plain data: d.get(k), d.get(k, x) -/
namespace PD
open PySem PySem.Spec PyProof.Rows L2 GxR LG
section
variable {X : Cx} {K : PySem.W.Frag} {c : Co}
def DicD (K : PySem.W.Frag) (H : Hp) (a : Addr) : Prop := ∃ xs kvs, H a = some (DkO a xs) ∧ DzKv K H xs kvs
theorem DicD.is {pins : List (Addr × Obj)} {σ : L2.St} {H : Hp} {s : Shared} {a : Addr} (I : Inv X pins σ H s) (h : DicD X.K H a) :
    s.TypeIs (.ref a) "dict" ∧ ∃ o, s.heap.get? a = some o ∧ o.dict = none := by
  obtain ⟨xs, kvs, hH, hk⟩ := h
  obtain ⟨hsys, hz, _, _, us, rel, dof⟩ := dct_at I hH hk
  obtain ⟨es, ep, raw, esz, ent⟩ := dof.raw
  obtain ⟨ob, ho, ex, hdat⟩ := raw
  exact ⟨⟨ob, ho, ex.1⟩, ob, ho, ex.2.1⟩
def tKM (K : PySem.W.Frag) (r : V → List V → Hp → VK → Prop) (to : TE) (t : TA) : TE := fun σ H Q => to σ H fun x H1 => (∃ a, x = .ref a ∧ DicD K H1 a) ∧ t σ H1 fun xs H2 => r x xs H2 Q
variable {o e : Expr} {es : List Expr} {to : TE} {t : TA} {name : Str} {apos cpos : Pos} {id : String} {r : V → List V → Hp → VK → Prop}
theorem pe_km (slot : Slot "dict" name id) (hty : typeOf (.builtin id) = pure (.type "method_descriptor")) (hm : MtR X id r) (ho : PE X o to) (ha : PA X (e :: es) t)
    (hbase : attributeBase o name X.env (eval o X.env) = eval o X.env := by rfl)
    (hfew : ((backTo cpos (starEach (e :: es) X.env)).all (fun x => !x.1) && (backToKw cpos (keywordEach [] X.env)).all (fun x => x.1.isSome)
      && decide ((e :: es).length + ([] : List Keyword).length + (if ([] : List Keyword).isEmpty then 0 else 1) < 30)) = true := by rfl)
    (hline : (apos.endLine == cpos.line) = true := by rfl) (hs : starEach (e :: es) X.env = (false, eval e X.env) :: starEach es X.env := by rfl) (hplain : (backTo cpos (starEach es X.env)).any (·.1) = false := by rfl) :
    PE X (.Call (.Attribute o name apos) (e :: es) [] cpos) (tKM X.K r to t) := by
  refine ⟨fun pins s σ H Q I h => ?_⟩
  refine wpAny_Call_method_late hbase hfew hline rfl (thn (ho.run pins s σ H _ I h) fun v s1 ⟨x, H1, I1, r1, ⟨a, ea, ty⟩, q1⟩ => ?_)
  subst ea
  obtain rfl : v = Value.ref a := r1
  obtain ⟨h1, h2⟩ := ty.is I1
  refine ⟨"dict", id, F.plainAttrs_dict, slot, hty, h1, fun b eb => ?_, ?_⟩
  · cases eb
    exact h2
  have hA := ha.run cpos pins s1 σ H1 _ I1 q1
  rw [hs] at hA ⊢
  refine Calls.callWith_builtin (by show (false || (backTo cpos (starEach es X.env)).any (·.1)) = false; rw [hplain] <;> rfl) (Calls.evalArgs_plain ?_)
  exact thn hA fun us s2 ⟨vs, H2, I2, r2, q2⟩ => hm pins s2 σ H2 (.ref a) vs _ us Q I2 rfl r2 q2
/-! ### get -/
def rGetK (K : PySem.W.Frag) : V → List V → Hp → VK → Prop := fun x ys H Q => ∃ F dk k a b xs kvs, x = .ref a ∧ ys = [.ref b] ∧ Same F H ∧ Dz K H (.ref b) dk ∧ dkey dk = some k ∧ H a = some (DkO a xs) ∧ DzKv K F xs kvs ∧
  (dLook kvs k = none → Q .non H) ∧ ∀ d, dLook kvs k = some d → ∀ v, Dz K F v d → Q v H
theorem mt_getK (hu : X.A.units + 20 < cLine) : MtR X "dict.get" (rGetK X.K) := by
  intro pins s σ H x ys v us Q I rx rys h
  obtain ⟨F, dk, k, a, b, xs, kvs, rfl, rfl, sF, hy, ek, hH, hk, q1, q2⟩ := h
  cases rx
  obtain ⟨u, rfl, ru⟩ := rys.one
  cases ru
  obtain ⟨e1, e2, _⟩ := dkey_use ek
  obtain ⟨hd, _, _, _, us, rel, dd⟩ := dct_at I hH (dpKv_same sF hk)
  refine call_meetsIn PySem.F.slot_dict_get dd.typeIs PySem.F.entry_dict_get (PySem.F.args_dict_get_2 _ _) (meetsH_dict_get (nestedKind X.prog X.w) a b hd)
    ⟨(show X.A.units + 1 + 8 < cLine by omega), k, us, ⟨key_in I hy e1 rfl, e2⟩, dd, ?_⟩
  rcases look_at (k := k) rel hk with ⟨l1, l2⟩ | ⟨d, w, p, l1, l2, l3, l4⟩
  · rw [l2]
    exact ⟨.non, H, I.tok _, rfl, q1 l1⟩
  · rw [l2]
    exact ⟨w, H, I.tok _, l3, q2 d l1 w l4⟩
def fGet1 : PyData → PyData → Option PyData
  | .dict kvs, d => (dkey d).map fun k => (dLook kvs k).getD .none
  | _, _ => none
def sM1K (f : PyData → PyData → Option PyData) (fo fa : SE) : SE := fun ρ => match fo ρ with
  | none => none
  | some (u, ρ1) => match res ρ1 u with
    | some (.dict _) => match fa ρ1 with
      | none => none
      | some (v, ρ2) => match res ρ2 u, res ρ2 v with
        | some d, some e => (f d e).map fun z => (.d z, ρ2)
        | _, _ => none
    | _ => none
theorem eo_get1 {a b ce : Expr} {fo fa : SE} (hK : X.K = c.K) (h : ∀ {to te : TE}, PE X a to → PE X b te → PE X ce (tKM X.K (rGetK X.K) to (tCons te tNil))) (ho : EO c X a fo) (he : EO c X b fa) : EO c X ce (sM1K fGet1 fo fa) := by
  refine ⟨pe_imp (h ho.pe he.pe) fun σ H Q ⟨F, ρ, x, ρ', R, q, k⟩ => ?_⟩
  unfold sM1K at q
  cases h1 : fo ρ with
  | none => rw [h1] at q; cases q
  | some p =>
    obtain ⟨u, ρ1⟩ := p
    rw [h1] at q
    dsimp only at q
    split at q
    · rename_i kvs0 h2
      cases h3 : fa ρ1 with
      | none => rw [h3] at q; cases q
      | some p =>
        obtain ⟨v, ρ2⟩ := p
        rw [h3] at q
        dsimp only at q
        cases h4 : res ρ2 u with
        | none => rw [h4] at q; cases q
        | some d =>
          cases h5 : res ρ2 v with
          | none => rw [h4, h5] at q; cases q
          | some d' =>
            rw [h4, h5] at q
            dsimp only at q
            cases h6 : fGet1 d d' with
            | none => rw [h6] at q; cases q
            | some z =>
              rw [h6] at q
              cases q
              refine ⟨F, ρ, u, ρ1, R, h1, fun xv H1 F1 s1 R1 o1 => ?_⟩
              obtain ⟨ad, xs, rfl, ha, hk⟩ := (R1.vw o1 h2).dict R1.sub
              refine ⟨⟨ad, rfl, xs, kvs0, ha, by rw [hK]; exact dpKv_same R1.sub hk⟩, F1, ρ1, v, _, R1, h3, fun yv H2 F2 s2 R2 o2 => ?_⟩
              have vu := R2.vw (o1.same s2) h4
              have vy := R2.vw o2 h5
              unfold fGet1 at h6
              split at h6
              · rename_i kvs
                obtain ⟨kk, ek, rfl⟩ := Option.map_eq_some_iff.mp h6
                obtain ⟨ad2, xs2, e2, ha2, hk2⟩ := vu.dict R2.sub
                cases e2
                obtain ⟨bb, rfl⟩ := key_ref (vy.dp R2.sub) ek
                rw [hK]
                refine ⟨F2, _, kk, ad, bb, xs2, kvs, rfl, rfl, R2.sub, vy.dp R2.sub, ek, ha2, hk2, fun hn => ?_, fun dd hd w hw => ?_⟩
                · rw [hn] at k
                  exact k _ H2 F2 (s1.trans s2) R2 .non
                · rw [hd] at k
                  exact k _ H2 F2 (s1.trans s2) R2 hw
              · cases h6
    · cases q
end
end PD
/-! Plain data: x, y = {k: v}, e -/
namespace PD
open PySem PySem.Spec PyProof.Rows L2 GxR LG
end PD
/-! Plain data: sorted(d): the keys -/
namespace PD
open PySem PySem.Spec PyProof.Rows L2 GxR LG
end PD
namespace ST
open PySem PySem.Spec PyProof.Rows L2 GxR LG PD
/-! ### _law_taken -/
def g__law_taken : SS := (sSeq (sIfS (toT (s2 fGt (s2 fIx (sB 0) (sC (.int 3))) (sC (.int 0)))) (sSeq (sAsg (s2 fMod (sN fInt (sCons (s2 fIx (sB 0) (sC (.int 3))) sNil)) (sV 1)) (gN 2)) (sSeq (sSetIx 0 (sC (.int 3)) (s2 fDiv (s2 fIx (sB 0) (sC (.int 3))) (sV 1))) (sSeq (sRet (sV 2)) sNx))) sNx) (sSeq (sSetIx 0 (sC (.int 1)) (s2 fAdd (s2 fIx (sB 0) (sC (.int 1))) (sC (.int 1)))) (sSeq (sIfS (toT (s2 fGt (s2 fIx (sB 0) (sC (.int 1))) (sN fLen (sCons (s2 fIx (sB 0) (sC (.int 0))) sNil)))) (sSeq (sSetIx 0 (sC (.int 2)) (s2 fMod (sN fInt (sCons (s2 fAdd (s2 fMul (s2 fIx (sB 0) (sC (.int 2))) (sC (.int 48271))) (sC (.int 11))) sNil)) (sC (.int 2147483647)))) (sSeq (sRet (s2 fMod (sN fInt (sCons (s2 fDiv (s2 fIx (sB 0) (sC (.int 2))) (sC (.int 7))) sNil)) (sV 1))) sNx)) sNx) (sSeq (sAsg (s2 fIx (s2 fIx (sB 0) (sC (.int 0))) (s2 fSub (s2 fIx (sB 0) (sC (.int 1))) (sC (.int 1)))) (gN 3)) (sSeq (sSetIx 0 (sC (.int 2)) (s2 fMod (sN fInt (sCons (s2 fAdd (s2 fAdd (s2 fMul (s2 fIx (sB 0) (sC (.int 2))) (sC (.int 48271))) (sV 3)) (sC (.int 11))) sNil)) (sC (.int 2147483647)))) (sSeq (sIfS (toT (s2 fGe (sV 3) (s2 fPow (sC (.int 10)) (sC (.int 18))))) (sSeq (sSetIx 0 (sC (.int 3)) (s2 fDiv (sV 3) (sV 1))) sNx) sNx) (sSeq (sRet (s2 fMod (sN fInt (sCons (sV 3) sNil)) (sV 1))) sNx)))))))
def p__law_taken : List PyData → List PyData → Option (PyData × List PyData) := fun rs ds => if ds.length + 1 = 2 then bodyI g__law_taken 4 rs ds else none
/-! ### _law_island -/
def g__law_island : SS := (sSeq (sAsg (s2 fAdd (sC (.int 1)) (sCallI p__law_taken (sCons (sB 0) (sCons (sV 1) sNil)))) (gN 2)) (sSeq (sRet (sTup (sCons (s2 fAdd (sC (.int 3)) (sCallI p__law_taken (sCons (sB 0) (sCons (sC (.int 2)) sNil)))) (sCons (sV 2) (sCons (s2 fAdd (sC (.int 2)) (sCallI p__law_taken (sCons (sB 0) (sCons (sV 2) sNil)))) sNil))))) sNx))
def p__law_island : List PyData → List PyData → Option (PyData × List PyData) := fun rs ds => if ds.length + 1 = 2 then bodyI g__law_island 3 rs ds else none
/-! ### _law_alike -/
/-! ### _law_pick -/
def g__law_pick : SS := (sSeq (sRet (s2 fIx (sV 1) (sCallI p__law_taken (sCons (sB 0) (sCons (sN fLen (sCons (sV 1) sNil)) sNil))))) sNx)
def p__law_pick : List PyData → List PyData → Option (PyData × List PyData) := fun rs ds => if ds.length + 1 = 2 then bodyI g__law_pick 2 rs ds else none
/-! ### _law_map -/
def c1__law_map : SI := sComp (sRg1 (sCons (sV 2) sNil)) (gN 14) tYes' (sTup (sCons (sV 6) (sCons (sV 14) sNil))) [14]
def b1__law_map : SS := (sSeq (sAsg (s2 fAdd (sV 4) (sFr c1__law_map)) (gN 4)) sNx)
def l1__law_map : SS := sFor (gN 6) (sRg1 (sCons (sV 1) sNil)) b1__law_map
def c2__law_map : SI := sComp (sSq (sV 4)) (gN 15) (toT (s2 fNe (sV 15) (sV 8))) (sV 15) [15]
def b2__law_map : SS := (sSeq (sAsg (sCallI p__law_pick (sCons (sB 0) (sCons (sV 4) sNil))) (gN 8)) (sSeq (sPar [5, 4] (sCons (s2 fAdd (sV 5) (sFr (sLst (sCons (sV 8) sNil)))) (sCons (sFr c2__law_map) sNil))) sNx))
def l2__law_map : SS := sFor (gN 7) (sRg1 (sCons (s2 fSub (sV 3) (sC (.int 1))) sNil)) b2__law_map
def c3__law_map : SI := sComp (sSq (sV 9)) (gN 16) (toT (s2 fNe (sV 16) (sV 8))) (sV 16) [16]
def b3__law_map : SS := (sSeq (sAsg (sCallI p__law_pick (sCons (sB 0) (sCons (sV 9) sNil))) (gN 8)) (sSeq (sPar [10, 9] (sCons (s2 fAdd (sV 10) (sFr (sLst (sCons (sV 8) sNil)))) (sCons (sFr c3__law_map) sNil))) sNx))
def l3__law_map : SS := sFor (gN 7) (sRg1 (sCons (sV 3) sNil)) b3__law_map
def b4__law_map : SS := (sSeq (sIfS (toT (s2 fIn (sTup (sCons (sV 6) (sCons (sV 14) sNil))) (sV 5))) (sSeq (sPar [13, 12] (sCons (s2 fIx (sV 10) (sV 12)) (sCons (s2 fAdd (sV 12) (sC (.int 1))) sNil))) sNx) sNx) (sSeq (sApp 11 (sV 13)) sNx))
def l4__law_map : SS := sFor (gN 14) (sRg1 (sCons (sV 2) sNil)) b4__law_map
def b5__law_map : SS := (sSeq (sAsg (s2 fIx (sV 10) (sC (.int 0))) (gN 13)) (sSeq l4__law_map sNx))
def l5__law_map : SS := sFor (gN 6) (sRg1 (sCons (sV 1) sNil)) b5__law_map
def g__law_map : SS := (sSeq (sPar [4, 5] (sCons (sFr (sLst sNil)) (sCons (sFr (sLst sNil)) sNil))) (sSeq l1__law_map (sSeq l2__law_map (sSeq (sPar [9, 10] (sCons (sFr (sLstRg (sR1 (sV 3)))) (sCons (sFr (sLst sNil)) sNil))) (sSeq l3__law_map (sSeq (sParO 11 12 (sLst (sCons (s2 fIx (sV 10) (sC (.int 0))) sNil)) (sC (.int 1))) (sSeq l5__law_map (sSeq (sRet (sTup (sCons (sV 1) (sCons (sN fTupOf (sCons (sB 11) sNil)) sNil)))) sNx))))))))
def p__law_map : List PyData → List PyData → Option (PyData × List PyData) := fun rs ds => if ds.length + 1 = 4 then bodyI g__law_map 17 rs ds else none
/-! ### is_whole -/
def g_is_whole : SS := (sSeq (sRet (sAnd (sIsi "int" (sV 0)) (sNot (sIsi "bool" (sV 0))))) sNx)
def p_is_whole : List PyData → Option PyData := fun ds => if ds.length = 1 then bodyP g_is_whole 1 ds else none
/-! ### is_integer -/
def g_is_integer : SS := (sSeq (sRet (sAnd (sCall p_is_whole [] (sCons (sV 0) sNil)) (sChain fLe fLe (sV 1) (sV 0) (sV 2)))) sNx)
def p_is_integer : List PyData → Option PyData := fun ds => if ds.length = 3 then bodyP g_is_integer 3 ds else none
/-! ### check_hub -/
/-! ### joined_map -/
/-! ### are_integers -/
def a1_are_integers : SE := sAll (sSq (sV 0)) (gN 3) (sCall p_is_integer [] (sCons (sV 3) (sCons (sV 1) (sCons (sV 2) sNil)))) [3]
def g_are_integers : SS := (sSeq (sRet (sAnd (sIsi "tuple" (sV 0)) a1_are_integers)) sNx)
def p_are_integers : List PyData → Option PyData := fun ds => if ds.length = 3 then bodyP g_are_integers 4 ds else none
/-! ### are_rows -/
/-! ### inner_cell -/
def g_inner_cell : SS := (sSeq (sRet (sIf (sTr (s2 fMod (s2 fSub (sV 1) (sC (.int 1))) (sV 0))) (s2 fSub (sV 1) (sC (.int 1))) (sC (.int 0)))) sNx)
def p_inner_cell : List PyData → Option PyData := fun ds => if ds.length = 2 then bodyP g_inner_cell 2 ds else none
/-! ### hang_together -/
def c1_hang_together : SI := sComp (sRg2 (sCons (sC (.int 1)) (sCons (sN fLen (sCons (sV 1) sNil)) sNil))) (gN 4) (toT (s2 fNe (s2 fIx (sV 1) (sV 4)) (s2 fIx (sV 1) (sCall p_inner_cell [] (sCons (sV 0) (sCons (sV 4) sNil)))))) (sV 4) [4]
def g_hang_together : SS := (sSeq (sAsg (s2 fAdd (sN fMax (sCons (sV 1) sNil)) (sC (.int 1))) (gN 2)) (sSeq (sIfS (toT (s2 fNe (sLenSet (sV 1)) (sV 2))) (sSeq (sRet (sC (.bool false))) sNx) sNx) (sSeq (sAsg (sFr c1_hang_together) (gN 3)) (sSeq (sRet (s2 fEq (s2 fAdd (sN fLen (sCons (sV 3) sNil)) (sC (.int 1))) (sV 2))) sNx))))
def p_hang_together : List PyData → Option PyData := fun ds => if ds.length = 2 then bodyP g_hang_together 5 ds else none
/-! ### is_pair -/
def g_is_pair : SS := (sSeq (sRet (sAnd (sIsi "tuple" (sV 0)) (s2 fEq (sN fLen (sCons (sV 0) sNil)) (sC (.int 2))))) sNx)
def p_is_pair : List PyData → Option PyData := fun ds => if ds.length = 1 then bodyP g_is_pair 1 ds else none
/-! ### is_chart -/
def g_is_chart : SS := (sSeq (sIfS (tNot' (sTr (sCall p_is_pair [] (sCons (sV 0) sNil)))) (sSeq (sRet (sC (.bool false))) sNx) sNx) (sSeq (sAsg (sV 0) (gT (gsCons (gN 1) (gsCons (gN 2) gsNil)) 2)) (sSeq (sIfS (tOr' (tNot' (sTr (sCall p_is_integer [] (sCons (sV 1) (sCons (sC (.int 3)) (sCons (sC (.int (4))) sNil)))))) (tNot' (sTr (sIsi "tuple" (sV 2))))) (sSeq (sRet (sC (.bool false))) sNx) sNx) (sSeq (sAsg (sN fDivmod (sCons (s2 fSub (sN fLen (sCons (sV 2) sNil)) (sC (.int 1))) (sCons (sV 1) sNil))) (gT (gsCons (gN 3) (gsCons (gN 4) gsNil)) 2)) (sSeq (sIfS (tOr' (toT (s2 fNe (sV 4) (sC (.int 0)))) (tNot' (toT (sChain fLe fLe (sC (.int 1)) (sV 3) (sC (.int (4))))))) (sSeq (sRet (sC (.bool false))) sNx) sNx) (sSeq (sIfS (tOr' (tNot' (sTr (sCall p_are_integers [] (sCons (sV 2) (sCons (sC (.int 0)) (sCons (sV 3) sNil)))))) (toT (s2 fEq (sN fMax (sCons (sV 2) sNil)) (sC (.int 0))))) (sSeq (sRet (sC (.bool false))) sNx) sNx) (sSeq (sRet (sCall p_hang_together [] (sCons (sV 3) (sCons (sV 2) sNil)))) sNx)))))))
def p_is_chart : List PyData → Option PyData := fun ds => if ds.length = 1 then bodyP g_is_chart 5 ds else none
/-! ### map_of -/
/-! ### check_chart -/
def g_check_chart : SS := (sSeq (sIfS (tNot' (sTr (sCall p_is_chart [] (sCons (sV 0) sNil)))) (sSeq sNever sNx) sNx) sNx)
def p_check_chart : List PyData → Option PyData := fun ds => if ds.length = 1 then bodyP g_check_chart 1 ds else none
/-! ### check_arm -/
/-! ### length_of -/
def g_length_of : SS := (sSeq (sRet (s2 fDiv (s2 fSub (sN fLen (sCons (s2 fIx (sV 0) (sC (.int 1))) sNil)) (sC (.int 1))) (s2 fIx (sV 0) (sC (.int 0))))) sNx)
def p_length_of : List PyData → Option PyData := fun ds => if ds.length = 1 then bodyP g_length_of 1 ds else none
/-! ### arm_rows -/
def c1_arm_rows : SI := sComp (sRg1 (sCons (sV 1) sNil)) (gN 4) tYes' (sSl fSl (sV 2) (pSome (s2 fAdd (sC (.int 1)) (s2 fMul (sV 4) (sV 3)))) (pSome (s2 fAdd (sC (.int 1)) (s2 fMul (s2 fAdd (sV 4) (sC (.int 1))) (sV 3))))) [4]
def g_arm_rows : SS := (sSeq (sAsg (sV 0) (gT (gsCons (gN 1) (gsCons (gN 2) gsNil)) 2)) (sSeq (sAsg (sCall p_length_of [] (sCons (sV 0) sNil)) (gN 3)) (sSeq (sRet (sFr c1_arm_rows)) sNx)))
def p_arm_rows : List PyData → Option PyData := fun ds => if ds.length = 1 then bodyP g_arm_rows 5 ds else none
/-! ### arm_of -/
/-! ### land_areas -/
/-! ### areas -/
/-! ### _law_near -/
def b1__law_near : SS := (sSeq (sAsg (s2 fAdd (s2 fAdd (sC (.int 1)) (s2 fMul (sV 4) (sV 1))) (sV 5)) (gN 6)) (sSeq (sAsg (sIf (toT (s2 fEq (sV 5) (sC (.int 0)))) (sC (.int 0)) (s2 fSub (sV 6) (sC (.int 1)))) (gN 7)) (sSeq (sIfS (toT (s2 fEq (sV 2) (sV 7))) (sSeq (sApp 3 (sV 6)) sNx) sNx) (sSeq (sIfS (toT (s2 fEq (sV 2) (sV 6))) (sSeq (sApp 3 (sV 7)) sNx) sNx) sNx))))
def l1__law_near : SS := sFor (gN 5) (sRg1 (sCons (sV 1) sNil)) b1__law_near
def b2__law_near : SS := (sSeq l1__law_near sNx)
def l2__law_near : SS := sFor (gN 4) (sRg1 (sCons (sV 0) sNil)) b2__law_near
def g__law_near : SS := (sSeq (sOwn 3 (sLst sNil)) (sSeq l2__law_near (sSeq (sRet (sFr (sNF fSorted (sCons (sB 3) sNil)))) sNx)))
def p__law_near : List PyData → Option PyData := fun ds => if ds.length = 3 then bodyP g__law_near 8 ds else none
/-! ### _law_hangs -/
def c1__law_hangs : SI := sComp (sSq (sCall p__law_near [] (sCons (sV 0) (sCons (sV 1) (sCons (sV 6) sNil))))) (gN 7) (tAnd' (toT (s2 fIn (sV 7) (sV 2))) (tAnd' (toT (s2 fNotIn (sV 7) (sV 3))) (toT (s2 fNotIn (sV 7) (sV 5))))) (sV 7) [7]
def b1__law_hangs : SS := (sSeq (sAsg (s2 fAdd (sV 5) (sFr c1__law_hangs)) (gN 5)) sNx)
def l1__law_hangs : SS := sFor (gN 6) (sSq (sV 4)) b1__law_hangs
def b2__law_hangs : SS := (sSeq (sAsg (sFr (sLst sNil)) (gN 5)) (sSeq l1__law_hangs (sSeq (sAsg (sTup (sCons (s2 fAdd (sV 3) (sV 5)) (sCons (sV 5) sNil))) (gT (gsCons (gN 3) (gsCons (gN 4) gsNil)) 2)) sNx)))
def w1__law_hangs : SS := loopW (toT (s2 fNe (sV 4) (sFr (sLst sNil)))) b2__law_hangs 100000
def g__law_hangs : SS := (sSeq (sAsg (sTup (sCons (sSl fSl (sV 2) pNone (pSome (sC (.int 1)))) (sCons (sSl fSl (sV 2) pNone (pSome (sC (.int 1)))) sNil))) (gT (gsCons (gN 3) (gsCons (gN 4) gsNil)) 2)) (sSeq w1__law_hangs (sSeq (sRet (sAnd (s2 fNe (sV 2) (sFr (sLst sNil))) (s2 fEq (sN fLen (sCons (sV 3) sNil)) (sN fLen (sCons (sV 2) sNil))))) sNx)))
def p__law_hangs : List PyData → Option PyData := fun ds => if ds.length = 3 then bodyP g__law_hangs 8 ds else none
/-! ### check_arms -/
/-! ### check_length -/
/-! ### cell_count -/
/-! ### check_cell -/
/-! ### touching_cells -/
def c1_touching_cells : SI := sComp (sRg1 (sCons (sV 0) sNil)) (gN 4) tYes' (s2 fAdd (sC (.int 1)) (s2 fMul (sV 4) (sV 1))) [4]
def g_touching_cells : SS := (sSeq (sIfS (toT (s2 fEq (sV 2) (sC (.int 0)))) (sSeq (sRet (sN fTupOf (sCons (sFr c1_touching_cells) sNil))) sNx) sNx) (sSeq (sAsg (sCall p_inner_cell [] (sCons (sV 1) (sCons (sV 2) sNil))) (gN 3)) (sSeq (sIfS (toT (s2 fEq (s2 fMod (sV 2) (sV 1)) (sC (.int 0)))) (sSeq (sRet (sTup (sCons (sV 3) sNil))) sNx) sNx) (sSeq (sRet (sTup (sCons (sV 3) (sCons (s2 fAdd (sV 2) (sC (.int 1))) sNil)))) sNx))))
def p_touching_cells : List PyData → Option PyData := fun ds => if ds.length = 3 then bodyP g_touching_cells 5 ds else none
/-! ### touching -/
/-! ### land_count -/
/-! ### is_land -/
def g_is_land : SS := (sSeq (sRet (sCall p_is_integer [] (sCons (sV 1) (sCons (sC (.int 0)) (sCons (sN fMax (sCons (s2 fIx (sV 0) (sC (.int 1))) sNil)) sNil))))) sNx)
def p_is_land : List PyData → Option PyData := fun ds => if ds.length = 2 then bodyP g_is_land 2 ds else none
/-! ### check_land -/
def g_check_land : SS := (sSeq (sIfS (tNot' (sTr (sCall p_is_land [] (sCons (sV 0) (sCons (sV 1) sNil))))) (sSeq sNever sNx) sNx) sNx)
def p_check_land : List PyData → Option PyData := fun ds => if ds.length = 2 then bodyP g_check_land 2 ds else none
/-! ### cells_of -/
/-! ### law_k00 -/
/-! ### are_orders -/
/-! ### lands_met -/
def b1_lands_met : SS := (sSeq (sIfS (toT (s2 fNe (sV 4) (sV 3))) (sSeq (sApp 2 (sV 4)) sNx) sNx) (sSeq (sAsg (sV 4) (gN 3)) sNx))
def l1_lands_met : SS := sFor (gN 4) (sSq (sV 1)) b1_lands_met
def g_lands_met : SS := (sSeq (sOwn 2 (sLst sNil)) (sSeq (sAsg (sV 0) (gN 3)) (sSeq l1_lands_met (sSeq (sRet (sN fTupOf (sCons (sB 2) sNil))) sNx))))
def p_lands_met : List PyData → Option PyData := fun ds => if ds.length = 2 then bodyP g_lands_met 5 ds else none
/-! ### orders -/
def c1_orders : SI := sComp (sSq (sCall p_arm_rows [] (sCons (sV 0) sNil))) (gN 1) tYes' (sCall p_lands_met [] (sCons (s2 fIx (s2 fIx (sV 0) (sC (.int 1))) (sC (.int 0))) (sCons (sV 1) sNil))) [1]
def g_orders : SS := (sSeq (sExp (sCall p_check_chart [] (sCons (sV 0) sNil))) (sSeq (sRet (sN fTupOf (sCons (sFr c1_orders) sNil))) sNx))
def p_orders : List PyData → Option PyData := fun ds => if ds.length = 1 then bodyP g_orders 2 ds else none
/-! ### are_places -/
/-! ### placed_row -/
/-! ### from_orders -/
/-! ### borders -/
def c1_borders : SI := sComp (sRg2 (sCons (sC (.int 1)) (sCons (sN fLen (sCons (sV 1) sNil)) sNil))) (gN 4) tYes' (sTup (sCons (sCall p_inner_cell [] (sCons (sV 2) (sCons (sV 4) sNil))) (sCons (sV 4) sNil))) [4]
def c2_borders : SI := sComp (sSq (sV 3)) (gN 5) (toT (s2 fNe (s2 fIx (sV 1) (s2 fIx (sV 5) (sC (.int 0)))) (s2 fIx (sV 1) (s2 fIx (sV 5) (sC (.int 1)))))) (sV 5) [5]
def g_borders : SS := (sSeq (sExp (sCall p_check_chart [] (sCons (sV 0) sNil))) (sSeq (sAsg (s2 fIx (sV 0) (sC (.int 1))) (gN 1)) (sSeq (sAsg (sCall p_length_of [] (sCons (sV 0) sNil)) (gN 2)) (sSeq (sAsg (sFr c1_borders) (gN 3)) (sSeq (sRet (sN fTupOf (sCons (sFr (sNF fSorted (sCons (sFr c2_borders) sNil))) sNil))) sNx)))))
def p_borders : List PyData → Option PyData := fun ds => if ds.length = 1 then bodyP g_borders 6 ds else none
/-! ### land_pairs -/
def c1_land_pairs : SI := sComp (sSq (sCall p_borders [] (sCons (sV 0) sNil))) (gT (gsCons (gN 3) (gsCons (gN 4) gsNil)) 2) tYes' (sTup (sCons (s2 fIx (sV 1) (sV 3)) (sCons (s2 fIx (sV 1) (sV 4)) sNil))) [3, 4]
def c2_land_pairs : SI := sComp (sSq (sV 2)) (gT (gsCons (gN 5) (gsCons (gN 6) gsNil)) 2) tYes' (sTup (sCons (sN fMin2 (sCons (sV 5) (sCons (sV 6) sNil))) (sCons (sN fMax2 (sCons (sV 5) (sCons (sV 6) sNil))) sNil))) [5, 6]
def g_land_pairs : SS := (sSeq (sExp (sCall p_check_chart [] (sCons (sV 0) sNil))) (sSeq (sAsg (s2 fIx (sV 0) (sC (.int 1))) (gN 1)) (sSeq (sAsg (sFr c1_land_pairs) (gN 2)) (sSeq (sRet (sN fTupOf (sCons (sFr (sNF fSorted (sCons (sFr c2_land_pairs) sNil))) sNil))) sNx))))
def p_land_pairs : List PyData → Option PyData := fun ds => if ds.length = 1 then bodyP g_land_pairs 7 ds else none
/-! ### neighbors -/
def c1_neighbors : SI := sComp (sSq (sV 2)) (gT (gsCons (gN 5) (gsCons (gN 6) gsNil)) 2) (toT (s2 fEq (sV 6) (sV 1))) (sV 5) [5, 6]
def c2_neighbors : SI := sComp (sSq (sV 2)) (gT (gsCons (gN 5) (gsCons (gN 6) gsNil)) 2) (toT (s2 fEq (sV 5) (sV 1))) (sV 6) [5, 6]
def g_neighbors : SS := (sSeq (sExp (sCall p_check_chart [] (sCons (sV 0) sNil))) (sSeq (sExp (sCall p_check_land [] (sCons (sV 0) (sCons (sV 1) sNil)))) (sSeq (sAsg (sCall p_land_pairs [] (sCons (sV 0) sNil)) (gN 2)) (sSeq (sAsg (sFr c1_neighbors) (gN 3)) (sSeq (sAsg (sFr c2_neighbors) (gN 4)) (sSeq (sRet (sN fTupOf (sCons (s2 fAdd (sV 3) (sV 4)) sNil))) sNx))))))
def p_neighbors : List PyData → Option PyData := fun ds => if ds.length = 2 then bodyP g_neighbors 7 ds else none
/-! ### hub_land -/
/-! ### law_k01 -/
/-! ### _law_takings -/
def c1__law_takings : SI := sComp (sSq (sCall p__law_near [] (sCons (sV 1) (sCons (sV 3) (sCons (sV 6) sNil))))) (gN 9) (toT (s2 fEq (s2 fIx (sV 2) (sV 9)) (sV 5))) (sV 9) [9]
def c2__law_takings : SI := sComp (sRg1 (sCons (sN fLen (sCons (sV 2) sNil)) sNil)) (gN 9) (tAnd' (toT (s2 fEq (s2 fIx (sV 2) (sV 9)) (sV 7))) (toT (s2 fNe (sV 9) (sV 6)))) (sV 9) [9]
def b1__law_takings : SS := (sSeq (sAsg (s2 fIx (sV 2) (sV 6)) (gN 7)) (sSeq (sIfS (tAnd' (toT (s2 fNe (sV 7) (sV 5))) (toT (s2 fNe (sFr c1__law_takings) (sFr (sLst sNil))))) (sSeq (sAsg (sFr c2__law_takings) (gN 8)) (sSeq (sIfS (tAnd' (toT (s2 fNe (sV 8) (sFr (sLst sNil)))) (sTr (sCall p__law_hangs [] (sCons (sV 1) (sCons (sV 3) (sCons (sV 8) sNil)))))) (sSeq (sApp 4 (sTup (sCons (sV 5) (sCons (sV 6) sNil)))) sNx) sNx) sNx)) sNx) sNx))
def l1__law_takings : SS := sFor (gN 6) (sRg1 (sCons (sN fLen (sCons (sV 2) sNil)) sNil)) b1__law_takings
def b2__law_takings : SS := (sSeq l1__law_takings sNx)
def l2__law_takings : SS := sFor (gN 5) (sRg1 (sCons (s2 fAdd (sN fMax (sCons (sV 2) sNil)) (sC (.int 1))) sNil)) b2__law_takings
def g__law_takings : SS := (sSeq (sAsg (sV 0) (gT (gsCons (gN 1) (gsCons (gN 2) gsNil)) 2)) (sSeq (sParQ 3 4 (s2 fDiv (s2 fSub (sN fLen (sCons (sV 2) sNil)) (sC (.int 1))) (sV 1)) (sLst sNil)) (sSeq l2__law_takings (sSeq (sRet (sV 4)) sNx))))
def p__law_takings : List PyData → Option PyData := fun ds => if ds.length = 1 then bodyP g__law_takings 10 ds else none
/-! ### _law_behind -/
def g__law_behind : SS := (sSeq (sAsg (sV 1) (gT (gsCons (gN 2) (gsCons (gN 3) gsNil)) 2)) (sSeq (sRet (sTup (sCons (s2 fIx (sV 0) (sC (.int 0))) (sCons (s2 fAdd (s2 fAdd (sSl fSl (s2 fIx (sV 0) (sC (.int 1))) pNone (pSome (sV 3))) (sTup (sCons (sV 2) sNil))) (sSl fSl (s2 fIx (sV 0) (sC (.int 1))) (pSome (s2 fAdd (sV 3) (sC (.int 1)))) pNone)) sNil)))) sNx))
def p__law_behind : List PyData → Option PyData := fun ds => if ds.length = 2 then bodyP g__law_behind 4 ds else none
/-! ### _law_walk -/
def b1__law_walk : SS := (sSeq (sAsg (sCall p__law_takings [] (sCons (sV 1) sNil)) (gN 5)) (sSeq (sIfS (toT (s2 fNe (sV 5) (sFr (sLst sNil)))) (sSeq (sApp 3 (sCallI p__law_pick (sCons (sB 0) (sCons (sV 5) sNil)))) (sSeq (sAsg (sCall p__law_behind [] (sCons (sV 1) (sCons (s2 fIx (sB 3) (sC (.int (-1)))) sNil))) (gN 1)) sNx)) sNx) sNx))
def l1__law_walk : SS := sFor (gN 4) (sRg1 (sCons (sV 2) sNil)) b1__law_walk
def g__law_walk : SS := (sSeq (sOwn 3 (sLst sNil)) (sSeq l1__law_walk (sSeq (sRet (sTup (sCons (sN fTupOf (sCons (sB 3) sNil)) (sCons (sV 1) sNil)))) sNx)))
def p__law_walk : List PyData → List PyData → Option (PyData × List PyData) := fun rs ds => if ds.length + 1 = 3 then bodyI g__law_walk 6 rs ds else none
/-! ### can_lose -/
def g_can_lose : SS := (sSeq (sRet (s2 fEq (sOrE (sM1 fCount (sV 1) (sV 0)) (sM1T fCountT (sV 1) (sV 0))) (sC (.int 1)))) sNx)
def p_can_lose : List PyData → Option PyData := fun ds => if ds.length = 2 then bodyP g_can_lose 2 ds else none
/-! ### ready_takings -/
def c1_ready_takings : SI := sComp (sSq (sV 4)) (gN 7) tYes' (s2 fIx (sV 1) (sV 7)) [7]
def c2_ready_takings : SI := sComp (sSq (sV 5)) (gN 8) (toT (s2 fNe (sV 8) (sV 6))) (sTup (sCons (sV 8) (sCons (sV 3) sNil))) [8]
def b1_ready_takings : SS := (sSeq (sAsg (sFr c1_ready_takings) (gN 5)) (sSeq (sAsg (s2 fIx (sV 1) (sV 3)) (gN 6)) (sSeq (sIfS (sTr (sCall p_can_lose [] (sCons (sV 6) (sCons (sV 5) sNil)))) (sSeq (sExt 2 c2_ready_takings) sNx) sNx) sNx)))
def l1_ready_takings : SS := sFor (gT (gsCons (gN 3) (gsCons (gN 4) gsNil)) 2) (sEnum (sCons (sV 0) sNil)) b1_ready_takings
def g_ready_takings : SS := (sSeq (sOwn 2 (sLst sNil)) (sSeq l1_ready_takings (sSeq (sRet (sFr (sNF fSorted (sCons (sB 2) sNil)))) sNx)))
def p_ready_takings : List PyData → Option PyData := fun ds => if ds.length = 2 then bodyP g_ready_takings 9 ds else none
/-! ### touch_table -/
def c1_touch_table : SI := sComp (sRg1 (sCons (sN fLen (sCons (sV 2) sNil)) sNil)) (gN 4) tYes' (sCall p_touching_cells [] (sCons (sV 1) (sCons (sV 3) (sCons (sV 4) sNil)))) [4]
def g_touch_table : SS := (sSeq (sAsg (sV 0) (gT (gsCons (gN 1) (gsCons (gN 2) gsNil)) 2)) (sSeq (sAsg (sCall p_length_of [] (sCons (sV 0) sNil)) (gN 3)) (sSeq (sRet (sFr c1_touch_table)) sNx)))
def p_touch_table : List PyData → Option PyData := fun ds => if ds.length = 1 then bodyP g_touch_table 5 ds else none
/-! ### takings -/
def g_takings : SS := (sSeq (sExp (sCall p_check_chart [] (sCons (sV 0) sNil))) (sSeq (sRet (sN fTupOf (sCons (sCall p_ready_takings [] (sCons (sCall p_touch_table [] (sCons (sV 0) sNil)) (sCons (s2 fIx (sV 0) (sC (.int 1))) sNil))) sNil))) sNx))
def p_takings : List PyData → Option PyData := fun ds => if ds.length = 1 then bodyP g_takings 1 ds else none
/-! ### is_taking -/
def g_is_taking : SS := (sSeq (sRet (sAnd (sCall p_is_pair [] (sCons (sV 1) sNil)) (sAnd (sCall p_is_land [] (sCons (sV 0) (sCons (s2 fIx (sV 1) (sC (.int 0))) sNil))) (sCall p_is_integer [] (sCons (s2 fIx (sV 1) (sC (.int 1))) (sCons (sC (.int 0)) (sCons (s2 fSub (sN fLen (sCons (s2 fIx (sV 0) (sC (.int 1))) sNil)) (sC (.int 1))) sNil))))))) sNx)
def p_is_taking : List PyData → Option PyData := fun ds => if ds.length = 2 then bodyP g_is_taking 2 ds else none
/-! ### check_taking -/
/-! ### can_make -/
def c1_can_make : SI := sComp (sSq (s2 fIx (sV 0) (sV 4))) (gN 7) tYes' (s2 fIx (sV 1) (sV 7)) [7]
def g_can_make : SS := (sSeq (sAsg (sV 2) (gT (gsCons (gN 3) (gsCons (gN 4) gsNil)) 2)) (sSeq (sAsg (s2 fIx (sV 1) (sV 4)) (gN 5)) (sSeq (sAsg (sFr c1_can_make) (gN 6)) (sSeq (sRet (sAnd (s2 fNe (sV 3) (sV 5)) (sAnd (s2 fIn (sV 3) (sV 6)) (sCall p_can_lose [] (sCons (sV 5) (sCons (sV 6) sNil)))))) sNx))))
def p_can_make : List PyData → Option PyData := fun ds => if ds.length = 3 then bodyP g_can_make 8 ds else none
/-! ### can_take -/
/-! ### taken_back -/
/-! ### made -/
def g_made : SS := (sSeq (sAsg (sV 1) (gT (gsCons (gN 2) (gsCons (gN 3) gsNil)) 2)) (sSeq (sRet (s2 fAdd (s2 fAdd (sSl fSl (sV 0) pNone (pSome (sV 3))) (sTup (sCons (sV 2) sNil))) (sSl fSl (sV 0) (pSome (s2 fAdd (sV 3) (sC (.int 1)))) pNone))) sNx))
def p_made : List PyData → Option PyData := fun ds => if ds.length = 2 then bodyP g_made 4 ds else none
/-! ### walked -/
def b1_walked : SS := (sSeq (sIfS (tOr' (tNot' (sTr (sCall p_is_taking [] (sCons (sV 0) (sCons (sV 4) sNil))))) (tNot' (sTr (sCall p_can_make [] (sCons (sV 2) (sCons (s2 fIx (sB 3) (sC (.int (-1)))) (sCons (sV 4) sNil))))))) (sSeq (fun ρ => some (.bk, ρ)) sNx) sNx) (sSeq (sApp 3 (sCall p_made [] (sCons (s2 fIx (sB 3) (sC (.int (-1)))) (sCons (sV 4) sNil)))) sNx))
def l1_walked : SS := sFor (gN 4) (sSq (sV 1)) b1_walked
def g_walked : SS := (sSeq (sAsg (sCall p_touch_table [] (sCons (sV 0) sNil)) (gN 2)) (sSeq (sOwn 3 (sLst (sCons (s2 fIx (sV 0) (sC (.int 1))) sNil))) (sSeq l1_walked (sSeq (sRet (sV 3)) sNx))))
def p_walked : List PyData → Option PyData := fun ds => if ds.length = 2 then bodyP g_walked 5 ds else none
/-! ### traced -/
def c1_traced : SI := sComp (sSq (sV 2)) (gN 3) tYes' (sTup (sCons (s2 fIx (sV 0) (sC (.int 0))) (sCons (sV 3) sNil))) [3]
def g_traced : SS := (sSeq (sExp (sCall p_check_chart [] (sCons (sV 0) sNil))) (sSeq (sIfS (tOr' (tNot' (sTr (sIsi "tuple" (sV 1)))) (toT (s2 fGt (sN fLen (sCons (sV 1) sNil)) (sC (.int (40)))))) (sSeq sNever sNx) sNx) (sSeq (sAsg (sCall p_walked [] (sCons (sV 0) (sCons (sV 1) sNil))) (gN 2)) (sSeq (sIfS (toT (s2 fLe (sN fLen (sCons (sV 2) sNil)) (sN fLen (sCons (sV 1) sNil)))) (sSeq sNever sNx) sNx) (sSeq (sRet (sN fTupOf (sCons (sFr c1_traced) sNil))) sNx)))))
def p_traced : List PyData → Option PyData := fun ds => if ds.length = 2 then bodyP g_traced 4 ds else none
/-! ### done -/
def g_done : SS := (sSeq (sRet (s2 fIx (sCall p_traced [] (sCons (sV 0) (sCons (sV 1) sNil))) (sC (.int (-1))))) sNx)
def p_done : List PyData → Option PyData := fun ds => if ds.length = 2 then bodyP g_done 2 ds else none
/-! ### _law_from -/
/-! ### hub_takings -/
/-! ### lands_on -/
def c1_lands_on : SI := sComp (sSq (sCall p_orders [] (sCons (sV 0) sNil))) (gN 1) tYes' (sN fLen (sCons (sV 1) sNil)) [1]
def g_lands_on : SS := (sSeq (sRet (sN fTupOf (sCons (sFr c1_lands_on) sNil))) sNx)
def p_lands_on : List PyData → Option PyData := fun ds => if ds.length = 1 then bodyP g_lands_on 2 ds else none
/-! ### bare_arms -/
def g_bare_arms : SS := (sSeq (sRet (sOrE (sM1 fCount (sCall p_lands_on [] (sCons (sV 0) sNil)) (sC (.int 0))) (sM1T fCountT (sCall p_lands_on [] (sCons (sV 0) sNil)) (sC (.int 0))))) sNx)
def p_bare_arms : List PyData → Option PyData := fun ds => if ds.length = 1 then bodyP g_bare_arms 1 ds else none
/-! ### is_frozen -/
def g_is_frozen : SS := (sSeq (sRet (s2 fGe (sCall p_bare_arms [] (sCons (sV 0) sNil)) (sC (.int 2)))) sNx)
def p_is_frozen : List PyData → Option PyData := fun ds => if ds.length = 1 then bodyP g_is_frozen 1 ds else none
/-! ### ever_hub -/
/-! ### own_lands -/
def c1_own_lands : SI := sComp (sSq (sCall p_arm_rows [] (sCons (sV 0) sNil))) (gN 1) tYes' (s2 fIx (sV 1) (sC (.int (-1)))) [1]
def g_own_lands : SS := (sSeq (sExp (sCall p_check_chart [] (sCons (sV 0) sNil))) (sSeq (sIfS (sTr (sCall p_is_frozen [] (sCons (sV 0) sNil))) (sSeq (sRet (sC .none)) sNx) sNx) (sSeq (sRet (sN fTupOf (sCons (sFr c1_own_lands) sNil))) sNx)))
def p_own_lands : List PyData → Option PyData := fun ds => if ds.length = 1 then bodyP g_own_lands 2 ds else none
/-! ### other_lands -/
/-! ### _law_maps -/
/-! ### check_lands -/
/-! ### check_island -/
/-! ### order_choices -/
/-! ### count_classes -/
/-! ### class_counts -/
/-! ### check_great_island -/
/-! ### border_choices -/
/-! ### warm_choices -/
/-! ### count_class -/
/-! ### great_class -/
/-! ### steps_by__ready_takings -/
def b1_steps_by__ready_takings : SS := (sSeq (sAsg (sCall p_made [] (sCons (sV 6) (sCons (sV 7) sNil))) (gN 8)) (sSeq (sIfS (toT (s2 fNotInK (sV 8) (sB 3))) (sSeq (sSetK 3 (sV 8) (s2 fAdd (s2 fIxK (sB 3) (sV 6)) (sC (.int 1)))) (sSeq (sApp 5 (sV 8)) sNx)) sNx) sNx))
def l1_steps_by__ready_takings : SS := sFor (gN 7) (sSq (sCallV 1 0 p_ready_takings (sCons (sV 2) (sCons (sV 6) sNil)))) b1_steps_by__ready_takings
def b2_steps_by__ready_takings : SS := (sSeq l1_steps_by__ready_takings sNx)
def l2_steps_by__ready_takings : SS := sFor (gN 6) (sSq (sV 4)) b2_steps_by__ready_takings
def b3_steps_by__ready_takings : SS := (sSeq (sOwn 5 (sLst sNil)) (sSeq l2_steps_by__ready_takings (sSeq (sAsg (sV 5) (gN 4)) sNx)))
def w1_steps_by__ready_takings : SS := loopW (sTr (sV 4)) b3_steps_by__ready_takings 1000000
def g_steps_by__ready_takings : SS := (sSeq (sAsg (sCall p_touch_table [] (sCons (sV 0) sNil)) (gN 2)) (sSeq (sNew1 3 (s2 fIx (sV 0) (sC (.int 1))) (sC (.int 0))) (sSeq (sAsg (sFr (sLst (sCons (s2 fIx (sV 0) (sC (.int 1))) sNil))) (gN 4)) (sSeq w1_steps_by__ready_takings (sSeq (sRet (sV 3)) sNx)))))
def p_steps_by__ready_takings : List PyData → Option PyData := fun ds => if ds.length + 1 = 2 then bodyF g_steps_by__ready_takings 9 1 ds else none
/-! ### steps_from -/
def g_steps_from : SS := (sSeq (sRet (sCall p_steps_by__ready_takings [] (sCons (sV 0) sNil))) sNx)
def p_steps_from : List PyData → Option PyData := fun ds => if ds.length = 1 then bodyP g_steps_from 1 ds else none
/-! ### class_maps -/
/-! ### class_size -/
/-! ### is_like -/
def g_is_like : SS := (sSeq (sRet (sAnd (s2 fEq (s2 fIx (sV 0) (sC (.int 0))) (s2 fIx (sV 1) (sC (.int 0)))) (sAnd (s2 fEq (sN fLen (sCons (s2 fIx (sV 0) (sC (.int 1))) sNil)) (sN fLen (sCons (s2 fIx (sV 1) (sC (.int 1))) sNil))) (s2 fEq (sN fMax (sCons (s2 fIx (sV 0) (sC (.int 1))) sNil)) (sN fMax (sCons (s2 fIx (sV 1) (sC (.int 1))) sNil)))))) sNx)
def p_is_like : List PyData → Option PyData := fun ds => if ds.length = 2 then bodyP g_is_like 2 ds else none
/-! ### same_class -/
def g_same_class : SS := (sSeq (sExp (sCall p_check_chart [] (sCons (sV 0) sNil))) (sSeq (sExp (sCall p_check_chart [] (sCons (sV 1) sNil))) (sSeq (sIfS (tNot' (sTr (sCall p_is_like [] (sCons (sV 0) (sCons (sV 1) sNil))))) (sSeq (sRet (sC (.bool false))) sNx) sNx) (sSeq (sIfS (sTr (sCall p_is_frozen [] (sCons (sV 0) sNil))) (sSeq (sRet (sAnd (s2 fEq (s2 fIx (s2 fIx (sV 0) (sC (.int 1))) (sC (.int 0))) (s2 fIx (s2 fIx (sV 1) (sC (.int 1))) (sC (.int 0)))) (s2 fEq (sCall p_orders [] (sCons (sV 0) sNil)) (sCall p_orders [] (sCons (sV 1) sNil))))) sNx) sNx) (sSeq (sRet (s2 fEq (sCall p_own_lands [] (sCons (sV 0) sNil)) (sCall p_own_lands [] (sCons (sV 1) sNil)))) sNx)))))
def p_same_class : List PyData → Option PyData := fun ds => if ds.length = 2 then bodyP g_same_class 2 ds else none
/-! ### count_maps -/
/-! ### map_count -/
/-! ### first_map -/
/-! ### check_both -/
def g_check_both : SS := (sSeq (sExp (sCall p_check_chart [] (sCons (sV 0) sNil))) (sSeq (sExp (sCall p_check_chart [] (sCons (sV 1) sNil))) (sSeq (sIfS (tNot' (sTr (sCall p_is_like [] (sCons (sV 0) (sCons (sV 1) sNil))))) (sSeq sNever sNx) sNx) sNx)))
def p_check_both : List PyData → Option PyData := fun ds => if ds.length = 2 then bodyP g_check_both 2 ds else none
/-! ### check_count -/
/-! ### nearing -/
def c1_nearing : SI := sComp (sSq (sCall p_ready_takings [] (sCons (sV 0) (sCons (sV 2) sNil)))) (gN 4) (toT (s2 fLt (s2 fIxK (sV 1) (sCall p_made [] (sCons (sV 2) (sCons (sV 4) sNil)))) (s2 fIxK (sV 1) (sV 2)))) (sV 4) [4]
def g_nearing : SS := (sSeq (sAsg (sFr c1_nearing) (gN 3)) (sSeq (sRet (s2 fIx (sV 3) (sC (.int 0)))) sNx))
def p_nearing : List PyData → Option PyData := fun ds => if ds.length = 3 then bodyP g_nearing 5 ds else none
/-! ### fewest -/
def b1_fewest : SS := (sSeq (sAsg (sCall p_nearing [] (sCons (sV 3) (sCons (sV 2) (sCons (sV 4) sNil)))) (gN 6)) (sSeq (sApp 5 (sV 6)) (sSeq (sAsg (sCall p_made [] (sCons (sV 4) (sCons (sV 6) sNil))) (gN 4)) sNx)))
def w1_fewest : SS := loopW (toT (s2 fNe (sV 4) (s2 fIx (sV 1) (sC (.int 1))))) b1_fewest 1000000
def g_fewest : SS := (sSeq (sExp (sCall p_check_both [] (sCons (sV 0) (sCons (sV 1) sNil)))) (sSeq (sAsg (sCall p_steps_from [] (sCons (sV 1) sNil)) (gN 2)) (sSeq (sIfS (toT (s2 fNotInK (s2 fIx (sV 0) (sC (.int 1))) (sV 2))) (sSeq (sRet (sC .none)) sNx) sNx) (sSeq (sAsg (sCall p_touch_table [] (sCons (sV 0) sNil)) (gN 3)) (sSeq (sAsg (s2 fIx (sV 0) (sC (.int 1))) (gN 4)) (sSeq (sOwn 5 (sLst sNil)) (sSeq w1_fewest (sSeq (sRet (sN fTupOf (sCons (sB 5) sNil))) sNx))))))))
def p_fewest : List PyData → Option PyData := fun ds => if ds.length = 2 then bodyP g_fewest 7 ds else none
/-! ### distance -/
def g_distance : SS := (sSeq (sExp (sCall p_check_both [] (sCons (sV 0) (sCons (sV 1) sNil)))) (sSeq (sRet (sM1K fGet1 (sCall p_steps_from [] (sCons (sV 0) sNil)) (s2 fIx (sV 1) (sC (.int 1))))) sNx))
def p_distance : List PyData → Option PyData := fun ds => if ds.length = 2 then bodyP g_distance 2 ds else none
/-! ### farthest -/
def g_farthest : SS := (sSeq (sExp (sCall p_check_chart [] (sCons (sV 0) sNil))) (sSeq (sRet (sMaxV (sCall p_steps_from [] (sCons (sV 0) sNil)))) sNx))
def p_farthest : List PyData → Option PyData := fun ds => if ds.length = 1 then bodyP g_farthest 1 ds else none
/-! ### leads_to -/
def g_leads_to : SS := (sSeq (sAsg (sCall p_walked [] (sCons (sV 0) (sCons (sV 2) sNil))) (gN 3)) (sSeq (sRet (sAnd (s2 fEq (sN fLen (sCons (sV 3) sNil)) (s2 fAdd (sN fLen (sCons (sV 2) sNil)) (sC (.int 1)))) (s2 fEq (s2 fIx (sV 3) (sC (.int (-1)))) (s2 fIx (sV 1) (sC (.int 1)))))) sNx))
def p_leads_to : List PyData → Option PyData := fun ds => if ds.length = 3 then bodyP g_leads_to 4 ds else none
/-! ### shows_fewest -/
def g_shows_fewest : SS := (sSeq (sAsg (sCall p_distance [] (sCons (sV 0) (sCons (sV 1) sNil))) (gN 3)) (sSeq (sIfS (toT (s2 fIs (sV 3) (sC .none))) (sSeq (sRet (s2 fIs (sV 2) (sC .none))) sNx) sNx) (sSeq (sRet (sAnd (sIsi "tuple" (sV 2)) (sAnd (s2 fEq (sN fLen (sCons (sV 2) sNil)) (sV 3)) (sCall p_leads_to [] (sCons (sV 0) (sCons (sV 1) (sCons (sV 2) sNil))))))) sNx)))
def p_shows_fewest : List PyData → Option PyData := fun ds => if ds.length = 3 then bodyP g_shows_fewest 4 ds else none
/-! ### _law_pairs -/
/-! ### border_moves -/
/-! ### area_ranges -/
/-! ### touch_counts -/
/-! ### ever_touch -/
/-! ### always_touch -/
/-! ### _law_table -/
/-! ### are_values -/
/-! ### check_values -/
/-! ### best_taking -/
/-! ### climb -/
/-! ### sum_of -/
/-! ### worth -/
/-! ### _law_worth -/
/-! ### is_told_best -/
/-! ### _law_ratio -/
/-! ### _law_plus -/
/-! ### _law_by -/
/-! ### _law_next -/
/-! ### ratio -/
/-! ### _law_sum -/
/-! ### check_one_class -/
def g_check_one_class : SS := (sSeq (sIfS (tNot' (sTr (sCall p_same_class [] (sCons (sV 0) (sCons (sV 1) sNil))))) (sSeq sNever sNx) sNx) sNx)
def p_check_one_class : List PyData → Option PyData := fun ds => if ds.length = 2 then bodyP g_check_one_class 2 ds else none
/-! ### check_size -/
/-! ### check_few -/
/-! ### plus -/
/-! ### made_choices -/
/-! ### pair_count -/
/-! ### drawn_choices -/
/-! ### still_chance -/
/-! ### drawn_share -/
/-! ### check_told -/
/-! ### fits -/
/-! ### is_rule_pair -/
/-! ### check_rule -/
/-! ### ruled_takings -/
/-! ### rows_from -/
/-! ### rule_maps -/
/-! ### ruled -/
/-! ### rule_row -/
/-! ### rule_distance -/
/-! ### _law_least -/
/-! ### check_prices -/
/-! ### _law_price -/
/-! ### price_of -/
/-! ### is_told_row -/
/-! ### choices_of -/
/-! ### _law_next_k14 -/
/-! ### _law_holds -/
/-! ### _law_area -/
/-! ### _law_orders -/
/-! ### _law_turned -/
/-! ### _law_named -/
/-! ### first_names -/
/-! ### with_arms_at -/
/-! ### check_order -/
/-! ### renamed -/
/-! ### turned -/
/-! ### room_of -/
/-! ### is_full -/
/-! ### has_room -/
/-! ### _law_skip -/
/-! ### _law_land -/
/-! ### _law_is_map -/
/-! ### with_one_arm_more -/
/-! ### frozen_pairs -/
/-! ### same_chance -/
/-! ### places_on -/
def c1_places_on : SI := sComp (sEnum (sCons (sV 1) sNil)) (gT (gsCons (gN 3) (gsCons (gN 4) gsNil)) 2) (toT (s2 fNe (sV 4) (s2 fIx (sV 2) (sV 3)))) (sV 3) [3, 4]
def g_places_on : SS := (sSeq (sAsg (s2 fAdd (sTup (sCons (sV 0) sNil)) (sV 1)) (gN 2)) (sSeq (sRet (sN fTupOf (sCons (sFr c1_places_on) sNil))) sNx))
def p_places_on : List PyData → Option PyData := fun ds => if ds.length = 2 then bodyP g_places_on 5 ds else none
/-! ### border_places -/
def c1_border_places : SI := sComp (sSq (sCall p_arm_rows [] (sCons (sV 0) sNil))) (gN 1) tYes' (sCall p_places_on [] (sCons (s2 fIx (s2 fIx (sV 0) (sC (.int 1))) (sC (.int 0))) (sCons (sV 1) sNil))) [1]
def g_border_places : SS := (sSeq (sExp (sCall p_check_chart [] (sCons (sV 0) sNil))) (sSeq (sRet (sN fTupOf (sCons (sFr c1_border_places) sNil))) sNx))
def p_border_places : List PyData → Option PyData := fun ds => if ds.length = 1 then bodyP g_border_places 2 ds else none
/-! ### great_classes -/
/-! ### frozen_distance -/
def c1_frozen_distance : SI := sComp (sZip (sCons (sV 3) (sCons (sV 4) sNil))) (gT (gsCons (gN 5) (gsCons (gN 6) gsNil)) 2) tYes' (sN fAbs (sCons (s2 fSub (sV 5) (sV 6)) sNil)) [5, 6]
def b1_frozen_distance : SS := (sSeq (sExt 2 c1_frozen_distance) sNx)
def l1_frozen_distance : SS := sFor (gT (gsCons (gN 3) (gsCons (gN 4) gsNil)) 2) (sZip (sCons (sCall p_border_places [] (sCons (sV 0) sNil)) (sCons (sCall p_border_places [] (sCons (sV 1) sNil)) sNil))) b1_frozen_distance
def g_frozen_distance : SS := (sSeq (sIfS (tNot' (sTr (sCall p_is_frozen [] (sCons (sV 0) sNil)))) (sSeq sNever sNx) sNx) (sSeq (sExp (sCall p_check_one_class [] (sCons (sV 0) (sCons (sV 1) sNil)))) (sSeq (sOwn 2 (sLst sNil)) (sSeq l1_frozen_distance (sSeq (sRet (sN fSum (sCons (sB 2) sNil))) sNx)))))
def p_frozen_distance : List PyData → Option PyData := fun ds => if ds.length = 2 then bodyP g_frozen_distance 7 ds else none
/-! ### count_frozen -/
/-! ### frozen_count -/
/-! ### great_frozen -/
/-! ### great_count -/
/-! ### frozen_share -/
/-! ### check_tuple -/
/-! ### check_of_class -/
/-! ### between -/
/-! ### arrangement_of -/
/-! ### check_followers -/
/-! ### _law_areas -/
/-! ### area_lists -/
/-! ### check_areas -/
/-! ### _law_tree -/
/-! ### ends -/
def c1_ends : SI := sComp (sRg1 (sCons (s2 fAdd (sN fMax (sCons (s2 fIx (sV 0) (sC (.int 1))) sNil)) (sC (.int 1))) sNil)) (gN 1) (toT (s2 fEq (sN fLen (sCons (sCall p_neighbors [] (sCons (sV 0) (sCons (sV 1) sNil))) sNil)) (sC (.int 1)))) (sV 1) [1]
def g_ends : SS := (sSeq (sExp (sCall p_check_chart [] (sCons (sV 0) sNil))) (sSeq (sRet (sN fTupOf (sCons (sFr c1_ends) sNil))) sNx))
def p_ends : List PyData → Option PyData := fun ds => if ds.length = 1 then bodyP g_ends 2 ds else none
/-! ### ever_trees -/
/-! ### check_pairs -/
/-! ### tree_maps -/
/-! ### _law_tried -/
/-! ### order_free -/
/-! ### check_tries -/
/-! ### check_chart_and_tries -/
/-! ### try_all -/
/-! ### tried_rest -/
/-! ### tried -/
/-! ### made_of -/
/-! ### law_k23 -/
/-! ### wanted_takings -/
/-! ### wanted -/
/-! ### is_calm -/
/-! ### calm_maps -/
/-! ### _law_total -/
/-! ### _law_net -/
/-! ### _law_shares -/
/-! ### check_arms_and_lands -/
/-! ### arrangement_count -/
/-! ### arrangements -/
/-! ### all_arrangements -/
/-! ### _law_order -/
/-! ### _law_digits -/
/-! ### free_cells -/
/-! ### check_cells -/
/-! ### links -/
/-! ### all_steps -/
/-! ### diameter -/
/-! ### centers -/
/-! ### swap_takings -/
/-! ### turn_takings -/
/-! ### law_k33 -/
/-! ### law_k34 -/
/-! ### law_k35 -/
/-! ### _law_choices -/
/-! ### law_k36 -/
/-! ### _law_less -/
/-! ### law_k37 -/
/-! ### law_k38 -/
def c1_law_k38 : SI := sComp (sRg1 (sCons (sN fLen (sCons (s2 fIx (sV 5) (sC (.int 1))) sNil)) sNil)) (gN 13) (toT (s2 fNe (s2 fIx (s2 fIx (sV 5) (sC (.int 1))) (sV 13)) (s2 fIx (s2 fIx (sV 6) (sC (.int 1))) (sV 13)))) (sV 13) [13]
def c2_law_k38 : SI := sComp (sSq (sCall p_takings [] (sCons (sV 5) sNil))) (gN 14) tYes' (sCall p_distance [] (sCons (sCall p__law_behind [] (sCons (sV 5) (sCons (sV 14) sNil))) (sCons (sV 6) sNil))) [14]
def c3_law_k38 : SI := sComp (sSq (sV 11)) (gN 13) (toT (s2 fGt (sN fAbs (sCons (s2 fSub (sV 13) (sV 8)) sNil)) (sC (.int 1)))) (sV 13) [13]
def g_law_k38 : SS := (sSeq (sOwn 1 (sLst (sCons (sV 0) (sCons (sC (.int 0)) (sCons (sC (.int 13938)) (sCons (sC (.int 0)) sNil)))))) (sSeq (sAsg (sCallI p__law_island (sCons (sB 1) (sCons (sC (.int 3)) sNil))) (gT (gsCons (gN 2) (gsCons (gN 3) (gsCons (gN 4) gsNil))) 3)) (sSeq (sAsg (sCallI p__law_map (sCons (sB 1) (sCons (sV 2) (sCons (sV 3) (sCons (sV 4) sNil))))) (gN 5)) (sSeq (sAsg (sTup (sCons (s2 fIx (sCallI p__law_walk (sCons (sB 1) (sCons (sV 5) (sCons (sCallI p__law_taken (sCons (sB 1) (sCons (sC (.int 9)) sNil))) sNil)))) (sC (.int 1))) (sCons (s2 fIx (sCallI p__law_walk (sCons (sB 1) (sCons (sV 5) (sCons (sCallI p__law_taken (sCons (sB 1) (sCons (sC (.int 9)) sNil))) sNil)))) (sC (.int 1))) sNil))) (gT (gsCons (gN 6) (gsCons (gN 7) gsNil)) 2)) (sSeq (sAsg (sCall p_distance [] (sCons (sV 5) (sCons (sV 6) sNil))) (gN 8)) (sSeq (sIfS (tOr' (toT (s2 fIs (sV 8) (sC .none))) (tOr' (toT (s2 fNe (sV 8) (sCall p_distance [] (sCons (sV 6) (sCons (sV 5) sNil))))) (tOr' (toT (s2 fGt (sV 8) (s2 fAdd (sCall p_distance [] (sCons (sV 5) (sCons (sV 7) sNil))) (sCall p_distance [] (sCons (sV 7) (sCons (sV 6) sNil)))))) (toT (s2 fNe (sCall p_distance [] (sCons (sV 5) (sCons (sV 5) sNil))) (sC (.int 0))))))) (sSeq (sRet (sC (.bool false))) sNx) sNx) (sSeq (sAsg (sN fLen (sCons (sFr c1_law_k38) sNil)) (gN 9)) (sSeq (sIfS (tOr' (toT (s2 fLt (sV 8) (sV 9))) (tOr' (toT (s2 fNe (s2 fEq (sV 8) (sC (.int 0))) (s2 fEq (sV 5) (sV 6)))) (tOr' (tAnd' (toT (s2 fEq (sV 8) (sC (.int 1)))) (toT (s2 fNe (sV 9) (sC (.int 1))))) (toT (s2 fGt (sV 8) (sCall p_farthest [] (sCons (sV 5) sNil))))))) (sSeq (sRet (sC (.bool false))) sNx) sNx) (sSeq (sIfS (tAnd' (sTr (sCall p_is_frozen [] (sCons (sV 5) sNil))) (toT (s2 fNe (sCall p_frozen_distance [] (sCons (sV 5) (sCons (sV 6) sNil))) (sV 8)))) (sSeq (sRet (sC (.bool false))) sNx) sNx) (sSeq (sAsg (sCall p_fewest [] (sCons (sV 5) (sCons (sV 6) sNil))) (gN 10)) (sSeq (sIfS (tOr' (toT (s2 fNe (sN fLen (sCons (sV 10) sNil)) (sV 8))) (tOr' (toT (s2 fIsNot (sCall p_shows_fewest [] (sCons (sV 5) (sCons (sV 6) (sCons (sV 10) sNil)))) (sC (.bool true)))) (tAnd' (toT (s2 fNe (sV 10) (sTup sNil))) (toT (s2 fNe (sCall p_distance [] (sCons (sCall p__law_behind [] (sCons (sV 5) (sCons (s2 fIx (sV 10) (sC (.int 0))) sNil))) (sCons (sV 6) sNil))) (s2 fSub (sV 8) (sC (.int 1)))))))) (sSeq (sRet (sC (.bool false))) sNx) sNx) (sSeq (sAsg (sFr c2_law_k38) (gN 11)) (sSeq (sIfS (tOr' (toT (s2 fNe (sFr c3_law_k38) (sFr (sLst sNil)))) (tAnd' (toT (s2 fGt (sV 8) (sC (.int 0)))) (toT (s2 fNe (sN fMin1 (sCons (sV 11) sNil)) (s2 fSub (sV 8) (sC (.int 1))))))) (sSeq (sRet (sC (.bool false))) sNx) sNx) (sSeq (sAsg (sCallI p__law_map (sCons (sB 1) (sCons (sV 2) (sCons (sV 3) (sCons (sV 4) sNil))))) (gN 12)) (sSeq (sRet (s2 fEq (s2 fIs (sCall p_distance [] (sCons (sV 5) (sCons (sV 12) sNil))) (sC .none)) (s2 fIs (sCall p_fewest [] (sCons (sV 5) (sCons (sV 12) sNil))) (sC .none)))) sNx)))))))))))))))
def p_law_k38 : List PyData → Option PyData := fun ds => if ds.length = 1 then bodyP g_law_k38 15 ds else none
/-! ### law_k47 -/
/-! ### _law_shares_k58 -/
/-! ### check_areas_k58 -/
/-! ### _law_all_trees -/
/-! ### law_k60 -/
/-! ### law_k76 -/
/-! ### law_k77 -/
/-! ### law_k79 -/
/-! ### check_areas_k80 -/
/-! ### law_k89 -/
/-! ### law_k92 -/
/-! ### check_areas_k99 -/
end ST
namespace S38
open PySem PySem.Spec PyProof.Rows L2 GxR LG PD ST
def topS (i : Nat) : Stmt := PySem.Challenge.pw_starlands_k38_across_distances.main.body.getD i (.Pass ⟨0, 0, 0, 0⟩)
structure Bt (mg : Str → Option Value) : Prop where
  n_abs : mg "abs" = none
  n_all : mg "all" = none
  n_bool : mg "bool" = none
  n_divmod : mg "divmod" = none
  n_enumerate : mg "enumerate" = none
  n_int : mg "int" = none
  n_isinstance : mg "isinstance" = none
  n_len : mg "len" = none
  n_list : mg "list" = none
  n_max : mg "max" = none
  n_min : mg "min" = none
  n_range : mg "range" = none
  n_set : mg "set" = none
  n_sorted : mg "sorted" = none
  n_sum : mg "sum" = none
  n_tuple : mg "tuple" = none
  n_zip : mg "zip" = none
  c_MOST_ARMS : ∃ t, mg "MOST_ARMS" = some (.int 4 t)
  c_MOST_LENGTH : ∃ t, mg "MOST_LENGTH" = some (.int 4 t)
section
variable {P : Program} {w : World} {K : PySem.W.Frag} {mg : Str → Option Value} {base : Heap} {T : List Addr}
abbrev st__law_taken : Stmt := topS 57
theorem sc__law_taken : FnScope ["row", "many", "found", "cell"] ["row", "many"] (defScope st__law_taken) := ⟨rfl, rfl, rfl, by decide +kernel, rfl, by decide +kernel, by decide +kernel⟩
theorem ok__law_taken {f : Addr} {fd : FuncData} (D : Dk K mg "_law_taken" st__law_taken ["row", "many"] f fd) (B : Bt mg) : FnOk P w K mg base CX0 1 f fd ["row", "many"] (spI K T p__law_taken) :=
  fn_io D.fn sc__law_taken g__law_taken (by decide) fun cdv A outer s H E H0 F0 io hr => (ess_cons (es_if (et_cmp op_gt l2_gt (eo_ix ix_seq l2_ix (eo_b 0 (pv 0)) eo_int (fun _ _ => rfl)) eo_int (nomark _)) (ess_cons (es_asg (fun h hg => ps_asg h hg) (eo_op op_mod l2_mod (eo_bn (fun h => pe_callTy call_int1 (by rfl) B.n_int (by decide +kernel) h) ln_int (ea_cons (eo_ix ix_seq l2_ix (eo_b 0 (pv 0)) eo_int (fun _ _ => rfl)) ea_nil)) (eo_v 1 (pv 1))) (eg_n 2 (pg_name (i := 2) sc__law_taken.nd rfl (Or.inl rfl)))) (ess_cons (es_setIx 0 (fun h hi => ps_asg h (pg_sub (pv 0) hi set_list)) (eo_op op_fdivB l2_div (eo_ix ix_seq l2_ix (eo_b 0 (pv 0)) eo_int (fun _ _ => rfl)) (eo_v 1 (pv 1))) eo_int) (ess_cons (es_ret (eo_v 2 (pv 2))) ess_nil))) ess_nil) (ess_cons (es_setIx 0 (fun h hi => ps_asg h (pg_sub (pv 0) hi set_list)) (eo_op op_add3 l2_add3 (eo_ix ix_seq l2_ix (eo_b 0 (pv 0)) eo_int (fun _ _ => rfl)) eo_int) eo_int) (ess_cons (es_if (et_cmp op_gt l2_gt (eo_ix ix_seq l2_ix (eo_b 0 (pv 0)) eo_int (fun _ _ => rfl)) (eo_bn (fun h => pe_callB call_len_seq (by rfl) B.n_len PySem.boot_len h) ln_len (ea_cons (eo_ix ix_seq l2_ix (eo_b 0 (pv 0)) eo_int (fun _ _ => rfl)) ea_nil)) (nomark _)) (ess_cons (es_setIx 0 (fun h hi => ps_asg h (pg_sub (pv 0) hi set_list)) (eo_op op_mod l2_mod (eo_bn (fun h => pe_callTy call_int1 (by rfl) B.n_int (by decide +kernel) h) ln_int (ea_cons (eo_op op_add3 l2_add3 (eo_op op_mulB l2_mul (eo_ix ix_seq l2_ix (eo_b 0 (pv 0)) eo_int (fun _ _ => rfl)) eo_int) eo_int) ea_nil)) eo_int) eo_int) (ess_cons (es_ret (eo_op op_mod l2_mod (eo_bn (fun h => pe_callTy call_int1 (by rfl) B.n_int (by decide +kernel) h) ln_int (ea_cons (eo_op op_fdivB l2_div (eo_ix ix_seq l2_ix (eo_b 0 (pv 0)) eo_int (fun _ _ => rfl)) eo_int) ea_nil)) (eo_v 1 (pv 1)))) ess_nil)) ess_nil) (ess_cons (es_asg (fun h hg => ps_asg h hg) (eo_ix ix_seq l2_ix (eo_ix ix_seq l2_ix (eo_b 0 (pv 0)) eo_int (fun _ _ => rfl)) (eo_op op_sub l2_sub (eo_ix ix_seq l2_ix (eo_b 0 (pv 0)) eo_int (fun _ _ => rfl)) eo_int) (fun _ _ => rfl)) (eg_n 3 (pg_name (i := 3) sc__law_taken.nd rfl (Or.inl rfl)))) (ess_cons (es_setIx 0 (fun h hi => ps_asg h (pg_sub (pv 0) hi set_list)) (eo_op op_mod l2_mod (eo_bn (fun h => pe_callTy call_int1 (by rfl) B.n_int (by decide +kernel) h) ln_int (ea_cons (eo_op op_add3 l2_add3 (eo_op op_add3 l2_add3 (eo_op op_mulB l2_mul (eo_ix ix_seq l2_ix (eo_b 0 (pv 0)) eo_int (fun _ _ => rfl)) eo_int) (eo_v 3 (pv 3))) eo_int) ea_nil)) eo_int) eo_int) (ess_cons (es_if (et_cmp op_ge l2_ge (eo_v 3 (pv 3)) (eo_op op_pow l2_pow eo_int eo_int) (nomark _)) (ess_cons (es_setIx 0 (fun h hi => ps_asg h (pg_sub (pv 0) hi set_list)) (eo_op op_fdivB l2_div (eo_v 3 (pv 3)) (eo_v 1 (pv 1))) eo_int) ess_nil) ess_nil) (ess_cons (es_ret (eo_op op_mod l2_mod (eo_bn (fun h => pe_callTy call_int1 (by rfl) B.n_int (by decide +kernel) h) ln_int (ea_cons (eo_v 3 (pv 3)) ea_nil)) (eo_v 1 (pv 1)))) ess_nil)))))))
abbrev st__law_island : Stmt := topS 67
theorem sc__law_island : FnScope ["row", "most", "length"] ["row", "most"] (defScope st__law_island) := ⟨rfl, rfl, rfl, by decide +kernel, rfl, by decide +kernel, by decide +kernel⟩
theorem ok__law_island {f : Addr} {fd : FuncData} (D : Dk K mg "_law_island" st__law_island ["row", "most"] f fd) (B : Bt mg) {f__law_taken : Addr} {fd__law_taken : FuncData} (D__law_taken : Dk K mg "_law_taken" st__law_taken ["row", "many"] f__law_taken fd__law_taken) (G__law_taken : FnOk P w K mg base CX0 1 f__law_taken fd__law_taken ["row", "many"] (spI K T p__law_taken)) : FnOk P w K mg base CX0 2 f fd ["row", "most"] (spI K T p__law_island) :=
  fn_io D.fn sc__law_island g__law_island (by decide) fun cdv A outer s H E H0 F0 io hr => (ess_cons (es_asg (fun h hg => ps_asg h hg) (eo_op op_add3 l2_add3 eo_int (eo_callI (fun h => pe_call G__law_taken (hr.mono (by decide)) (by rfl) D__law_taken.mg D__law_taken.fn.kp D__law_taken.b .nil pass0 h) (ea_cons (eo_b 0 (pv 0)) (ea_cons (eo_v 1 (pv 1)) ea_nil)))) (eg_n 2 (pg_name (i := 2) sc__law_island.nd rfl (Or.inl rfl)))) (ess_cons (es_ret (eo_tup (ea_cons (eo_op op_add3 l2_add3 eo_int (eo_callI (fun h => pe_call G__law_taken (hr.mono (by decide)) (by rfl) D__law_taken.mg D__law_taken.fn.kp D__law_taken.b .nil pass0 h) (ea_cons (eo_b 0 (pv 0)) (ea_cons eo_int ea_nil)))) (ea_cons (eo_v 2 (pv 2)) (ea_cons (eo_op op_add3 l2_add3 eo_int (eo_callI (fun h => pe_call G__law_taken (hr.mono (by decide)) (by rfl) D__law_taken.mg D__law_taken.fn.kp D__law_taken.b .nil pass0 h) (ea_cons (eo_b 0 (pv 0)) (ea_cons (eo_v 2 (pv 2)) ea_nil)))) ea_nil))))) ess_nil))
abbrev st__law_pick : Stmt := topS 58
theorem sc__law_pick : FnScope ["row", "things"] ["row", "things"] (defScope st__law_pick) := ⟨rfl, rfl, rfl, by decide +kernel, rfl, by decide +kernel, by decide +kernel⟩
theorem ok__law_pick {f : Addr} {fd : FuncData} (D : Dk K mg "_law_pick" st__law_pick ["row", "things"] f fd) (B : Bt mg) {f__law_taken : Addr} {fd__law_taken : FuncData} (D__law_taken : Dk K mg "_law_taken" st__law_taken ["row", "many"] f__law_taken fd__law_taken) (G__law_taken : FnOk P w K mg base CX0 1 f__law_taken fd__law_taken ["row", "many"] (spI K T p__law_taken)) : FnOk P w K mg base CX0 2 f fd ["row", "things"] (spI K T p__law_pick) :=
  fn_io D.fn sc__law_pick g__law_pick (by decide) fun cdv A outer s H E H0 F0 io hr => (ess_cons (es_ret (eo_ix ix_seq l2_ix (eo_v 1 (pv 1)) (eo_callI (fun h => pe_call G__law_taken (hr.mono (by decide)) (by rfl) D__law_taken.mg D__law_taken.fn.kp D__law_taken.b .nil pass0 h) (ea_cons (eo_b 0 (pv 0)) (ea_cons (eo_bn (fun h => pe_callB call_len_seq (by rfl) B.n_len PySem.boot_len h) ln_len (ea_cons (eo_v 1 (pv 1)) ea_nil)) ea_nil))) (fun _ _ => rfl))) ess_nil)
abbrev st__law_map : Stmt := topS 62
theorem sc__law_map : FnScope ["row", "arms", "length", "lands", "left", "cuts", "arm", "turn", "one", "names", "order", "cells", "used", "land", "step", "pair", "k"] ["row", "arms", "length", "lands"] (defScope st__law_map) := ⟨rfl, rfl, rfl, by decide +kernel, rfl, by decide +kernel, by decide +kernel⟩
theorem ok__law_map {f : Addr} {fd : FuncData} (D : Dk K mg "_law_map" st__law_map ["row", "arms", "length", "lands"] f fd) (B : Bt mg) {f__law_pick : Addr} {fd__law_pick : FuncData} (D__law_pick : Dk K mg "_law_pick" st__law_pick ["row", "things"] f__law_pick fd__law_pick) (G__law_pick : FnOk P w K mg base CX0 2 f__law_pick fd__law_pick ["row", "things"] (spI K T p__law_pick)) : FnOk P w K mg base CX0 3 f fd ["row", "arms", "length", "lands"] (spI K T p__law_map) :=
  fn_io D.fn sc__law_map g__law_map (by decide) fun cdv A outer s H E H0 F0 io hr => (ess_cons (es_par (fun h => ps_par (by rfl) sc__law_map.nd rfl rfl (by decide) rfl rfl h (by rfl)) (ea_cons (eo_fr (ef_lst ea_nil)) (ea_cons (eo_fr (ef_lst ea_nil)) ea_nil))) (ess_cons (es_for (fun wi hg hb => ps_for PassesOwn.never rfl wi hg hb) (ei_rg1 (fun h => pi_range1 (by rfl) B.n_range h) (ea_cons (eo_v 1 (pv 1)) ea_nil)) (eg_n 6 (pg_name (i := 6) sc__law_map.nd rfl (Or.inr rfl))) (ess_cons (es_asg (fun h hg => ps_asg h hg) (eo_op op_add3 l2_add3 (eo_v 4 (pv 4)) (eo_fr (ef_comp (own := [("step", 14)]) (fun wi hg ht he => pe_lc (own := [("step", 14)]) rfl sc__law_map.nd wi (blkOk_by (N := ["row", "arms", "length", "lands", "left", "cuts", "arm", "turn", "one", "names", "order", "cells", "used", "land", "step", "pair", "k"]) (sc := defScope st__law_map) (by decide +kernel)) hg ht he) (ei_rg1 (fun h => pi_range1 (by rfl) B.n_range h) (ea_cons (eo_v 2 (pv 2)) ea_nil)) (by decide) (fun H0 F0 io s1 H1 C1 cl1 fp1 => (eg_n 14 (pg_name (i := 14) sc__law_map.nd rfl (Or.inl rfl)))) (fun H0 F0 io s1 H1 C1 cl1 fp1 => ets_nil) (fun H0 F0 io s1 H1 C1 cl1 fp1 => (eo_tup (ea_cons (eo_v 6 (pv 6)) (ea_cons (eo_v 14 (pv 14)) ea_nil))))))) (eg_n 4 (pg_name (i := 4) sc__law_map.nd rfl (Or.inl rfl)))) ess_nil)) (ess_cons (es_for (fun wi hg hb => ps_for PassesOwn.never rfl wi hg hb) (ei_rg1 (fun h => pi_range1 (by rfl) B.n_range h) (ea_cons (eo_op op_sub l2_sub (eo_v 3 (pv 3)) eo_int) ea_nil)) (eg_n 7 (pg_name (i := 7) sc__law_map.nd rfl (Or.inl rfl))) (ess_cons (es_asg (fun h hg => ps_asg h hg) (eo_callI (fun h => pe_call G__law_pick (hr.mono (by decide)) (by rfl) D__law_pick.mg D__law_pick.fn.kp D__law_pick.b .nil pass0 h) (ea_cons (eo_b 0 (pv 0)) (ea_cons (eo_v 4 (pv 4)) ea_nil))) (eg_n 8 (pg_name (i := 8) sc__law_map.nd rfl (Or.inr rfl)))) (ess_cons (es_par (fun h => ps_par (by rfl) sc__law_map.nd rfl rfl (by decide) rfl rfl h (by rfl)) (ea_cons (eo_op op_add3 l2_add3 (eo_v 5 (pv 5)) (eo_fr (ef_lst (ea_cons (eo_v 8 (pv 8)) ea_nil)))) (ea_cons (eo_fr (ef_comp (own := [("pair", 15)]) (fun wi hg ht he => pe_lc (own := [("pair", 15)]) rfl sc__law_map.nd wi (blkOk_by (N := ["row", "arms", "length", "lands", "left", "cuts", "arm", "turn", "one", "names", "order", "cells", "used", "land", "step", "pair", "k"]) (sc := defScope st__law_map) (by decide +kernel)) hg ht he) (ei_sq rfl (eo_v 4 (pv 4))) (by decide) (fun H0 F0 io s1 H1 C1 cl1 fp1 => (eg_n 15 (pg_name (i := 15) sc__law_map.nd rfl (Or.inl rfl)))) (fun H0 F0 io s1 H1 C1 cl1 fp1 => (ets_one (et_cmp (op_neD (hu64 hr)) l2_ne (eo_v 15 (pv 15)) (eo_v 8 (pv 8)) (nomark _)))) (fun H0 F0 io s1 H1 C1 cl1 fp1 => (eo_v 15 (pv 15))))) ea_nil))) ess_nil))) (ess_cons (es_par (fun h => ps_par (by rfl) sc__law_map.nd rfl rfl (by decide) rfl rfl h (by rfl)) (ea_cons (eo_fr (ef_lstRg (fun h => pe_listRg (by rfl) (by rfl) B.n_list h) (er_1 (fun h => prg_1 (by rfl) B.n_range h) (eo_v 3 (pv 3))))) (ea_cons (eo_fr (ef_lst ea_nil)) ea_nil))) (ess_cons (es_for (fun wi hg hb => ps_for PassesOwn.never rfl wi hg hb) (ei_rg1 (fun h => pi_range1 (by rfl) B.n_range h) (ea_cons (eo_v 3 (pv 3)) ea_nil)) (eg_n 7 (pg_name (i := 7) sc__law_map.nd rfl (Or.inl rfl))) (ess_cons (es_asg (fun h hg => ps_asg h hg) (eo_callI (fun h => pe_call G__law_pick (hr.mono (by decide)) (by rfl) D__law_pick.mg D__law_pick.fn.kp D__law_pick.b .nil pass0 h) (ea_cons (eo_b 0 (pv 0)) (ea_cons (eo_v 9 (pv 9)) ea_nil))) (eg_n 8 (pg_name (i := 8) sc__law_map.nd rfl (Or.inr rfl)))) (ess_cons (es_par (fun h => ps_par (by rfl) sc__law_map.nd rfl rfl (by decide) rfl rfl h (by rfl)) (ea_cons (eo_op op_add3 l2_add3 (eo_v 10 (pv 10)) (eo_fr (ef_lst (ea_cons (eo_v 8 (pv 8)) ea_nil)))) (ea_cons (eo_fr (ef_comp (own := [("k", 16)]) (fun wi hg ht he => pe_lc (own := [("k", 16)]) rfl sc__law_map.nd wi (blkOk_by (N := ["row", "arms", "length", "lands", "left", "cuts", "arm", "turn", "one", "names", "order", "cells", "used", "land", "step", "pair", "k"]) (sc := defScope st__law_map) (by decide +kernel)) hg ht he) (ei_sq rfl (eo_v 9 (pv 9))) (by decide) (fun H0 F0 io s1 H1 C1 cl1 fp1 => (eg_n 16 (pg_name (i := 16) sc__law_map.nd rfl (Or.inl rfl)))) (fun H0 F0 io s1 H1 C1 cl1 fp1 => (ets_one (et_cmp (op_neD (hu64 hr)) l2_ne (eo_v 16 (pv 16)) (eo_v 8 (pv 8)) (nomark _)))) (fun H0 F0 io s1 H1 C1 cl1 fp1 => (eo_v 16 (pv 16))))) ea_nil))) ess_nil))) (ess_cons (es_parO (fun h h1 => ps_par (by rfl) sc__law_map.nd rfl rfl (by decide) rfl rfl (pa_cons h (pa_cons h1 pa_nil)) (by rfl)) (ef_lst (ea_cons (eo_ix ix_seq l2_ix (eo_v 10 (pv 10)) eo_int (fun _ _ => rfl)) ea_nil)) (fun H0 F0 io => eo_int)) (ess_cons (es_for (fun wi hg hb => ps_for PassesOwn.never rfl wi hg hb) (ei_rg1 (fun h => pi_range1 (by rfl) B.n_range h) (ea_cons (eo_v 1 (pv 1)) ea_nil)) (eg_n 6 (pg_name (i := 6) sc__law_map.nd rfl (Or.inr rfl))) (ess_cons (es_asg (fun h hg => ps_asg h hg) (eo_ix ix_seq l2_ix (eo_v 10 (pv 10)) eo_int (fun _ _ => rfl)) (eg_n 13 (pg_name (i := 13) sc__law_map.nd rfl (Or.inl rfl)))) (ess_cons (es_for (fun wi hg hb => ps_for PassesOwn.never rfl wi hg hb) (ei_rg1 (fun h => pi_range1 (by rfl) B.n_range h) (ea_cons (eo_v 2 (pv 2)) ea_nil)) (eg_n 14 (pg_name (i := 14) sc__law_map.nd rfl (Or.inl rfl))) (ess_cons (es_if (et_cmp (op_inA (hu65 hr)) l2_in (eo_tup (ea_cons (eo_v 6 (pv 6)) (ea_cons (eo_v 14 (pv 14)) ea_nil))) (eo_v 5 (pv 5)) (by with_unfolding_all rfl)) (ess_cons (es_par (fun h => ps_par (by rfl) sc__law_map.nd rfl rfl (by decide) rfl rfl h (by rfl)) (ea_cons (eo_ix ix_seq l2_ix (eo_v 10 (pv 10)) (eo_v 12 (pv 12)) (fun _ _ => rfl)) (ea_cons (eo_op op_add3 l2_add3 (eo_v 12 (pv 12)) eo_int) ea_nil))) ess_nil) ess_nil) (ess_cons (es_app 11 rfl (fun h => ps_expr (pe_bm PySem.F.plainAttrs_list PySem.F.slot_list_append PySem.F.type_list_append mt_append (pv 11) (pa_cons h pa_nil))) (eo_v 13 (pv 13))) ess_nil))) ess_nil))) (ess_cons (es_ret (eo_tup (ea_cons (eo_v 1 (pv 1)) (ea_cons (eo_bn (fun h => pe_callTy call_tupF (by rfl) B.n_tuple (by decide +kernel) h) ln_tup (ea_cons (eo_b 11 (pv 11)) ea_nil)) ea_nil)))) ess_nil))))))))
abbrev st_inner_cell : Stmt := topS 12
theorem sc_inner_cell : FnScope ["length", "cell"] ["length", "cell"] (defScope st_inner_cell) := ⟨rfl, rfl, rfl, by decide +kernel, rfl, by decide +kernel, by decide +kernel⟩
theorem ok_inner_cell {f : Addr} {fd : FuncData} (D : Dk K mg "inner_cell" st_inner_cell ["length", "cell"] f fd) (B : Bt mg) : FnOk P w K mg base CX0 1 f fd ["length", "cell"] (spP K T p_inner_cell) :=
  fn_pure D.fn sc_inner_cell g_inner_cell (by decide) fun cdv A outer s H E H0 F0 io hr => (ess_cons (es_ret (eo_if (et_tr (eo_op op_mod l2_mod (eo_op op_sub l2_sub (eo_v 1 (pv 1)) eo_int) (eo_v 0 (pv 0)))) (eo_op op_sub l2_sub (eo_v 1 (pv 1)) eo_int) eo_int)) ess_nil)
abbrev st_hang_together : Stmt := topS 14
theorem sc_hang_together : FnScope ["length", "cells", "lands", "crossings", "cell"] ["length", "cells"] (defScope st_hang_together) := ⟨rfl, rfl, rfl, by decide +kernel, rfl, by decide +kernel, by decide +kernel⟩
theorem ok_hang_together {f : Addr} {fd : FuncData} (D : Dk K mg "hang_together" st_hang_together ["length", "cells"] f fd) (B : Bt mg) {f_inner_cell : Addr} {fd_inner_cell : FuncData} (D_inner_cell : Dk K mg "inner_cell" st_inner_cell ["length", "cell"] f_inner_cell fd_inner_cell) (G_inner_cell : FnOk P w K mg base CX0 1 f_inner_cell fd_inner_cell ["length", "cell"] (spP K T p_inner_cell)) : FnOk P w K mg base CX0 2 f fd ["length", "cells"] (spP K T p_hang_together) :=
  fn_pure D.fn sc_hang_together g_hang_together (by decide) fun cdv A outer s H E H0 F0 io hr => (ess_cons (es_asg (fun h hg => ps_asg h hg) (eo_op op_add3 l2_add3 (eo_bn (fun h => pe_callB (cr_maxA (by rfl) (hu64 hr)) (by rfl) B.n_max (by decide +kernel) h) ln_max (ea_cons (eo_v 1 (pv 1)) ea_nil)) eo_int) (eg_n 2 (pg_name (i := 2) sc_hang_together.nd rfl (Or.inl rfl)))) (ess_cons (es_if (et_cmp (op_neD (hu64 hr)) l2_ne (eo_lenSet rfl (fun h => pe_lenSet (by rfl) B.n_len (by rfl) B.n_set h) (eo_v 1 (pv 1))) (eo_v 2 (pv 2)) (nomark _)) (ess_cons (es_ret eo_bl) ess_nil) ess_nil) (ess_cons (es_lc frS (i := 3) (own := [("cell", 4)]) (fun wi hg ht he => ps_setLc (i := 3) (own := [("cell", 4)]) rfl sc_hang_together.nd rfl rfl (sw_true rfl rfl rfl (by decide +kernel)) wi (blkOk_by (N := ["length", "cells", "lands", "crossings", "cell"]) (sc := defScope st_hang_together) (by decide +kernel)) hg ht he) (ei_rg2 (fun h => pi_range2 (by rfl) B.n_range h) (ea_cons eo_int (ea_cons (eo_bn (fun h => pe_callB call_len_seq (by rfl) B.n_len PySem.boot_len h) ln_len (ea_cons (eo_v 1 (pv 1)) ea_nil)) ea_nil))) (by decide) (fun H0 F0 io s1 H1 C1 cl1 fp1 => (eg_n 4 (pg_name (i := 4) sc_hang_together.nd rfl (Or.inl rfl)))) (fun H0 F0 io s1 H1 C1 cl1 fp1 => (ets_one (et_cmp (op_neD (hu64 hr)) l2_ne (eo_ix ix_seq l2_ix (eo_v 1 (pv 1)) (eo_v 4 (pv 4)) (fun _ _ => rfl)) (eo_ix ix_seq l2_ix (eo_v 1 (pv 1)) (eo_call (fun h => pe_call G_inner_cell (hr.mono (by decide)) (by rfl) D_inner_cell.mg D_inner_cell.fn.kp D_inner_cell.b .nil pass0 h) (ea_cons (eo_v 0 (pv 0)) (ea_cons (eo_v 4 (pv 4)) ea_nil)) fun _ => .nil) (fun _ _ => rfl)) (nomark _)))) (fun H0 F0 io s1 H1 C1 cl1 fp1 => (eo_v 4 (pv 4)))) (ess_cons (es_ret (eo_cmp (op_eqD (hu64 hr)) l2_eq (eo_op op_add3 l2_add3 (eo_bn (fun h => pe_callB call_len_seq (by rfl) B.n_len PySem.boot_len h) ln_len (ea_cons (eo_v 3 (pv 3)) ea_nil)) eo_int) (eo_v 2 (pv 2)) (nomark _))) ess_nil))))
abbrev st_is_pair : Stmt := topS 11
theorem sc_is_pair : FnScope ["value"] ["value"] (defScope st_is_pair) := ⟨rfl, rfl, rfl, by decide +kernel, rfl, by decide +kernel, by decide +kernel⟩
theorem ok_is_pair {f : Addr} {fd : FuncData} (D : Dk K mg "is_pair" st_is_pair ["value"] f fd) (B : Bt mg) : FnOk P w K mg base CX0 1 f fd ["value"] (spP K T p_is_pair) :=
  fn_pure D.fn sc_is_pair g_is_pair (by decide) fun cdv A outer s H E H0 F0 io hr => (ess_cons (es_ret (eo_and (eo_isi rfl (by decide) (fun h => pe_callB call_isi (by rfl) B.n_isinstance PyProof.Rows.boot_isinstance (pa_cons h (pa_cons (pe_bltn (u := .type "tuple") (by rfl) B.n_tuple (by decide +kernel) rfl) pa_nil))) (eo_v 0 (pv 0))) (eo_one (eo_cmp (op_eqD (hu64 hr)) l2_eq (eo_bn (fun h => pe_callB call_len_seq (by rfl) B.n_len PySem.boot_len h) ln_len (ea_cons (eo_v 0 (pv 0)) ea_nil)) eo_int (nomark _))))) ess_nil)
abbrev st_is_whole : Stmt := topS 8
theorem sc_is_whole : FnScope ["value"] ["value"] (defScope st_is_whole) := ⟨rfl, rfl, rfl, by decide +kernel, rfl, by decide +kernel, by decide +kernel⟩
theorem ok_is_whole {f : Addr} {fd : FuncData} (D : Dk K mg "is_whole" st_is_whole ["value"] f fd) (B : Bt mg) : FnOk P w K mg base CX0 1 f fd ["value"] (spP K T p_is_whole) :=
  fn_pure D.fn sc_is_whole g_is_whole (by decide) fun cdv A outer s H E H0 F0 io hr => (ess_cons (es_ret (eo_and (eo_isi rfl (by decide) (fun h => pe_callB call_isi (by rfl) B.n_isinstance PyProof.Rows.boot_isinstance (pa_cons h (pa_cons (pe_bltn (u := .type "int") (by rfl) B.n_int (by decide +kernel) rfl) pa_nil))) (eo_v 0 (pv 0))) (eo_one (eo_not (eo_isi rfl (by decide) (fun h => pe_callB call_isi (by rfl) B.n_isinstance PyProof.Rows.boot_isinstance (pa_cons h (pa_cons (pe_bltn (u := .type "bool") (by rfl) B.n_bool (by decide +kernel) rfl) pa_nil))) (eo_v 0 (pv 0))))))) ess_nil)
abbrev st_is_integer : Stmt := topS 9
theorem sc_is_integer : FnScope ["value", "low", "high"] ["value", "low", "high"] (defScope st_is_integer) := ⟨rfl, rfl, rfl, by decide +kernel, rfl, by decide +kernel, by decide +kernel⟩
theorem ok_is_integer {f : Addr} {fd : FuncData} (D : Dk K mg "is_integer" st_is_integer ["value", "low", "high"] f fd) (B : Bt mg) {f_is_whole : Addr} {fd_is_whole : FuncData} (D_is_whole : Dk K mg "is_whole" st_is_whole ["value"] f_is_whole fd_is_whole) (G_is_whole : FnOk P w K mg base CX0 1 f_is_whole fd_is_whole ["value"] (spP K T p_is_whole)) : FnOk P w K mg base CX0 2 f fd ["value", "low", "high"] (spP K T p_is_integer) :=
  fn_pure D.fn sc_is_integer g_is_integer (by decide) fun cdv A outer s H E H0 F0 io hr => (ess_cons (es_ret (eo_and (eo_call (fun h => pe_call G_is_whole (hr.mono (by decide)) (by rfl) D_is_whole.mg D_is_whole.fn.kp D_is_whole.b .nil pass0 h) (ea_cons (eo_v 0 (pv 0)) ea_nil) fun _ => .nil) (eo_one (eo_chain op_le op_le l2_le l2_le (eo_v 1 (pv 1)) (eo_v 0 (pv 0)) (eo_v 2 (pv 2)))))) ess_nil)
abbrev st_are_integers : Stmt := topS 10
theorem sc_are_integers : FnScope ["value", "low", "high", "thing"] ["value", "low", "high"] (defScope st_are_integers) := ⟨rfl, rfl, rfl, by decide +kernel, rfl, by decide +kernel, by decide +kernel⟩
theorem ok_are_integers {f : Addr} {fd : FuncData} {cA P0 : Addr} (D : Dg K mg "are_integers" st_are_integers ["value", "low", "high"] f fd cA) (B : Bt mg) (TB : TabB base mg cA P0) (hP : P0 ∈ T) {f_is_integer : Addr} {fd_is_integer : FuncData} (D_is_integer : Dk K mg "is_integer" st_is_integer ["value", "low", "high"] f_is_integer fd_is_integer) (G_is_integer : FnOk P w K mg base CX0 2 f_is_integer fd_is_integer ["value", "low", "high"] (spP K T p_is_integer)) : FnOk P w K mg base CX0 4 f fd ["value", "low", "high"] (spP K T p_are_integers) :=
  D.pure sc_are_integers g_are_integers (by decide) fun A outer s H E H0 F0 io hr => (ess_cons (es_ret (eo_and (eo_isi rfl (by decide) (fun h => pe_callB call_isi (by rfl) B.n_isinstance PyProof.Rows.boot_isinstance (pa_cons h (pa_cons (pe_bltn (u := .type "tuple") (by rfl) B.n_tuple (by decide +kernel) rfl) pa_nil))) (eo_v 0 (pv 0))) (eo_one (eo_all (own := [("thing", 3)]) (k := 2) hP (fun wi hg he => pe_allG (own := [("thing", 3)]) (k := 2) rfl sc_are_integers.nd hr (by rfl) B.n_all TB rfl ⟨blkOk_by (N := ["value", "low", "high", "thing"]) (sc := defScope st_are_integers) (by decide +kernel), by decide +kernel, by decide +kernel, rfl⟩ wi hg he) (ei_sq rfl (eo_v 0 (pv 0))) (by decide) (fun s1 H1 A1 C1 code1 fp1 => (eg_n 3 (pg_name (i := 3) sc_are_integers.nd rfl (Or.inl rfl)))) (fun s1 H1 A1 C1 code1 fp1 HG => (eo_call (fun h => pe_call G_is_integer (HG.mono (by decide)) (by rfl) D_is_integer.mg D_is_integer.fn.kp D_is_integer.b .nil pass0 h) (ea_cons (eo_v 3 (pv 3)) (ea_cons (eo_v 1 (pv 1)) (ea_cons (eo_v 2 (pv 2)) ea_nil))) fun _ => .nil)))))) ess_nil)
abbrev st_is_chart : Stmt := topS 15
theorem sc_is_chart : FnScope ["value", "arms", "cells", "length", "rest"] ["value"] (defScope st_is_chart) := ⟨rfl, rfl, rfl, by decide +kernel, rfl, by decide +kernel, by decide +kernel⟩
theorem ok_is_chart {f : Addr} {fd : FuncData} (D : Dk K mg "is_chart" st_is_chart ["value"] f fd) (B : Bt mg) {f_is_pair : Addr} {fd_is_pair : FuncData} (D_is_pair : Dk K mg "is_pair" st_is_pair ["value"] f_is_pair fd_is_pair) (G_is_pair : FnOk P w K mg base CX0 1 f_is_pair fd_is_pair ["value"] (spP K T p_is_pair)) {f_is_integer : Addr} {fd_is_integer : FuncData} (D_is_integer : Dk K mg "is_integer" st_is_integer ["value", "low", "high"] f_is_integer fd_is_integer) (G_is_integer : FnOk P w K mg base CX0 2 f_is_integer fd_is_integer ["value", "low", "high"] (spP K T p_is_integer)) {f_are_integers : Addr} {fd_are_integers : FuncData} {c_are_integers : Addr} (D_are_integers : Dg K mg "are_integers" st_are_integers ["value", "low", "high"] f_are_integers fd_are_integers c_are_integers) (G_are_integers : FnOk P w K mg base CX0 4 f_are_integers fd_are_integers ["value", "low", "high"] (spP K T p_are_integers)) {f_hang_together : Addr} {fd_hang_together : FuncData} (D_hang_together : Dk K mg "hang_together" st_hang_together ["length", "cells"] f_hang_together fd_hang_together) (G_hang_together : FnOk P w K mg base CX0 2 f_hang_together fd_hang_together ["length", "cells"] (spP K T p_hang_together)) : FnOk P w K mg base CX0 5 f fd ["value"] (spP K T p_is_chart) :=
  fn_pure D.fn sc_is_chart g_is_chart (by decide) fun cdv A outer s H E H0 F0 io hr => (ess_cons (es_if (et_not (et_tr (eo_call (fun h => pe_call G_is_pair (hr.mono (by decide)) (by rfl) D_is_pair.mg D_is_pair.fn.kp D_is_pair.b .nil pass0 h) (ea_cons (eo_v 0 (pv 0)) ea_nil) fun _ => .nil))) (ess_cons (es_ret eo_bl) ess_nil) ess_nil) (ess_cons (es_asg (fun h hg => ps_asg h hg) (eo_v 0 (pv 0)) (eg_t (egs_cons (eg_n 1 (pg_name (i := 1) sc_is_chart.nd rfl (Or.inl rfl))) (egs_cons (eg_n 2 (pg_name (i := 2) sc_is_chart.nd rfl (Or.inl rfl))) egs_nil (fun h h1 => pgs_cons h h1)) (fun h h1 => pgs_cons h h1)) (fun h => pg_tup (by rfl) h) rfl)) (ess_cons (es_if (et_w (ew_or (et_not (et_tr (eo_call (fun h => pe_call G_is_integer (hr.mono (by decide)) (by rfl) D_is_integer.mg D_is_integer.fn.kp D_is_integer.b .nil pass0 h) (ea_cons (eo_v 1 (pv 1)) (ea_cons eo_int (ea_cons (eo_gint (by rfl) B.c_MOST_ARMS.choose_spec) ea_nil))) fun _ => .nil))) (ew_or1 (et_not (et_tr (eo_isi rfl (by decide) (fun h => pe_callB call_isi (by rfl) B.n_isinstance PyProof.Rows.boot_isinstance (pa_cons h (pa_cons (pe_bltn (u := .type "tuple") (by rfl) B.n_tuple (by decide +kernel) rfl) pa_nil))) (eo_v 2 (pv 2)))))))) (ess_cons (es_ret eo_bl) ess_nil) ess_nil) (ess_cons (es_asg (fun h hg => ps_asg h hg) (eo_bn (fun h => pe_callB call_divF (by rfl) B.n_divmod (by decide +kernel) h) ln_divmod (ea_cons (eo_op op_sub l2_sub (eo_bn (fun h => pe_callB call_len_seq (by rfl) B.n_len PySem.boot_len h) ln_len (ea_cons (eo_v 2 (pv 2)) ea_nil)) eo_int) (ea_cons (eo_v 1 (pv 1)) ea_nil))) (eg_t (egs_cons (eg_n 3 (pg_name (i := 3) sc_is_chart.nd rfl (Or.inl rfl))) (egs_cons (eg_n 4 (pg_name (i := 4) sc_is_chart.nd rfl (Or.inl rfl))) egs_nil (fun h h1 => pgs_cons h h1)) (fun h h1 => pgs_cons h h1)) (fun h => pg_tup (by rfl) h) rfl)) (ess_cons (es_if (et_w (ew_or (et_cmp (op_neD (hu64 hr)) l2_ne (eo_v 4 (pv 4)) eo_int (nomark _)) (ew_or1 (et_not (et_chain op_le op_le l2_le l2_le eo_int (eo_v 3 (pv 3)) (eo_gint (by rfl) B.c_MOST_LENGTH.choose_spec)))))) (ess_cons (es_ret eo_bl) ess_nil) ess_nil) (ess_cons (es_if (et_w (ew_or (et_not (et_tr (eo_call (fun h => pe_call G_are_integers (hr.mono (by decide)) (by rfl) D_are_integers.mg D_are_integers.kp D_are_integers.b .nil pass0 h) (ea_cons (eo_v 2 (pv 2)) (ea_cons eo_int (ea_cons (eo_v 3 (pv 3)) ea_nil))) fun _ => .nil))) (ew_or1 (et_cmp (op_eqD (hu64 hr)) l2_eq (eo_bn (fun h => pe_callB (cr_maxA (by rfl) (hu64 hr)) (by rfl) B.n_max (by decide +kernel) h) ln_max (ea_cons (eo_v 2 (pv 2)) ea_nil)) eo_int (nomark _))))) (ess_cons (es_ret eo_bl) ess_nil) ess_nil) (ess_cons (es_ret (eo_call (fun h => pe_call G_hang_together (hr.mono (by decide)) (by rfl) D_hang_together.mg D_hang_together.fn.kp D_hang_together.b .nil pass0 h) (ea_cons (eo_v 3 (pv 3)) (ea_cons (eo_v 2 (pv 2)) ea_nil)) fun _ => .nil)) ess_nil)))))))
abbrev st_check_chart : Stmt := topS 19
theorem sc_check_chart : FnScope ["chart"] ["chart"] (defScope st_check_chart) := ⟨rfl, rfl, rfl, by decide +kernel, rfl, by decide +kernel, by decide +kernel⟩
theorem ok_check_chart {f : Addr} {fd : FuncData} (D : Dk K mg "check_chart" st_check_chart ["chart"] f fd) (B : Bt mg) {f_is_chart : Addr} {fd_is_chart : FuncData} (D_is_chart : Dk K mg "is_chart" st_is_chart ["value"] f_is_chart fd_is_chart) (G_is_chart : FnOk P w K mg base CX0 5 f_is_chart fd_is_chart ["value"] (spP K T p_is_chart)) : FnOk P w K mg base CX0 6 f fd ["chart"] (spP K T p_check_chart) :=
  fn_pure D.fn sc_check_chart g_check_chart (by decide) fun cdv A outer s H E H0 F0 io hr => (ess_cons (es_if (et_not (et_tr (eo_call (fun h => pe_call G_is_chart (hr.mono (by decide)) (by rfl) D_is_chart.mg D_is_chart.fn.kp D_is_chart.b .nil pass0 h) (ea_cons (eo_v 0 (pv 0)) ea_nil) fun _ => .nil))) (ess_cons es_never ess_nil) ess_nil) ess_nil)
abbrev st_is_like : Stmt := topS 16
theorem sc_is_like : FnScope ["one", "other"] ["one", "other"] (defScope st_is_like) := ⟨rfl, rfl, rfl, by decide +kernel, rfl, by decide +kernel, by decide +kernel⟩
theorem ok_is_like {f : Addr} {fd : FuncData} (D : Dk K mg "is_like" st_is_like ["one", "other"] f fd) (B : Bt mg) : FnOk P w K mg base CX0 1 f fd ["one", "other"] (spP K T p_is_like) :=
  fn_pure D.fn sc_is_like g_is_like (by decide) fun cdv A outer s H E H0 F0 io hr => (ess_cons (es_ret (eo_and (eo_cmp (op_eqD (hu64 hr)) l2_eq (eo_ix ix_seq l2_ix (eo_v 0 (pv 0)) eo_int (fun _ _ => rfl)) (eo_ix ix_seq l2_ix (eo_v 1 (pv 1)) eo_int (fun _ _ => rfl)) (nomark _)) (eo_and (eo_cmp (op_eqD (hu64 hr)) l2_eq (eo_bn (fun h => pe_callB call_len_seq (by rfl) B.n_len PySem.boot_len h) ln_len (ea_cons (eo_ix ix_seq l2_ix (eo_v 0 (pv 0)) eo_int (fun _ _ => rfl)) ea_nil)) (eo_bn (fun h => pe_callB call_len_seq (by rfl) B.n_len PySem.boot_len h) ln_len (ea_cons (eo_ix ix_seq l2_ix (eo_v 1 (pv 1)) eo_int (fun _ _ => rfl)) ea_nil)) (nomark _)) (eo_one (eo_cmp (op_eqD (hu64 hr)) l2_eq (eo_bn (fun h => pe_callB (cr_maxA (by rfl) (hu64 hr)) (by rfl) B.n_max (by decide +kernel) h) ln_max (ea_cons (eo_ix ix_seq l2_ix (eo_v 0 (pv 0)) eo_int (fun _ _ => rfl)) ea_nil)) (eo_bn (fun h => pe_callB (cr_maxA (by rfl) (hu64 hr)) (by rfl) B.n_max (by decide +kernel) h) ln_max (ea_cons (eo_ix ix_seq l2_ix (eo_v 1 (pv 1)) eo_int (fun _ _ => rfl)) ea_nil)) (nomark _)))))) ess_nil)
abbrev st_check_both : Stmt := topS 20
theorem sc_check_both : FnScope ["one", "other"] ["one", "other"] (defScope st_check_both) := ⟨rfl, rfl, rfl, by decide +kernel, rfl, by decide +kernel, by decide +kernel⟩
theorem ok_check_both {f : Addr} {fd : FuncData} (D : Dk K mg "check_both" st_check_both ["one", "other"] f fd) (B : Bt mg) {f_check_chart : Addr} {fd_check_chart : FuncData} (D_check_chart : Dk K mg "check_chart" st_check_chart ["chart"] f_check_chart fd_check_chart) (G_check_chart : FnOk P w K mg base CX0 6 f_check_chart fd_check_chart ["chart"] (spP K T p_check_chart)) {f_is_like : Addr} {fd_is_like : FuncData} (D_is_like : Dk K mg "is_like" st_is_like ["one", "other"] f_is_like fd_is_like) (G_is_like : FnOk P w K mg base CX0 1 f_is_like fd_is_like ["one", "other"] (spP K T p_is_like)) : FnOk P w K mg base CX0 7 f fd ["one", "other"] (spP K T p_check_both) :=
  fn_pure D.fn sc_check_both g_check_both (by decide) fun cdv A outer s H E H0 F0 io hr => (ess_cons (es_exp (eo_call (fun h => pe_call G_check_chart (hr.mono (by decide)) (by rfl) D_check_chart.mg D_check_chart.fn.kp D_check_chart.b .nil pass0 h) (ea_cons (eo_v 0 (pv 0)) ea_nil) fun _ => .nil)) (ess_cons (es_exp (eo_call (fun h => pe_call G_check_chart (hr.mono (by decide)) (by rfl) D_check_chart.mg D_check_chart.fn.kp D_check_chart.b .nil pass0 h) (ea_cons (eo_v 1 (pv 1)) ea_nil) fun _ => .nil)) (ess_cons (es_if (et_not (et_tr (eo_call (fun h => pe_call G_is_like (hr.mono (by decide)) (by rfl) D_is_like.mg D_is_like.fn.kp D_is_like.b .nil pass0 h) (ea_cons (eo_v 0 (pv 0)) (ea_cons (eo_v 1 (pv 1)) ea_nil)) fun _ => .nil))) (ess_cons es_never ess_nil) ess_nil) ess_nil)))
abbrev st_length_of : Stmt := topS 13
theorem sc_length_of : FnScope ["chart"] ["chart"] (defScope st_length_of) := ⟨rfl, rfl, rfl, by decide +kernel, rfl, by decide +kernel, by decide +kernel⟩
theorem ok_length_of {f : Addr} {fd : FuncData} (D : Dk K mg "length_of" st_length_of ["chart"] f fd) (B : Bt mg) : FnOk P w K mg base CX0 1 f fd ["chart"] (spP K T p_length_of) :=
  fn_pure D.fn sc_length_of g_length_of (by decide) fun cdv A outer s H E H0 F0 io hr => (ess_cons (es_ret (eo_op op_fdivB l2_div (eo_op op_sub l2_sub (eo_bn (fun h => pe_callB call_len_seq (by rfl) B.n_len PySem.boot_len h) ln_len (ea_cons (eo_ix ix_seq l2_ix (eo_v 0 (pv 0)) eo_int (fun _ _ => rfl)) ea_nil)) eo_int) (eo_ix ix_seq l2_ix (eo_v 0 (pv 0)) eo_int (fun _ _ => rfl)))) ess_nil)
abbrev st_touching_cells : Stmt := topS 22
theorem sc_touching_cells : FnScope ["arms", "length", "cell", "inner", "arm"] ["arms", "length", "cell"] (defScope st_touching_cells) := ⟨rfl, rfl, rfl, by decide +kernel, rfl, by decide +kernel, by decide +kernel⟩
theorem ok_touching_cells {f : Addr} {fd : FuncData} (D : Dk K mg "touching_cells" st_touching_cells ["arms", "length", "cell"] f fd) (B : Bt mg) {f_inner_cell : Addr} {fd_inner_cell : FuncData} (D_inner_cell : Dk K mg "inner_cell" st_inner_cell ["length", "cell"] f_inner_cell fd_inner_cell) (G_inner_cell : FnOk P w K mg base CX0 1 f_inner_cell fd_inner_cell ["length", "cell"] (spP K T p_inner_cell)) : FnOk P w K mg base CX0 2 f fd ["arms", "length", "cell"] (spP K T p_touching_cells) :=
  fn_pure D.fn sc_touching_cells g_touching_cells (by decide) fun cdv A outer s H E H0 F0 io hr => (ess_cons (es_if (et_cmp (op_eqD (hu64 hr)) l2_eq (eo_v 2 (pv 2)) eo_int (nomark _)) (ess_cons (es_ret (eo_bn (fun h => pe_callTy call_tupF (by rfl) B.n_tuple (by decide +kernel) h) ln_tup (ea_cons (eo_fr (ef_comp (own := [("arm", 4)]) (fun wi hg ht he => pe_lc (own := [("arm", 4)]) rfl sc_touching_cells.nd wi (blkOk_by (N := ["arms", "length", "cell", "inner", "arm"]) (sc := defScope st_touching_cells) (by decide +kernel)) hg ht he) (ei_rg1 (fun h => pi_range1 (by rfl) B.n_range h) (ea_cons (eo_v 0 (pv 0)) ea_nil)) (by decide) (fun H0 F0 io s1 H1 C1 cl1 fp1 => (eg_n 4 (pg_name (i := 4) sc_touching_cells.nd rfl (Or.inl rfl)))) (fun H0 F0 io s1 H1 C1 cl1 fp1 => ets_nil) (fun H0 F0 io s1 H1 C1 cl1 fp1 => (eo_op op_add3 l2_add3 eo_int (eo_op op_mulB l2_mul (eo_v 4 (pv 4)) (eo_v 1 (pv 1))))))) ea_nil))) ess_nil) ess_nil) (ess_cons (es_asg (fun h hg => ps_asg h hg) (eo_call (fun h => pe_call G_inner_cell (hr.mono (by decide)) (by rfl) D_inner_cell.mg D_inner_cell.fn.kp D_inner_cell.b .nil pass0 h) (ea_cons (eo_v 1 (pv 1)) (ea_cons (eo_v 2 (pv 2)) ea_nil)) fun _ => .nil) (eg_n 3 (pg_name (i := 3) sc_touching_cells.nd rfl (Or.inl rfl)))) (ess_cons (es_if (et_cmp (op_eqD (hu64 hr)) l2_eq (eo_op op_mod l2_mod (eo_v 2 (pv 2)) (eo_v 1 (pv 1))) eo_int (nomark _)) (ess_cons (es_ret (eo_tup (ea_cons (eo_v 3 (pv 3)) ea_nil))) ess_nil) ess_nil) (ess_cons (es_ret (eo_tup (ea_cons (eo_v 3 (pv 3)) (ea_cons (eo_op op_add3 l2_add3 (eo_v 2 (pv 2)) eo_int) ea_nil)))) ess_nil))))
abbrev st_touch_table : Stmt := topS 23
theorem sc_touch_table : FnScope ["chart", "arms", "cells", "length", "cell"] ["chart"] (defScope st_touch_table) := ⟨rfl, rfl, rfl, by decide +kernel, rfl, by decide +kernel, by decide +kernel⟩
theorem ok_touch_table {f : Addr} {fd : FuncData} (D : Dk K mg "touch_table" st_touch_table ["chart"] f fd) (B : Bt mg) {f_length_of : Addr} {fd_length_of : FuncData} (D_length_of : Dk K mg "length_of" st_length_of ["chart"] f_length_of fd_length_of) (G_length_of : FnOk P w K mg base CX0 1 f_length_of fd_length_of ["chart"] (spP K T p_length_of)) {f_touching_cells : Addr} {fd_touching_cells : FuncData} (D_touching_cells : Dk K mg "touching_cells" st_touching_cells ["arms", "length", "cell"] f_touching_cells fd_touching_cells) (G_touching_cells : FnOk P w K mg base CX0 2 f_touching_cells fd_touching_cells ["arms", "length", "cell"] (spP K T p_touching_cells)) : FnOk P w K mg base CX0 3 f fd ["chart"] (spP K T p_touch_table) :=
  fn_pure D.fn sc_touch_table g_touch_table (by decide) fun cdv A outer s H E H0 F0 io hr => (ess_cons (es_asg (fun h hg => ps_asg h hg) (eo_v 0 (pv 0)) (eg_t (egs_cons (eg_n 1 (pg_name (i := 1) sc_touch_table.nd rfl (Or.inr rfl))) (egs_cons (eg_n 2 (pg_name (i := 2) sc_touch_table.nd rfl (Or.inl rfl))) egs_nil (fun h h1 => pgs_cons h h1)) (fun h h1 => pgs_cons h h1)) (fun h => pg_tup (by rfl) h) rfl)) (ess_cons (es_asg (fun h hg => ps_asg h hg) (eo_call (fun h => pe_call G_length_of (hr.mono (by decide)) (by rfl) D_length_of.mg D_length_of.fn.kp D_length_of.b .nil pass0 h) (ea_cons (eo_v 0 (pv 0)) ea_nil) fun _ => .nil) (eg_n 3 (pg_name (i := 3) sc_touch_table.nd rfl (Or.inr rfl)))) (ess_cons (es_ret (eo_fr (ef_comp (own := [("cell", 4)]) (fun wi hg ht he => pe_lc (own := [("cell", 4)]) rfl sc_touch_table.nd wi (blkOk_by (N := ["chart", "arms", "cells", "length", "cell"]) (sc := defScope st_touch_table) (by decide +kernel)) hg ht he) (ei_rg1 (fun h => pi_range1 (by rfl) B.n_range h) (ea_cons (eo_bn (fun h => pe_callB call_len_seq (by rfl) B.n_len PySem.boot_len h) ln_len (ea_cons (eo_v 2 (pv 2)) ea_nil)) ea_nil)) (by decide) (fun H0 F0 io s1 H1 C1 cl1 fp1 => (eg_n 4 (pg_name (i := 4) sc_touch_table.nd rfl (Or.inl rfl)))) (fun H0 F0 io s1 H1 C1 cl1 fp1 => ets_nil) (fun H0 F0 io s1 H1 C1 cl1 fp1 => (eo_call (fun h => pe_call G_touching_cells (hr.mono (by decide)) (by rfl) D_touching_cells.mg D_touching_cells.fn.kp D_touching_cells.b .nil pass0 h) (ea_cons (eo_v 1 (pv 1)) (ea_cons (eo_v 3 (pv 3)) (ea_cons (eo_v 4 (pv 4)) ea_nil))) fun _ => .nil))))) ess_nil)))
abbrev st_made : Stmt := topS 33
theorem sc_made : FnScope ["cells", "taking", "land", "cell"] ["cells", "taking"] (defScope st_made) := ⟨rfl, rfl, rfl, by decide +kernel, rfl, by decide +kernel, by decide +kernel⟩
theorem ok_made {f : Addr} {fd : FuncData} (D : Dk K mg "made" st_made ["cells", "taking"] f fd) (B : Bt mg) : FnOk P w K mg base CX0 1 f fd ["cells", "taking"] (spP K T p_made) :=
  fn_pure D.fn sc_made g_made (by decide) fun cdv A outer s H E H0 F0 io hr => (ess_cons (es_asg (fun h hg => ps_asg h hg) (eo_v 1 (pv 1)) (eg_t (egs_cons (eg_n 2 (pg_name (i := 2) sc_made.nd rfl (Or.inl rfl))) (egs_cons (eg_n 3 (pg_name (i := 3) sc_made.nd rfl (Or.inl rfl))) egs_nil (fun h h1 => pgs_cons h h1)) (fun h h1 => pgs_cons h h1)) (fun h => pg_tup (by rfl) h) rfl)) (ess_cons (es_ret (eo_op op_add3 l2_add3 (eo_op op_add3 l2_add3 (eo_slice rfl (fun h hl hh => pe_slice sl_D h hl hh) (eo_v 0 (pv 0)) ep_none (ep_some (eo_v 3 (pv 3)))) (eo_tup (ea_cons (eo_v 2 (pv 2)) ea_nil))) (eo_slice rfl (fun h hl hh => pe_slice sl_D h hl hh) (eo_v 0 (pv 0)) (ep_some (eo_op op_add3 l2_add3 (eo_v 3 (pv 3)) eo_int)) ep_none))) ess_nil))
abbrev st_can_lose : Stmt := topS 30
theorem sc_can_lose : FnScope ["loser", "near"] ["loser", "near"] (defScope st_can_lose) := ⟨rfl, rfl, rfl, by decide +kernel, rfl, by decide +kernel, by decide +kernel⟩
theorem ok_can_lose {f : Addr} {fd : FuncData} (D : Dk K mg "can_lose" st_can_lose ["loser", "near"] f fd) (B : Bt mg) : FnOk P w K mg base CX0 1 f fd ["loser", "near"] (spP K T p_can_lose) :=
  fn_pure D.fn sc_can_lose g_can_lose (by decide) fun cdv A outer s H E H0 F0 io hr => (ess_cons (es_ret (eo_cmp (op_eqD (hu64 hr)) l2_eq (eo_or2 (eo_m1 rfl (fun h h1 => pe_bm PySem.F.plainAttrs_list PySem.F.slot_list_count PySem.F.type_list_count mt_lcount h (pa_cons h1 pa_nil)) l1_count (eo_v 1 (pv 1)) (eo_v 0 (pv 0))) (eo_m1T rfl (fun h h1 => pe_tm PySem.F.slot_tuple_count PySem.F.type_tuple_count mt_tcount h (pa_cons h1 pa_nil)) l1_countT (eo_v 1 (pv 1)) (eo_v 0 (pv 0)))) eo_int (nomark _))) ess_nil)
abbrev st_ready_takings : Stmt := topS 32
theorem sc_ready_takings : FnScope ["table", "cells", "ready", "cell", "places", "near", "loser", "place", "land"] ["table", "cells"] (defScope st_ready_takings) := ⟨rfl, rfl, rfl, by decide +kernel, rfl, by decide +kernel, by decide +kernel⟩
theorem ok_ready_takings {f : Addr} {fd : FuncData} (D : Dk K mg "ready_takings" st_ready_takings ["table", "cells"] f fd) (B : Bt mg) {f_can_lose : Addr} {fd_can_lose : FuncData} (D_can_lose : Dk K mg "can_lose" st_can_lose ["loser", "near"] f_can_lose fd_can_lose) (G_can_lose : FnOk P w K mg base CX0 1 f_can_lose fd_can_lose ["loser", "near"] (spP K T p_can_lose)) : FnOk P w K mg base CX0 2 f fd ["table", "cells"] (spP K T p_ready_takings) :=
  fn_pure D.fn sc_ready_takings g_ready_takings (by decide) fun cdv A outer s H E H0 F0 io hr => (ess_cons (es_own 2 (fun h => ps_set (i := 2) sc_ready_takings.nd rfl (Or.inl rfl) h) (ef_lst ea_nil)) (ess_cons (es_for (fun wi hg hb => ps_for PassesOwn.never rfl wi hg hb) (ei_enum rfl (fun h => ENT.pi_enumL (by rfl) B.n_enumerate h) (fun h => ENT.pi_enumT (by rfl) B.n_enumerate h) (ea_cons (eo_v 0 (pv 0)) ea_nil)) (eg_t (egs_cons (eg_n 3 (pg_name (i := 3) sc_ready_takings.nd rfl (Or.inr rfl))) (egs_cons (eg_n 4 (pg_name (i := 4) sc_ready_takings.nd rfl (Or.inl rfl))) egs_nil (fun h h1 => pgs_cons h h1)) (fun h h1 => pgs_cons h h1)) (fun h => pg_tup (by rfl) h) rfl) (ess_cons (es_lc frS (i := 5) (own := [("place", 7)]) (fun wi hg ht he => ps_setLc (i := 5) (own := [("place", 7)]) rfl sc_ready_takings.nd rfl rfl (sw_true rfl rfl rfl (by decide +kernel)) wi (blkOk_by (N := ["table", "cells", "ready", "cell", "places", "near", "loser", "place", "land"]) (sc := defScope st_ready_takings) (by decide +kernel)) hg ht he) (ei_sq rfl (eo_v 4 (pv 4))) (by decide) (fun H0 F0 io s1 H1 C1 cl1 fp1 => (eg_n 7 (pg_name (i := 7) sc_ready_takings.nd rfl (Or.inl rfl)))) (fun H0 F0 io s1 H1 C1 cl1 fp1 => ets_nil) (fun H0 F0 io s1 H1 C1 cl1 fp1 => (eo_ix ix_seq l2_ix (eo_v 1 (pv 1)) (eo_v 7 (pv 7)) (fun _ _ => rfl)))) (ess_cons (es_asg (fun h hg => ps_asg h hg) (eo_ix ix_seq l2_ix (eo_v 1 (pv 1)) (eo_v 3 (pv 3)) (fun _ _ => rfl)) (eg_n 6 (pg_name (i := 6) sc_ready_takings.nd rfl (Or.inr rfl)))) (ess_cons (es_if (et_tr (eo_call (fun h => pe_call G_can_lose (hr.mono (by decide)) (by rfl) D_can_lose.mg D_can_lose.fn.kp D_can_lose.b .nil pass0 h) (ea_cons (eo_v 6 (pv 6)) (ea_cons (eo_v 5 (pv 5)) ea_nil)) fun _ => .nil)) (ess_cons (es_ext 2 (fun h => ps_expr (pe_bm PySem.F.plainAttrs_list PySem.F.slot_list_extend PySem.F.type_list_extend mt_extend (pv 2) (pa_cons h pa_nil))) (ef_comp (own := [("land", 8)]) (fun wi hg ht he => pe_lc (own := [("land", 8)]) rfl sc_ready_takings.nd wi (blkOk_by (N := ["table", "cells", "ready", "cell", "places", "near", "loser", "place", "land"]) (sc := defScope st_ready_takings) (by decide +kernel)) hg ht he) (ei_sq rfl (eo_v 5 (pv 5))) (by decide) (fun H0 F0 io s1 H1 C1 cl1 fp1 => (eg_n 8 (pg_name (i := 8) sc_ready_takings.nd rfl (Or.inl rfl)))) (fun H0 F0 io s1 H1 C1 cl1 fp1 => (ets_one (et_cmp (op_neD (hu64 hr)) l2_ne (eo_v 8 (pv 8)) (eo_v 6 (pv 6)) (nomark _)))) (fun H0 F0 io s1 H1 C1 cl1 fp1 => (eo_tup (ea_cons (eo_v 8 (pv 8)) (ea_cons (eo_v 3 (pv 3)) ea_nil)))))) ess_nil) ess_nil) ess_nil)))) (ess_cons (es_ret (eo_fr (ef_bn (fun h => pe_callB (cr_sortD (hu64 hr)) (by rfl) B.n_sorted (by decide +kernel) h) lf_sorted (ea_cons (eo_b 2 (pv 2)) ea_nil)))) ess_nil)))
abbrev st_steps_by__ready_takings : Stmt := topS 45
theorem sc_steps_by__ready_takings : FnScope ["chart", "choices", "table", "steps", "layer", "ahead", "cells", "taking", "behind"] ["chart", "choices"] (defScope st_steps_by__ready_takings) := ⟨rfl, rfl, rfl, by decide +kernel, rfl, by decide +kernel, by decide +kernel⟩
theorem ok_steps_by__ready_takings {f : Addr} {fd : FuncData} (D : Dk K mg "steps_by" st_steps_by__ready_takings ["chart", "choices"] f fd) (B : Bt mg) {f_touch_table : Addr} {fd_touch_table : FuncData} (D_touch_table : Dk K mg "touch_table" st_touch_table ["chart"] f_touch_table fd_touch_table) (G_touch_table : FnOk P w K mg base CX0 3 f_touch_table fd_touch_table ["chart"] (spP K T p_touch_table)) {f_ready_takings : Addr} {fd_ready_takings : FuncData} (D_ready_takings : Dk K mg "ready_takings" st_ready_takings ["table", "cells"] f_ready_takings fd_ready_takings) (G_ready_takings : FnOk P w K mg base CX0 2 f_ready_takings fd_ready_takings ["table", "cells"] (spP K T p_ready_takings)) {f_made : Addr} {fd_made : FuncData} (D_made : Dk K mg "made" st_made ["cells", "taking"] f_made fd_made) (G_made : FnOk P w K mg base CX0 1 f_made fd_made ["cells", "taking"] (spP K T p_made)) : FnOk P w K mg base CX0 4 f fd ["chart", "choices"] (spF K T [f_ready_takings] p_steps_by__ready_takings) :=
  fn_pureF (fs := [f_ready_takings]) D.fn sc_steps_by__ready_takings g_steps_by__ready_takings (by decide) fun cdv A outer s H E H0 F0 io hr => (ess_cons (es_asg (fun h hg => ps_asg h hg) (eo_call (fun h => pe_call G_touch_table (hr.mono (by decide)) (by rfl) D_touch_table.mg D_touch_table.fn.kp D_touch_table.b .nil pass0 h) (ea_cons (eo_v 0 (pv 0)) ea_nil) fun _ => .nil) (eg_n 2 (pg_name (i := 2) sc_steps_by__ready_takings.nd rfl (Or.inl rfl)))) (ess_cons (es_new1 3 rfl (hu20 hr) (fun h => ps_set (i := 3) sc_steps_by__ready_takings.nd rfl (Or.inl rfl) h) (fun H0 F0 io => (eo_ix ix_seq l2_ix (eo_v 0 (pv 0)) eo_int (fun _ _ => rfl))) (fun H0 F0 io => eo_int)) (ess_cons (es_asg (fun h hg => ps_asg h hg) (eo_fr (ef_lst (ea_cons (eo_ix ix_seq l2_ix (eo_v 0 (pv 0)) eo_int (fun _ _ => rfl)) ea_nil))) (eg_n 4 (pg_name (i := 4) sc_steps_by__ready_takings.nd rfl (Or.inl rfl)))) (ess_cons (es_while (n := 1000000) (fun ht hb => ps_while PassesOwn.never ht hb) (et_tr (eo_v 4 (pv 4))) (ess_cons (es_own 5 (fun h => ps_set (i := 5) sc_steps_by__ready_takings.nd rfl (Or.inl rfl) h) (ef_lst ea_nil)) (ess_cons (es_for (fun wi hg hb => ps_for PassesOwn.never rfl wi hg hb) (ei_sq rfl (eo_v 4 (pv 4))) (eg_n 6 (pg_name (i := 6) sc_steps_by__ready_takings.nd rfl (Or.inl rfl))) (ess_cons (es_for (fun wi hg hb => ps_for PassesOwn.never rfl wi hg hb) (ei_sq rfl (eo_callV 1 0 (r := f_ready_takings) rfl (fun h => pe_callL G_ready_takings (hr.mono (by decide)) (by rfl) (by first | exact Or.inl rfl | exact Or.inr (Or.inl rfl) | exact Or.inr (Or.inr rfl)) D_ready_takings.fn.kp D_ready_takings.b .nil pass0 h) (ea_cons (eo_v 2 (pv 2)) (ea_cons (eo_v 6 (pv 6)) ea_nil)))) (eg_n 7 (pg_name (i := 7) sc_steps_by__ready_takings.nd rfl (Or.inl rfl))) (ess_cons (es_asg (fun h hg => ps_asg h hg) (eo_call (fun h => pe_call G_made (hr.mono (by decide)) (by rfl) D_made.mg D_made.fn.kp D_made.b .nil pass0 h) (ea_cons (eo_v 6 (pv 6)) (ea_cons (eo_v 7 (pv 7)) ea_nil)) fun _ => .nil) (eg_n 8 (pg_name (i := 8) sc_steps_by__ready_takings.nd rfl (Or.inl rfl)))) (ess_cons (es_if (et_cmp (op_notInK (hu20 hr)) l2_notInK (eo_v 8 (pv 8)) (eo_b 3 (pv 3)) (by with_unfolding_all rfl)) (ess_cons (es_setK 3 rfl (fun h hi => ps_asg h (pg_sub (pv 3) hi (pset_dct (hu20 hr)))) (eo_op op_add3 l2_add3 (eo_ix (ix_dct (hu20 hr)) l2_ixK (eo_b 3 (pv 3)) (eo_v 6 (pv 6)) (fun _ _ => rfl)) eo_int) (eo_v 8 (pv 8))) (ess_cons (es_app 5 rfl (fun h => ps_expr (pe_bm PySem.F.plainAttrs_list PySem.F.slot_list_append PySem.F.type_list_append mt_append (pv 5) (pa_cons h pa_nil))) (eo_v 8 (pv 8))) ess_nil)) ess_nil) ess_nil))) ess_nil)) (ess_cons (es_asg (fun h hg => ps_asg h hg) (eo_v 5 (pv 5)) (eg_n 4 (pg_name (i := 4) sc_steps_by__ready_takings.nd rfl (Or.inl rfl)))) ess_nil)))) (ess_cons (es_ret (eo_v 3 (pv 3))) ess_nil)))))
abbrev st_steps_from : Stmt := topS 44
theorem sc_steps_from : FnScope ["chart"] ["chart"] (defScope st_steps_from) := ⟨rfl, rfl, rfl, by decide +kernel, rfl, by decide +kernel, by decide +kernel⟩
theorem ok_steps_from {f : Addr} {fd : FuncData} (D : Dk K mg "steps_from" st_steps_from ["chart"] f fd) (B : Bt mg) {f_ready_takings : Addr} {fd_ready_takings : FuncData} (D_ready_takings : Dk K mg "ready_takings" st_ready_takings ["table", "cells"] f_ready_takings fd_ready_takings) (G_ready_takings : FnOk P w K mg base CX0 2 f_ready_takings fd_ready_takings ["table", "cells"] (spP K T p_ready_takings)) {f_steps_by__ready_takings : Addr} {fd_steps_by__ready_takings : FuncData} (D_steps_by__ready_takings : Dk K mg "steps_by" st_steps_by__ready_takings ["chart", "choices"] f_steps_by__ready_takings fd_steps_by__ready_takings) (G_steps_by__ready_takings : FnOk P w K mg base CX0 4 f_steps_by__ready_takings fd_steps_by__ready_takings ["chart", "choices"] (spF K T [f_ready_takings] p_steps_by__ready_takings)) : FnOk P w K mg base CX0 5 f fd ["chart"] (spP K T p_steps_from) :=
  fn_pure D.fn sc_steps_from g_steps_from (by decide) fun cdv A outer s H E H0 F0 io hr => (ess_cons (es_ret (eo_callF1 (r := f_ready_takings) (fun h => pe_call G_steps_by__ready_takings (hr.mono (by decide)) (by rfl) D_steps_by__ready_takings.mg D_steps_by__ready_takings.fn.kp D_steps_by__ready_takings.b .nil pass0 h) (eo_v 0 (pv 0)) (pe_glob (v := .ref f_ready_takings) (by rfl) D_ready_takings.mg rfl (by decide)))) ess_nil)
abbrev st_distance : Stmt := topS 47
theorem sc_distance : FnScope ["one", "other"] ["one", "other"] (defScope st_distance) := ⟨rfl, rfl, rfl, by decide +kernel, rfl, by decide +kernel, by decide +kernel⟩
theorem ok_distance {f : Addr} {fd : FuncData} (D : Dk K mg "distance" st_distance ["one", "other"] f fd) (B : Bt mg) {f_check_both : Addr} {fd_check_both : FuncData} (D_check_both : Dk K mg "check_both" st_check_both ["one", "other"] f_check_both fd_check_both) (G_check_both : FnOk P w K mg base CX0 7 f_check_both fd_check_both ["one", "other"] (spP K T p_check_both)) {f_steps_from : Addr} {fd_steps_from : FuncData} (D_steps_from : Dk K mg "steps_from" st_steps_from ["chart"] f_steps_from fd_steps_from) (G_steps_from : FnOk P w K mg base CX0 5 f_steps_from fd_steps_from ["chart"] (spP K T p_steps_from)) : FnOk P w K mg base CX0 8 f fd ["one", "other"] (spP K T p_distance) :=
  fn_pure D.fn sc_distance g_distance (by decide) fun cdv A outer s H E H0 F0 io hr => (ess_cons (es_exp (eo_call (fun h => pe_call G_check_both (hr.mono (by decide)) (by rfl) D_check_both.mg D_check_both.fn.kp D_check_both.b .nil pass0 h) (ea_cons (eo_v 0 (pv 0)) (ea_cons (eo_v 1 (pv 1)) ea_nil)) fun _ => .nil)) (ess_cons (es_ret (eo_get1 rfl (fun h h1 => pe_km PySem.F.slot_dict_get PySem.F.type_dict_get (mt_getK (hu20 hr)) h (pa_cons h1 pa_nil)) (eo_call (fun h => pe_call G_steps_from (hr.mono (by decide)) (by rfl) D_steps_from.mg D_steps_from.fn.kp D_steps_from.b .nil pass0 h) (ea_cons (eo_v 0 (pv 0)) ea_nil) fun _ => .nil) (eo_ix ix_seq l2_ix (eo_v 1 (pv 1)) eo_int (fun _ _ => rfl)))) ess_nil))
abbrev st_nearing : Stmt := topS 49
theorem sc_nearing : FnScope ["table", "steps", "cells", "nearer", "taking"] ["table", "steps", "cells"] (defScope st_nearing) := ⟨rfl, rfl, rfl, by decide +kernel, rfl, by decide +kernel, by decide +kernel⟩
theorem ok_nearing {f : Addr} {fd : FuncData} (D : Dk K mg "nearing" st_nearing ["table", "steps", "cells"] f fd) (B : Bt mg) {f_ready_takings : Addr} {fd_ready_takings : FuncData} (D_ready_takings : Dk K mg "ready_takings" st_ready_takings ["table", "cells"] f_ready_takings fd_ready_takings) (G_ready_takings : FnOk P w K mg base CX0 2 f_ready_takings fd_ready_takings ["table", "cells"] (spP K T p_ready_takings)) {f_made : Addr} {fd_made : FuncData} (D_made : Dk K mg "made" st_made ["cells", "taking"] f_made fd_made) (G_made : FnOk P w K mg base CX0 1 f_made fd_made ["cells", "taking"] (spP K T p_made)) : FnOk P w K mg base CX0 3 f fd ["table", "steps", "cells"] (spP K T p_nearing) :=
  fn_pure D.fn sc_nearing g_nearing (by decide) fun cdv A outer s H E H0 F0 io hr => (ess_cons (es_lc frS (i := 3) (own := [("taking", 4)]) (fun wi hg ht he => ps_setLc (i := 3) (own := [("taking", 4)]) rfl sc_nearing.nd rfl rfl (sw_true rfl rfl rfl (by decide +kernel)) wi (blkOk_by (N := ["table", "steps", "cells", "nearer", "taking"]) (sc := defScope st_nearing) (by decide +kernel)) hg ht he) (ei_sq rfl (eo_call (fun h => pe_call G_ready_takings (hr.mono (by decide)) (by rfl) D_ready_takings.mg D_ready_takings.fn.kp D_ready_takings.b .nil pass0 h) (ea_cons (eo_v 0 (pv 0)) (ea_cons (eo_v 2 (pv 2)) ea_nil)) fun _ => .nil)) (by decide) (fun H0 F0 io s1 H1 C1 cl1 fp1 => (eg_n 4 (pg_name (i := 4) sc_nearing.nd rfl (Or.inl rfl)))) (fun H0 F0 io s1 H1 C1 cl1 fp1 => (ets_one (et_cmp op_lt l2_lt (eo_ix (ix_dct (hu20 hr)) l2_ixK (eo_v 1 (pv 1)) (eo_call (fun h => pe_call G_made (hr.mono (by decide)) (by rfl) D_made.mg D_made.fn.kp D_made.b .nil pass0 h) (ea_cons (eo_v 2 (pv 2)) (ea_cons (eo_v 4 (pv 4)) ea_nil)) fun _ => .nil) (fun _ _ => rfl)) (eo_ix (ix_dct (hu20 hr)) l2_ixK (eo_v 1 (pv 1)) (eo_v 2 (pv 2)) (fun _ _ => rfl)) (nomark _)))) (fun H0 F0 io s1 H1 C1 cl1 fp1 => (eo_v 4 (pv 4)))) (ess_cons (es_ret (eo_ix ix_seq l2_ix (eo_v 3 (pv 3)) eo_int (fun _ _ => rfl))) ess_nil))
abbrev st_fewest : Stmt := topS 48
theorem sc_fewest : FnScope ["one", "other", "steps", "table", "cells", "row", "taking"] ["one", "other"] (defScope st_fewest) := ⟨rfl, rfl, rfl, by decide +kernel, rfl, by decide +kernel, by decide +kernel⟩
theorem ok_fewest {f : Addr} {fd : FuncData} (D : Dk K mg "fewest" st_fewest ["one", "other"] f fd) (B : Bt mg) {f_check_both : Addr} {fd_check_both : FuncData} (D_check_both : Dk K mg "check_both" st_check_both ["one", "other"] f_check_both fd_check_both) (G_check_both : FnOk P w K mg base CX0 7 f_check_both fd_check_both ["one", "other"] (spP K T p_check_both)) {f_steps_from : Addr} {fd_steps_from : FuncData} (D_steps_from : Dk K mg "steps_from" st_steps_from ["chart"] f_steps_from fd_steps_from) (G_steps_from : FnOk P w K mg base CX0 5 f_steps_from fd_steps_from ["chart"] (spP K T p_steps_from)) {f_touch_table : Addr} {fd_touch_table : FuncData} (D_touch_table : Dk K mg "touch_table" st_touch_table ["chart"] f_touch_table fd_touch_table) (G_touch_table : FnOk P w K mg base CX0 3 f_touch_table fd_touch_table ["chart"] (spP K T p_touch_table)) {f_nearing : Addr} {fd_nearing : FuncData} (D_nearing : Dk K mg "nearing" st_nearing ["table", "steps", "cells"] f_nearing fd_nearing) (G_nearing : FnOk P w K mg base CX0 3 f_nearing fd_nearing ["table", "steps", "cells"] (spP K T p_nearing)) {f_made : Addr} {fd_made : FuncData} (D_made : Dk K mg "made" st_made ["cells", "taking"] f_made fd_made) (G_made : FnOk P w K mg base CX0 1 f_made fd_made ["cells", "taking"] (spP K T p_made)) : FnOk P w K mg base CX0 8 f fd ["one", "other"] (spP K T p_fewest) :=
  fn_pure D.fn sc_fewest g_fewest (by decide) fun cdv A outer s H E H0 F0 io hr => (ess_cons (es_exp (eo_call (fun h => pe_call G_check_both (hr.mono (by decide)) (by rfl) D_check_both.mg D_check_both.fn.kp D_check_both.b .nil pass0 h) (ea_cons (eo_v 0 (pv 0)) (ea_cons (eo_v 1 (pv 1)) ea_nil)) fun _ => .nil)) (ess_cons (es_asg (fun h hg => ps_asg h hg) (eo_call (fun h => pe_call G_steps_from (hr.mono (by decide)) (by rfl) D_steps_from.mg D_steps_from.fn.kp D_steps_from.b .nil pass0 h) (ea_cons (eo_v 1 (pv 1)) ea_nil) fun _ => .nil) (eg_n 2 (pg_name (i := 2) sc_fewest.nd rfl (Or.inl rfl)))) (ess_cons (es_if (et_cmp (op_notInK (hu20 hr)) l2_notInK (eo_ix ix_seq l2_ix (eo_v 0 (pv 0)) eo_int (fun _ _ => rfl)) (eo_v 2 (pv 2)) (by with_unfolding_all rfl)) (ess_cons (es_ret eo_non) ess_nil) ess_nil) (ess_cons (es_asg (fun h hg => ps_asg h hg) (eo_call (fun h => pe_call G_touch_table (hr.mono (by decide)) (by rfl) D_touch_table.mg D_touch_table.fn.kp D_touch_table.b .nil pass0 h) (ea_cons (eo_v 0 (pv 0)) ea_nil) fun _ => .nil) (eg_n 3 (pg_name (i := 3) sc_fewest.nd rfl (Or.inl rfl)))) (ess_cons (es_asg (fun h hg => ps_asg h hg) (eo_ix ix_seq l2_ix (eo_v 0 (pv 0)) eo_int (fun _ _ => rfl)) (eg_n 4 (pg_name (i := 4) sc_fewest.nd rfl (Or.inl rfl)))) (ess_cons (es_own 5 (fun h => ps_set (i := 5) sc_fewest.nd rfl (Or.inl rfl) h) (ef_lst ea_nil)) (ess_cons (es_while (n := 1000000) (fun ht hb => ps_while PassesOwn.never ht hb) (et_cmp (op_neD (hu64 hr)) l2_ne (eo_v 4 (pv 4)) (eo_ix ix_seq l2_ix (eo_v 1 (pv 1)) eo_int (fun _ _ => rfl)) (nomark _)) (ess_cons (es_asg (fun h hg => ps_asg h hg) (eo_call (fun h => pe_call G_nearing (hr.mono (by decide)) (by rfl) D_nearing.mg D_nearing.fn.kp D_nearing.b .nil pass0 h) (ea_cons (eo_v 3 (pv 3)) (ea_cons (eo_v 2 (pv 2)) (ea_cons (eo_v 4 (pv 4)) ea_nil))) fun _ => .nil) (eg_n 6 (pg_name (i := 6) sc_fewest.nd rfl (Or.inl rfl)))) (ess_cons (es_app 5 rfl (fun h => ps_expr (pe_bm PySem.F.plainAttrs_list PySem.F.slot_list_append PySem.F.type_list_append mt_append (pv 5) (pa_cons h pa_nil))) (eo_v 6 (pv 6))) (ess_cons (es_asg (fun h hg => ps_asg h hg) (eo_call (fun h => pe_call G_made (hr.mono (by decide)) (by rfl) D_made.mg D_made.fn.kp D_made.b .nil pass0 h) (ea_cons (eo_v 4 (pv 4)) (ea_cons (eo_v 6 (pv 6)) ea_nil)) fun _ => .nil) (eg_n 4 (pg_name (i := 4) sc_fewest.nd rfl (Or.inl rfl)))) ess_nil)))) (ess_cons (es_ret (eo_bn (fun h => pe_callTy call_tupF (by rfl) B.n_tuple (by decide +kernel) h) ln_tup (ea_cons (eo_b 5 (pv 5)) ea_nil))) ess_nil))))))))
abbrev st_lands_met : Stmt := topS 27
theorem sc_lands_met : FnScope ["hub", "row", "met", "before", "land"] ["hub", "row"] (defScope st_lands_met) := ⟨rfl, rfl, rfl, by decide +kernel, rfl, by decide +kernel, by decide +kernel⟩
theorem ok_lands_met {f : Addr} {fd : FuncData} (D : Dk K mg "lands_met" st_lands_met ["hub", "row"] f fd) (B : Bt mg) : FnOk P w K mg base CX0 1 f fd ["hub", "row"] (spP K T p_lands_met) :=
  fn_pure D.fn sc_lands_met g_lands_met (by decide) fun cdv A outer s H E H0 F0 io hr => (ess_cons (es_own 2 (fun h => ps_set (i := 2) sc_lands_met.nd rfl (Or.inl rfl) h) (ef_lst ea_nil)) (ess_cons (es_asg (fun h hg => ps_asg h hg) (eo_v 0 (pv 0)) (eg_n 3 (pg_name (i := 3) sc_lands_met.nd rfl (Or.inl rfl)))) (ess_cons (es_for (fun wi hg hb => ps_for PassesOwn.never rfl wi hg hb) (ei_sq rfl (eo_v 1 (pv 1))) (eg_n 4 (pg_name (i := 4) sc_lands_met.nd rfl (Or.inl rfl))) (ess_cons (es_if (et_cmp (op_neD (hu64 hr)) l2_ne (eo_v 4 (pv 4)) (eo_v 3 (pv 3)) (nomark _)) (ess_cons (es_app 2 rfl (fun h => ps_expr (pe_bm PySem.F.plainAttrs_list PySem.F.slot_list_append PySem.F.type_list_append mt_append (pv 2) (pa_cons h pa_nil))) (eo_v 4 (pv 4))) ess_nil) ess_nil) (ess_cons (es_asg (fun h hg => ps_asg h hg) (eo_v 4 (pv 4)) (eg_n 3 (pg_name (i := 3) sc_lands_met.nd rfl (Or.inl rfl)))) ess_nil))) (ess_cons (es_ret (eo_bn (fun h => pe_callTy call_tupF (by rfl) B.n_tuple (by decide +kernel) h) ln_tup (ea_cons (eo_b 2 (pv 2)) ea_nil))) ess_nil))))
abbrev st_arm_rows : Stmt := topS 24
theorem sc_arm_rows : FnScope ["chart", "arms", "cells", "length", "arm"] ["chart"] (defScope st_arm_rows) := ⟨rfl, rfl, rfl, by decide +kernel, rfl, by decide +kernel, by decide +kernel⟩
theorem ok_arm_rows {f : Addr} {fd : FuncData} (D : Dk K mg "arm_rows" st_arm_rows ["chart"] f fd) (B : Bt mg) {f_length_of : Addr} {fd_length_of : FuncData} (D_length_of : Dk K mg "length_of" st_length_of ["chart"] f_length_of fd_length_of) (G_length_of : FnOk P w K mg base CX0 1 f_length_of fd_length_of ["chart"] (spP K T p_length_of)) : FnOk P w K mg base CX0 2 f fd ["chart"] (spP K T p_arm_rows) :=
  fn_pure D.fn sc_arm_rows g_arm_rows (by decide) fun cdv A outer s H E H0 F0 io hr => (ess_cons (es_asg (fun h hg => ps_asg h hg) (eo_v 0 (pv 0)) (eg_t (egs_cons (eg_n 1 (pg_name (i := 1) sc_arm_rows.nd rfl (Or.inl rfl))) (egs_cons (eg_n 2 (pg_name (i := 2) sc_arm_rows.nd rfl (Or.inr rfl))) egs_nil (fun h h1 => pgs_cons h h1)) (fun h h1 => pgs_cons h h1)) (fun h => pg_tup (by rfl) h) rfl)) (ess_cons (es_asg (fun h hg => ps_asg h hg) (eo_call (fun h => pe_call G_length_of (hr.mono (by decide)) (by rfl) D_length_of.mg D_length_of.fn.kp D_length_of.b .nil pass0 h) (ea_cons (eo_v 0 (pv 0)) ea_nil) fun _ => .nil) (eg_n 3 (pg_name (i := 3) sc_arm_rows.nd rfl (Or.inr rfl)))) (ess_cons (es_ret (eo_fr (ef_comp (own := [("arm", 4)]) (fun wi hg ht he => pe_lc (own := [("arm", 4)]) rfl sc_arm_rows.nd wi (blkOk_by (N := ["chart", "arms", "cells", "length", "arm"]) (sc := defScope st_arm_rows) (by decide +kernel)) hg ht he) (ei_rg1 (fun h => pi_range1 (by rfl) B.n_range h) (ea_cons (eo_v 1 (pv 1)) ea_nil)) (by decide) (fun H0 F0 io s1 H1 C1 cl1 fp1 => (eg_n 4 (pg_name (i := 4) sc_arm_rows.nd rfl (Or.inl rfl)))) (fun H0 F0 io s1 H1 C1 cl1 fp1 => ets_nil) (fun H0 F0 io s1 H1 C1 cl1 fp1 => (eo_slice rfl (fun h hl hh => pe_slice sl_D h hl hh) (eo_v 2 (pv 2)) (ep_some (eo_op op_add3 l2_add3 eo_int (eo_op op_mulB l2_mul (eo_v 4 (pv 4)) (eo_v 3 (pv 3))))) (ep_some (eo_op op_add3 l2_add3 eo_int (eo_op op_mulB l2_mul (eo_op op_add3 l2_add3 (eo_v 4 (pv 4)) eo_int) (eo_v 3 (pv 3)))))))))) ess_nil)))
abbrev st_orders : Stmt := topS 26
theorem sc_orders : FnScope ["chart", "row"] ["chart"] (defScope st_orders) := ⟨rfl, rfl, rfl, by decide +kernel, rfl, by decide +kernel, by decide +kernel⟩
theorem ok_orders {f : Addr} {fd : FuncData} (D : Dk K mg "orders" st_orders ["chart"] f fd) (B : Bt mg) {f_check_chart : Addr} {fd_check_chart : FuncData} (D_check_chart : Dk K mg "check_chart" st_check_chart ["chart"] f_check_chart fd_check_chart) (G_check_chart : FnOk P w K mg base CX0 6 f_check_chart fd_check_chart ["chart"] (spP K T p_check_chart)) {f_arm_rows : Addr} {fd_arm_rows : FuncData} (D_arm_rows : Dk K mg "arm_rows" st_arm_rows ["chart"] f_arm_rows fd_arm_rows) (G_arm_rows : FnOk P w K mg base CX0 2 f_arm_rows fd_arm_rows ["chart"] (spP K T p_arm_rows)) {f_lands_met : Addr} {fd_lands_met : FuncData} (D_lands_met : Dk K mg "lands_met" st_lands_met ["hub", "row"] f_lands_met fd_lands_met) (G_lands_met : FnOk P w K mg base CX0 1 f_lands_met fd_lands_met ["hub", "row"] (spP K T p_lands_met)) : FnOk P w K mg base CX0 7 f fd ["chart"] (spP K T p_orders) :=
  fn_pure D.fn sc_orders g_orders (by decide) fun cdv A outer s H E H0 F0 io hr => (ess_cons (es_exp (eo_call (fun h => pe_call G_check_chart (hr.mono (by decide)) (by rfl) D_check_chart.mg D_check_chart.fn.kp D_check_chart.b .nil pass0 h) (ea_cons (eo_v 0 (pv 0)) ea_nil) fun _ => .nil)) (ess_cons (es_ret (eo_bn (fun h => pe_callTy call_tupF (by rfl) B.n_tuple (by decide +kernel) h) ln_tup (ea_cons (eo_fr (ef_comp (own := [("row", 1)]) (fun wi hg ht he => pe_lc (own := [("row", 1)]) rfl sc_orders.nd wi (blkOk_by (N := ["chart", "row"]) (sc := defScope st_orders) (by decide +kernel)) hg ht he) (ei_sq rfl (eo_call (fun h => pe_call G_arm_rows (hr.mono (by decide)) (by rfl) D_arm_rows.mg D_arm_rows.fn.kp D_arm_rows.b .nil pass0 h) (ea_cons (eo_v 0 (pv 0)) ea_nil) fun _ => .nil)) (by decide) (fun H0 F0 io s1 H1 C1 cl1 fp1 => (eg_n 1 (pg_name (i := 1) sc_orders.nd rfl (Or.inl rfl)))) (fun H0 F0 io s1 H1 C1 cl1 fp1 => ets_nil) (fun H0 F0 io s1 H1 C1 cl1 fp1 => (eo_call (fun h => pe_call G_lands_met (hr.mono (by decide)) (by rfl) D_lands_met.mg D_lands_met.fn.kp D_lands_met.b .nil pass0 h) (ea_cons (eo_ix ix_seq l2_ix (eo_ix ix_seq l2_ix (eo_v 0 (pv 0)) eo_int (fun _ _ => rfl)) eo_int (fun _ _ => rfl)) (ea_cons (eo_v 1 (pv 1)) ea_nil)) fun _ => .nil)))) ea_nil))) ess_nil))
abbrev st_lands_on : Stmt := topS 39
theorem sc_lands_on : FnScope ["chart", "order"] ["chart"] (defScope st_lands_on) := ⟨rfl, rfl, rfl, by decide +kernel, rfl, by decide +kernel, by decide +kernel⟩
theorem ok_lands_on {f : Addr} {fd : FuncData} (D : Dk K mg "lands_on" st_lands_on ["chart"] f fd) (B : Bt mg) {f_orders : Addr} {fd_orders : FuncData} (D_orders : Dk K mg "orders" st_orders ["chart"] f_orders fd_orders) (G_orders : FnOk P w K mg base CX0 7 f_orders fd_orders ["chart"] (spP K T p_orders)) : FnOk P w K mg base CX0 8 f fd ["chart"] (spP K T p_lands_on) :=
  fn_pure D.fn sc_lands_on g_lands_on (by decide) fun cdv A outer s H E H0 F0 io hr => (ess_cons (es_ret (eo_bn (fun h => pe_callTy call_tupF (by rfl) B.n_tuple (by decide +kernel) h) ln_tup (ea_cons (eo_fr (ef_comp (own := [("order", 1)]) (fun wi hg ht he => pe_lc (own := [("order", 1)]) rfl sc_lands_on.nd wi (blkOk_by (N := ["chart", "order"]) (sc := defScope st_lands_on) (by decide +kernel)) hg ht he) (ei_sq rfl (eo_call (fun h => pe_call G_orders (hr.mono (by decide)) (by rfl) D_orders.mg D_orders.fn.kp D_orders.b .nil pass0 h) (ea_cons (eo_v 0 (pv 0)) ea_nil) fun _ => .nil)) (by decide) (fun H0 F0 io s1 H1 C1 cl1 fp1 => (eg_n 1 (pg_name (i := 1) sc_lands_on.nd rfl (Or.inl rfl)))) (fun H0 F0 io s1 H1 C1 cl1 fp1 => ets_nil) (fun H0 F0 io s1 H1 C1 cl1 fp1 => (eo_bn (fun h => pe_callB call_len_seq (by rfl) B.n_len PySem.boot_len h) ln_len (ea_cons (eo_v 1 (pv 1)) ea_nil))))) ea_nil))) ess_nil)
abbrev st_bare_arms : Stmt := topS 38
theorem sc_bare_arms : FnScope ["chart"] ["chart"] (defScope st_bare_arms) := ⟨rfl, rfl, rfl, by decide +kernel, rfl, by decide +kernel, by decide +kernel⟩
theorem ok_bare_arms {f : Addr} {fd : FuncData} (D : Dk K mg "bare_arms" st_bare_arms ["chart"] f fd) (B : Bt mg) {f_lands_on : Addr} {fd_lands_on : FuncData} (D_lands_on : Dk K mg "lands_on" st_lands_on ["chart"] f_lands_on fd_lands_on) (G_lands_on : FnOk P w K mg base CX0 8 f_lands_on fd_lands_on ["chart"] (spP K T p_lands_on)) : FnOk P w K mg base CX0 9 f fd ["chart"] (spP K T p_bare_arms) :=
  fn_pure D.fn sc_bare_arms g_bare_arms (by decide) fun cdv A outer s H E H0 F0 io hr => (ess_cons (es_ret (eo_or2 (eo_m1 rfl (fun h h1 => pe_bm PySem.F.plainAttrs_list PySem.F.slot_list_count PySem.F.type_list_count mt_lcount h (pa_cons h1 pa_nil)) l1_count (eo_call (fun h => pe_call G_lands_on (hr.mono (by decide)) (by rfl) D_lands_on.mg D_lands_on.fn.kp D_lands_on.b .nil pass0 h) (ea_cons (eo_v 0 (pv 0)) ea_nil) fun _ => .nil) eo_int) (eo_m1T rfl (fun h h1 => pe_tm PySem.F.slot_tuple_count PySem.F.type_tuple_count mt_tcount h (pa_cons h1 pa_nil)) l1_countT (eo_call (fun h => pe_call G_lands_on (hr.mono (by decide)) (by rfl) D_lands_on.mg D_lands_on.fn.kp D_lands_on.b .nil pass0 h) (ea_cons (eo_v 0 (pv 0)) ea_nil) fun _ => .nil) eo_int))) ess_nil)
abbrev st_is_frozen : Stmt := topS 37
theorem sc_is_frozen : FnScope ["chart"] ["chart"] (defScope st_is_frozen) := ⟨rfl, rfl, rfl, by decide +kernel, rfl, by decide +kernel, by decide +kernel⟩
theorem ok_is_frozen {f : Addr} {fd : FuncData} (D : Dk K mg "is_frozen" st_is_frozen ["chart"] f fd) (B : Bt mg) {f_bare_arms : Addr} {fd_bare_arms : FuncData} (D_bare_arms : Dk K mg "bare_arms" st_bare_arms ["chart"] f_bare_arms fd_bare_arms) (G_bare_arms : FnOk P w K mg base CX0 9 f_bare_arms fd_bare_arms ["chart"] (spP K T p_bare_arms)) : FnOk P w K mg base CX0 10 f fd ["chart"] (spP K T p_is_frozen) :=
  fn_pure D.fn sc_is_frozen g_is_frozen (by decide) fun cdv A outer s H E H0 F0 io hr => (ess_cons (es_ret (eo_cmp op_ge l2_ge (eo_call (fun h => pe_call G_bare_arms (hr.mono (by decide)) (by rfl) D_bare_arms.mg D_bare_arms.fn.kp D_bare_arms.b .nil pass0 h) (ea_cons (eo_v 0 (pv 0)) ea_nil) fun _ => .nil) eo_int (nomark _))) ess_nil)
abbrev st__law_near : Stmt := topS 60
theorem sc__law_near : FnScope ["arms", "length", "cell", "found", "arm", "step", "here", "inner"] ["arms", "length", "cell"] (defScope st__law_near) := ⟨rfl, rfl, rfl, by decide +kernel, rfl, by decide +kernel, by decide +kernel⟩
theorem ok__law_near {f : Addr} {fd : FuncData} (D : Dk K mg "_law_near" st__law_near ["arms", "length", "cell"] f fd) (B : Bt mg) : FnOk P w K mg base CX0 1 f fd ["arms", "length", "cell"] (spP K T p__law_near) :=
  fn_pure D.fn sc__law_near g__law_near (by decide) fun cdv A outer s H E H0 F0 io hr => (ess_cons (es_own 3 (fun h => ps_set (i := 3) sc__law_near.nd rfl (Or.inl rfl) h) (ef_lst ea_nil)) (ess_cons (es_for (fun wi hg hb => ps_for PassesOwn.never rfl wi hg hb) (ei_rg1 (fun h => pi_range1 (by rfl) B.n_range h) (ea_cons (eo_v 0 (pv 0)) ea_nil)) (eg_n 4 (pg_name (i := 4) sc__law_near.nd rfl (Or.inl rfl))) (ess_cons (es_for (fun wi hg hb => ps_for PassesOwn.never rfl wi hg hb) (ei_rg1 (fun h => pi_range1 (by rfl) B.n_range h) (ea_cons (eo_v 1 (pv 1)) ea_nil)) (eg_n 5 (pg_name (i := 5) sc__law_near.nd rfl (Or.inl rfl))) (ess_cons (es_asg (fun h hg => ps_asg h hg) (eo_op op_add3 l2_add3 (eo_op op_add3 l2_add3 eo_int (eo_op op_mulB l2_mul (eo_v 4 (pv 4)) (eo_v 1 (pv 1)))) (eo_v 5 (pv 5))) (eg_n 6 (pg_name (i := 6) sc__law_near.nd rfl (Or.inl rfl)))) (ess_cons (es_asg (fun h hg => ps_asg h hg) (eo_if (et_cmp (op_eqD (hu64 hr)) l2_eq (eo_v 5 (pv 5)) eo_int (nomark _)) eo_int (eo_op op_sub l2_sub (eo_v 6 (pv 6)) eo_int)) (eg_n 7 (pg_name (i := 7) sc__law_near.nd rfl (Or.inl rfl)))) (ess_cons (es_if (et_cmp (op_eqD (hu64 hr)) l2_eq (eo_v 2 (pv 2)) (eo_v 7 (pv 7)) (nomark _)) (ess_cons (es_app 3 rfl (fun h => ps_expr (pe_bm PySem.F.plainAttrs_list PySem.F.slot_list_append PySem.F.type_list_append mt_append (pv 3) (pa_cons h pa_nil))) (eo_v 6 (pv 6))) ess_nil) ess_nil) (ess_cons (es_if (et_cmp (op_eqD (hu64 hr)) l2_eq (eo_v 2 (pv 2)) (eo_v 6 (pv 6)) (nomark _)) (ess_cons (es_app 3 rfl (fun h => ps_expr (pe_bm PySem.F.plainAttrs_list PySem.F.slot_list_append PySem.F.type_list_append mt_append (pv 3) (pa_cons h pa_nil))) (eo_v 7 (pv 7))) ess_nil) ess_nil) ess_nil))))) ess_nil)) (ess_cons (es_ret (eo_fr (ef_bn (fun h => pe_callB (cr_sortD (hu64 hr)) (by rfl) B.n_sorted (by decide +kernel) h) lf_sorted (ea_cons (eo_b 3 (pv 3)) ea_nil)))) ess_nil)))
abbrev st__law_hangs : Stmt := topS 61
theorem sc__law_hangs : FnScope ["arms", "length", "some", "seen", "walk", "more", "cell", "one"] ["arms", "length", "some"] (defScope st__law_hangs) := ⟨rfl, rfl, rfl, by decide +kernel, rfl, by decide +kernel, by decide +kernel⟩
theorem ok__law_hangs {f : Addr} {fd : FuncData} (D : Dk K mg "_law_hangs" st__law_hangs ["arms", "length", "some"] f fd) (B : Bt mg) {f__law_near : Addr} {fd__law_near : FuncData} (D__law_near : Dk K mg "_law_near" st__law_near ["arms", "length", "cell"] f__law_near fd__law_near) (G__law_near : FnOk P w K mg base CX0 1 f__law_near fd__law_near ["arms", "length", "cell"] (spP K T p__law_near)) : FnOk P w K mg base CX0 2 f fd ["arms", "length", "some"] (spP K T p__law_hangs) :=
  fn_pure D.fn sc__law_hangs g__law_hangs (by decide) fun cdv A outer s H E H0 F0 io hr => (ess_cons (es_asg (fun h hg => ps_asg h hg) (eo_tup (ea_cons (eo_slice rfl (fun h hl hh => pe_slice sl_D h hl hh) (eo_v 2 (pv 2)) ep_none (ep_some eo_int)) (ea_cons (eo_slice rfl (fun h hl hh => pe_slice sl_D h hl hh) (eo_v 2 (pv 2)) ep_none (ep_some eo_int)) ea_nil))) (eg_t (egs_cons (eg_n 3 (pg_name (i := 3) sc__law_hangs.nd rfl (Or.inr rfl))) (egs_cons (eg_n 4 (pg_name (i := 4) sc__law_hangs.nd rfl (Or.inl rfl))) egs_nil (fun h h1 => pgs_cons h h1)) (fun h h1 => pgs_cons h h1)) (fun h => pg_tup (by rfl) h) rfl)) (ess_cons (es_while (n := 100000) (fun ht hb => ps_while PassesOwn.never ht hb) (et_cmp (op_neD (hu64 hr)) l2_ne (eo_v 4 (pv 4)) (eo_fr (ef_lst ea_nil)) (nomark _)) (ess_cons (es_asg (fun h hg => ps_asg h hg) (eo_fr (ef_lst ea_nil)) (eg_n 5 (pg_name (i := 5) sc__law_hangs.nd rfl (Or.inr rfl)))) (ess_cons (es_for (fun wi hg hb => ps_for PassesOwn.never rfl wi hg hb) (ei_sq rfl (eo_v 4 (pv 4))) (eg_n 6 (pg_name (i := 6) sc__law_hangs.nd rfl (Or.inl rfl))) (ess_cons (es_asg (fun h hg => ps_asg h hg) (eo_op op_add3 l2_add3 (eo_v 5 (pv 5)) (eo_fr (ef_comp (own := [("one", 7)]) (fun wi hg ht he => pe_lc (own := [("one", 7)]) rfl sc__law_hangs.nd wi (blkOk_by (N := ["arms", "length", "some", "seen", "walk", "more", "cell", "one"]) (sc := defScope st__law_hangs) (by decide +kernel)) hg ht he) (ei_sq rfl (eo_call (fun h => pe_call G__law_near (hr.mono (by decide)) (by rfl) D__law_near.mg D__law_near.fn.kp D__law_near.b .nil pass0 h) (ea_cons (eo_v 0 (pv 0)) (ea_cons (eo_v 1 (pv 1)) (ea_cons (eo_v 6 (pv 6)) ea_nil))) fun _ => .nil)) (by decide) (fun H0 F0 io s1 H1 C1 cl1 fp1 => (eg_n 7 (pg_name (i := 7) sc__law_hangs.nd rfl (Or.inl rfl)))) (fun H0 F0 io s1 H1 C1 cl1 fp1 => (ets_one (et_w (ew_and (et_cmp (op_inA (hu65 hr)) l2_in (eo_v 7 (pv 7)) (eo_v 2 (pv 2)) (by with_unfolding_all rfl)) (ew_and (et_cmp (op_notInA (hu65 hr)) l2_notIn (eo_v 7 (pv 7)) (eo_v 3 (pv 3)) (by with_unfolding_all rfl)) (ew_and1 (et_cmp (op_notInA (hu65 hr)) l2_notIn (eo_v 7 (pv 7)) (eo_v 5 (pv 5)) (by with_unfolding_all rfl)))))))) (fun H0 F0 io s1 H1 C1 cl1 fp1 => (eo_v 7 (pv 7)))))) (eg_n 5 (pg_name (i := 5) sc__law_hangs.nd rfl (Or.inr rfl)))) ess_nil)) (ess_cons (es_asg (fun h hg => ps_asg h hg) (eo_tup (ea_cons (eo_op op_add3 l2_add3 (eo_v 3 (pv 3)) (eo_v 5 (pv 5))) (ea_cons (eo_v 5 (pv 5)) ea_nil))) (eg_t (egs_cons (eg_n 3 (pg_name (i := 3) sc__law_hangs.nd rfl (Or.inr rfl))) (egs_cons (eg_n 4 (pg_name (i := 4) sc__law_hangs.nd rfl (Or.inl rfl))) egs_nil (fun h h1 => pgs_cons h h1)) (fun h h1 => pgs_cons h h1)) (fun h => pg_tup (by rfl) h) rfl)) ess_nil)))) (ess_cons (es_ret (eo_and (eo_cmp (op_neD (hu64 hr)) l2_ne (eo_v 2 (pv 2)) (eo_fr (ef_lst ea_nil)) (nomark _)) (eo_one (eo_cmp (op_eqD (hu64 hr)) l2_eq (eo_bn (fun h => pe_callB call_len_seq (by rfl) B.n_len PySem.boot_len h) ln_len (ea_cons (eo_v 3 (pv 3)) ea_nil)) (eo_bn (fun h => pe_callB call_len_seq (by rfl) B.n_len PySem.boot_len h) ln_len (ea_cons (eo_v 2 (pv 2)) ea_nil)) (nomark _))))) ess_nil)))
abbrev st__law_takings : Stmt := topS 63
theorem sc__law_takings : FnScope ["chart", "arms", "cells", "length", "found", "land", "cell", "other", "rest", "one"] ["chart"] (defScope st__law_takings) := ⟨rfl, rfl, rfl, by decide +kernel, rfl, by decide +kernel, by decide +kernel⟩
theorem ok__law_takings {f : Addr} {fd : FuncData} (D : Dk K mg "_law_takings" st__law_takings ["chart"] f fd) (B : Bt mg) {f__law_near : Addr} {fd__law_near : FuncData} (D__law_near : Dk K mg "_law_near" st__law_near ["arms", "length", "cell"] f__law_near fd__law_near) (G__law_near : FnOk P w K mg base CX0 1 f__law_near fd__law_near ["arms", "length", "cell"] (spP K T p__law_near)) {f__law_hangs : Addr} {fd__law_hangs : FuncData} (D__law_hangs : Dk K mg "_law_hangs" st__law_hangs ["arms", "length", "some"] f__law_hangs fd__law_hangs) (G__law_hangs : FnOk P w K mg base CX0 2 f__law_hangs fd__law_hangs ["arms", "length", "some"] (spP K T p__law_hangs)) : FnOk P w K mg base CX0 3 f fd ["chart"] (spP K T p__law_takings) :=
  fn_pure D.fn sc__law_takings g__law_takings (by decide) fun cdv A outer s H E H0 F0 io hr => (ess_cons (es_asg (fun h hg => ps_asg h hg) (eo_v 0 (pv 0)) (eg_t (egs_cons (eg_n 1 (pg_name (i := 1) sc__law_takings.nd rfl (Or.inl rfl))) (egs_cons (eg_n 2 (pg_name (i := 2) sc__law_takings.nd rfl (Or.inr rfl))) egs_nil (fun h h1 => pgs_cons h h1)) (fun h h1 => pgs_cons h h1)) (fun h => pg_tup (by rfl) h) rfl)) (ess_cons (es_parQ (fun h h1 => ps_par (by rfl) sc__law_takings.nd rfl rfl (by decide) rfl rfl (pa_cons h (pa_cons h1 pa_nil)) (by rfl)) (eo_op op_fdivB l2_div (eo_op op_sub l2_sub (eo_bn (fun h => pe_callB call_len_seq (by rfl) B.n_len PySem.boot_len h) ln_len (ea_cons (eo_v 2 (pv 2)) ea_nil)) eo_int) (eo_v 1 (pv 1))) (ef_lst ea_nil)) (ess_cons (es_for (fun wi hg hb => ps_for PassesOwn.never rfl wi hg hb) (ei_rg1 (fun h => pi_range1 (by rfl) B.n_range h) (ea_cons (eo_op op_add3 l2_add3 (eo_bn (fun h => pe_callB (cr_maxA (by rfl) (hu64 hr)) (by rfl) B.n_max (by decide +kernel) h) ln_max (ea_cons (eo_v 2 (pv 2)) ea_nil)) eo_int) ea_nil)) (eg_n 5 (pg_name (i := 5) sc__law_takings.nd rfl (Or.inr rfl))) (ess_cons (es_for (fun wi hg hb => ps_for PassesOwn.never rfl wi hg hb) (ei_rg1 (fun h => pi_range1 (by rfl) B.n_range h) (ea_cons (eo_bn (fun h => pe_callB call_len_seq (by rfl) B.n_len PySem.boot_len h) ln_len (ea_cons (eo_v 2 (pv 2)) ea_nil)) ea_nil)) (eg_n 6 (pg_name (i := 6) sc__law_takings.nd rfl (Or.inr rfl))) (ess_cons (es_asg (fun h hg => ps_asg h hg) (eo_ix ix_seq l2_ix (eo_v 2 (pv 2)) (eo_v 6 (pv 6)) (fun _ _ => rfl)) (eg_n 7 (pg_name (i := 7) sc__law_takings.nd rfl (Or.inr rfl)))) (ess_cons (es_if (et_w (ew_and (et_cmp (op_neD (hu64 hr)) l2_ne (eo_v 7 (pv 7)) (eo_v 5 (pv 5)) (nomark _)) (ew_and1 (et_cmp (op_neD (hu64 hr)) l2_ne (eo_fr (ef_comp (own := [("one", 9)]) (fun wi hg ht he => pe_lc (own := [("one", 9)]) rfl sc__law_takings.nd wi (blkOk_by (N := ["chart", "arms", "cells", "length", "found", "land", "cell", "other", "rest", "one"]) (sc := defScope st__law_takings) (by decide +kernel)) hg ht he) (ei_sq rfl (eo_call (fun h => pe_call G__law_near (hr.mono (by decide)) (by rfl) D__law_near.mg D__law_near.fn.kp D__law_near.b .nil pass0 h) (ea_cons (eo_v 1 (pv 1)) (ea_cons (eo_v 3 (pv 3)) (ea_cons (eo_v 6 (pv 6)) ea_nil))) fun _ => .nil)) (by decide) (fun H0 F0 io s1 H1 C1 cl1 fp1 => (eg_n 9 (pg_name (i := 9) sc__law_takings.nd rfl (Or.inl rfl)))) (fun H0 F0 io s1 H1 C1 cl1 fp1 => (ets_one (et_cmp (op_eqD (hu64 hr)) l2_eq (eo_ix ix_seq l2_ix (eo_v 2 (pv 2)) (eo_v 9 (pv 9)) (fun _ _ => rfl)) (eo_v 5 (pv 5)) (nomark _)))) (fun H0 F0 io s1 H1 C1 cl1 fp1 => (eo_v 9 (pv 9))))) (eo_fr (ef_lst ea_nil)) (nomark _))))) (ess_cons (es_lc frS (i := 8) (own := [("one", 9)]) (fun wi hg ht he => ps_setLc (i := 8) (own := [("one", 9)]) rfl sc__law_takings.nd rfl rfl (sw_true rfl rfl rfl (by decide +kernel)) wi (blkOk_by (N := ["chart", "arms", "cells", "length", "found", "land", "cell", "other", "rest", "one"]) (sc := defScope st__law_takings) (by decide +kernel)) hg ht he) (ei_rg1 (fun h => pi_range1 (by rfl) B.n_range h) (ea_cons (eo_bn (fun h => pe_callB call_len_seq (by rfl) B.n_len PySem.boot_len h) ln_len (ea_cons (eo_v 2 (pv 2)) ea_nil)) ea_nil)) (by decide) (fun H0 F0 io s1 H1 C1 cl1 fp1 => (eg_n 9 (pg_name (i := 9) sc__law_takings.nd rfl (Or.inl rfl)))) (fun H0 F0 io s1 H1 C1 cl1 fp1 => (ets_one (et_w (ew_and (et_cmp (op_eqD (hu64 hr)) l2_eq (eo_ix ix_seq l2_ix (eo_v 2 (pv 2)) (eo_v 9 (pv 9)) (fun _ _ => rfl)) (eo_v 7 (pv 7)) (nomark _)) (ew_and1 (et_cmp (op_neD (hu64 hr)) l2_ne (eo_v 9 (pv 9)) (eo_v 6 (pv 6)) (nomark _))))))) (fun H0 F0 io s1 H1 C1 cl1 fp1 => (eo_v 9 (pv 9)))) (ess_cons (es_if (et_w (ew_and (et_cmp (op_neD (hu64 hr)) l2_ne (eo_v 8 (pv 8)) (eo_fr (ef_lst ea_nil)) (nomark _)) (ew_and1 (et_tr (eo_call (fun h => pe_call G__law_hangs (hr.mono (by decide)) (by rfl) D__law_hangs.mg D__law_hangs.fn.kp D__law_hangs.b .nil pass0 h) (ea_cons (eo_v 1 (pv 1)) (ea_cons (eo_v 3 (pv 3)) (ea_cons (eo_v 8 (pv 8)) ea_nil))) fun _ => .nil))))) (ess_cons (es_app 4 rfl (fun h => ps_expr (pe_bm PySem.F.plainAttrs_list PySem.F.slot_list_append PySem.F.type_list_append mt_append (pv 4) (pa_cons h pa_nil))) (eo_tup (ea_cons (eo_v 5 (pv 5)) (ea_cons (eo_v 6 (pv 6)) ea_nil)))) ess_nil) ess_nil) ess_nil)) ess_nil) ess_nil))) ess_nil)) (ess_cons (es_ret (eo_v 4 (pv 4))) ess_nil))))
abbrev st__law_behind : Stmt := topS 64
theorem sc__law_behind : FnScope ["chart", "taking", "land", "cell"] ["chart", "taking"] (defScope st__law_behind) := ⟨rfl, rfl, rfl, by decide +kernel, rfl, by decide +kernel, by decide +kernel⟩
theorem ok__law_behind {f : Addr} {fd : FuncData} (D : Dk K mg "_law_behind" st__law_behind ["chart", "taking"] f fd) (B : Bt mg) : FnOk P w K mg base CX0 1 f fd ["chart", "taking"] (spP K T p__law_behind) :=
  fn_pure D.fn sc__law_behind g__law_behind (by decide) fun cdv A outer s H E H0 F0 io hr => (ess_cons (es_asg (fun h hg => ps_asg h hg) (eo_v 1 (pv 1)) (eg_t (egs_cons (eg_n 2 (pg_name (i := 2) sc__law_behind.nd rfl (Or.inl rfl))) (egs_cons (eg_n 3 (pg_name (i := 3) sc__law_behind.nd rfl (Or.inl rfl))) egs_nil (fun h h1 => pgs_cons h h1)) (fun h h1 => pgs_cons h h1)) (fun h => pg_tup (by rfl) h) rfl)) (ess_cons (es_ret (eo_tup (ea_cons (eo_ix ix_seq l2_ix (eo_v 0 (pv 0)) eo_int (fun _ _ => rfl)) (ea_cons (eo_op op_add3 l2_add3 (eo_op op_add3 l2_add3 (eo_slice rfl (fun h hl hh => pe_slice sl_D h hl hh) (eo_ix ix_seq l2_ix (eo_v 0 (pv 0)) eo_int (fun _ _ => rfl)) ep_none (ep_some (eo_v 3 (pv 3)))) (eo_tup (ea_cons (eo_v 2 (pv 2)) ea_nil))) (eo_slice rfl (fun h hl hh => pe_slice sl_D h hl hh) (eo_ix ix_seq l2_ix (eo_v 0 (pv 0)) eo_int (fun _ _ => rfl)) (ep_some (eo_op op_add3 l2_add3 (eo_v 3 (pv 3)) eo_int)) ep_none)) ea_nil)))) ess_nil))
abbrev st__law_walk : Stmt := topS 66
theorem sc__law_walk : FnScope ["row", "chart", "many", "steps", "turn", "some"] ["row", "chart", "many"] (defScope st__law_walk) := ⟨rfl, rfl, rfl, by decide +kernel, rfl, by decide +kernel, by decide +kernel⟩
theorem ok__law_walk {f : Addr} {fd : FuncData} (D : Dk K mg "_law_walk" st__law_walk ["row", "chart", "many"] f fd) (B : Bt mg) {f__law_takings : Addr} {fd__law_takings : FuncData} (D__law_takings : Dk K mg "_law_takings" st__law_takings ["chart"] f__law_takings fd__law_takings) (G__law_takings : FnOk P w K mg base CX0 3 f__law_takings fd__law_takings ["chart"] (spP K T p__law_takings)) {f__law_pick : Addr} {fd__law_pick : FuncData} (D__law_pick : Dk K mg "_law_pick" st__law_pick ["row", "things"] f__law_pick fd__law_pick) (G__law_pick : FnOk P w K mg base CX0 2 f__law_pick fd__law_pick ["row", "things"] (spI K T p__law_pick)) {f__law_behind : Addr} {fd__law_behind : FuncData} (D__law_behind : Dk K mg "_law_behind" st__law_behind ["chart", "taking"] f__law_behind fd__law_behind) (G__law_behind : FnOk P w K mg base CX0 1 f__law_behind fd__law_behind ["chart", "taking"] (spP K T p__law_behind)) : FnOk P w K mg base CX0 4 f fd ["row", "chart", "many"] (spI K T p__law_walk) :=
  fn_io D.fn sc__law_walk g__law_walk (by decide) fun cdv A outer s H E H0 F0 io hr => (ess_cons (es_own 3 (fun h => ps_set (i := 3) sc__law_walk.nd rfl (Or.inl rfl) h) (ef_lst ea_nil)) (ess_cons (es_for (fun wi hg hb => ps_for PassesOwn.never rfl wi hg hb) (ei_rg1 (fun h => pi_range1 (by rfl) B.n_range h) (ea_cons (eo_v 2 (pv 2)) ea_nil)) (eg_n 4 (pg_name (i := 4) sc__law_walk.nd rfl (Or.inl rfl))) (ess_cons (es_asg (fun h hg => ps_asg h hg) (eo_call (fun h => pe_call G__law_takings (hr.mono (by decide)) (by rfl) D__law_takings.mg D__law_takings.fn.kp D__law_takings.b .nil pass0 h) (ea_cons (eo_v 1 (pv 1)) ea_nil) fun _ => .nil) (eg_n 5 (pg_name (i := 5) sc__law_walk.nd rfl (Or.inl rfl)))) (ess_cons (es_if (et_cmp (op_neD (hu64 hr)) l2_ne (eo_v 5 (pv 5)) (eo_fr (ef_lst ea_nil)) (nomark _)) (ess_cons (es_app 3 rfl (fun h => ps_expr (pe_bm PySem.F.plainAttrs_list PySem.F.slot_list_append PySem.F.type_list_append mt_append (pv 3) (pa_cons h pa_nil))) (eo_callI (fun h => pe_call G__law_pick (hr.mono (by decide)) (by rfl) D__law_pick.mg D__law_pick.fn.kp D__law_pick.b .nil pass0 h) (ea_cons (eo_b 0 (pv 0)) (ea_cons (eo_v 5 (pv 5)) ea_nil)))) (ess_cons (es_asg (fun h hg => ps_asg h hg) (eo_call (fun h => pe_call G__law_behind (hr.mono (by decide)) (by rfl) D__law_behind.mg D__law_behind.fn.kp D__law_behind.b .nil pass0 h) (ea_cons (eo_v 1 (pv 1)) (ea_cons (eo_ix ix_seq l2_ix (eo_b 3 (pv 3)) (eo_neg 1) (fun _ _ => rfl)) ea_nil)) fun _ => .nil) (eg_n 1 (pg_name (i := 1) sc__law_walk.nd rfl (Or.inl rfl)))) ess_nil)) ess_nil) ess_nil))) (ess_cons (es_ret (eo_tup (ea_cons (eo_bn (fun h => pe_callTy call_tupF (by rfl) B.n_tuple (by decide +kernel) h) ln_tup (ea_cons (eo_b 3 (pv 3)) ea_nil)) (ea_cons (eo_v 1 (pv 1)) ea_nil)))) ess_nil)))
abbrev st_farthest : Stmt := topS 51
theorem sc_farthest : FnScope ["chart"] ["chart"] (defScope st_farthest) := ⟨rfl, rfl, rfl, by decide +kernel, rfl, by decide +kernel, by decide +kernel⟩
theorem ok_farthest {f : Addr} {fd : FuncData} (D : Dk K mg "farthest" st_farthest ["chart"] f fd) (B : Bt mg) {f_check_chart : Addr} {fd_check_chart : FuncData} (D_check_chart : Dk K mg "check_chart" st_check_chart ["chart"] f_check_chart fd_check_chart) (G_check_chart : FnOk P w K mg base CX0 6 f_check_chart fd_check_chart ["chart"] (spP K T p_check_chart)) {f_steps_from : Addr} {fd_steps_from : FuncData} (D_steps_from : Dk K mg "steps_from" st_steps_from ["chart"] f_steps_from fd_steps_from) (G_steps_from : FnOk P w K mg base CX0 5 f_steps_from fd_steps_from ["chart"] (spP K T p_steps_from)) : FnOk P w K mg base CX0 7 f fd ["chart"] (spP K T p_farthest) :=
  fn_pure D.fn sc_farthest g_farthest (by decide) fun cdv A outer s H E H0 F0 io hr => (ess_cons (es_exp (eo_call (fun h => pe_call G_check_chart (hr.mono (by decide)) (by rfl) D_check_chart.mg D_check_chart.fn.kp D_check_chart.b .nil pass0 h) (ea_cons (eo_v 0 (pv 0)) ea_nil) fun _ => .nil)) (ess_cons (es_ret (eo_maxV rfl (fun h => pe_maxV rfl (by rfl) B.n_max h) (eo_call (fun h => pe_call G_steps_from (hr.mono (by decide)) (by rfl) D_steps_from.mg D_steps_from.fn.kp D_steps_from.b .nil pass0 h) (ea_cons (eo_v 0 (pv 0)) ea_nil) fun _ => .nil))) ess_nil))
abbrev st_own_lands : Stmt := topS 40
theorem sc_own_lands : FnScope ["chart", "row"] ["chart"] (defScope st_own_lands) := ⟨rfl, rfl, rfl, by decide +kernel, rfl, by decide +kernel, by decide +kernel⟩
theorem ok_own_lands {f : Addr} {fd : FuncData} (D : Dk K mg "own_lands" st_own_lands ["chart"] f fd) (B : Bt mg) {f_check_chart : Addr} {fd_check_chart : FuncData} (D_check_chart : Dk K mg "check_chart" st_check_chart ["chart"] f_check_chart fd_check_chart) (G_check_chart : FnOk P w K mg base CX0 6 f_check_chart fd_check_chart ["chart"] (spP K T p_check_chart)) {f_is_frozen : Addr} {fd_is_frozen : FuncData} (D_is_frozen : Dk K mg "is_frozen" st_is_frozen ["chart"] f_is_frozen fd_is_frozen) (G_is_frozen : FnOk P w K mg base CX0 10 f_is_frozen fd_is_frozen ["chart"] (spP K T p_is_frozen)) {f_arm_rows : Addr} {fd_arm_rows : FuncData} (D_arm_rows : Dk K mg "arm_rows" st_arm_rows ["chart"] f_arm_rows fd_arm_rows) (G_arm_rows : FnOk P w K mg base CX0 2 f_arm_rows fd_arm_rows ["chart"] (spP K T p_arm_rows)) : FnOk P w K mg base CX0 11 f fd ["chart"] (spP K T p_own_lands) :=
  fn_pure D.fn sc_own_lands g_own_lands (by decide) fun cdv A outer s H E H0 F0 io hr => (ess_cons (es_exp (eo_call (fun h => pe_call G_check_chart (hr.mono (by decide)) (by rfl) D_check_chart.mg D_check_chart.fn.kp D_check_chart.b .nil pass0 h) (ea_cons (eo_v 0 (pv 0)) ea_nil) fun _ => .nil)) (ess_cons (es_if (et_tr (eo_call (fun h => pe_call G_is_frozen (hr.mono (by decide)) (by rfl) D_is_frozen.mg D_is_frozen.fn.kp D_is_frozen.b .nil pass0 h) (ea_cons (eo_v 0 (pv 0)) ea_nil) fun _ => .nil)) (ess_cons (es_ret eo_non) ess_nil) ess_nil) (ess_cons (es_ret (eo_bn (fun h => pe_callTy call_tupF (by rfl) B.n_tuple (by decide +kernel) h) ln_tup (ea_cons (eo_fr (ef_comp (own := [("row", 1)]) (fun wi hg ht he => pe_lc (own := [("row", 1)]) rfl sc_own_lands.nd wi (blkOk_by (N := ["chart", "row"]) (sc := defScope st_own_lands) (by decide +kernel)) hg ht he) (ei_sq rfl (eo_call (fun h => pe_call G_arm_rows (hr.mono (by decide)) (by rfl) D_arm_rows.mg D_arm_rows.fn.kp D_arm_rows.b .nil pass0 h) (ea_cons (eo_v 0 (pv 0)) ea_nil) fun _ => .nil)) (by decide) (fun H0 F0 io s1 H1 C1 cl1 fp1 => (eg_n 1 (pg_name (i := 1) sc_own_lands.nd rfl (Or.inl rfl)))) (fun H0 F0 io s1 H1 C1 cl1 fp1 => ets_nil) (fun H0 F0 io s1 H1 C1 cl1 fp1 => (eo_ix ix_seq l2_ix (eo_v 1 (pv 1)) (eo_neg 1) (fun _ _ => rfl))))) ea_nil))) ess_nil)))
abbrev st_same_class : Stmt := topS 42
theorem sc_same_class : FnScope ["one", "other"] ["one", "other"] (defScope st_same_class) := ⟨rfl, rfl, rfl, by decide +kernel, rfl, by decide +kernel, by decide +kernel⟩
theorem ok_same_class {f : Addr} {fd : FuncData} (D : Dk K mg "same_class" st_same_class ["one", "other"] f fd) (B : Bt mg) {f_check_chart : Addr} {fd_check_chart : FuncData} (D_check_chart : Dk K mg "check_chart" st_check_chart ["chart"] f_check_chart fd_check_chart) (G_check_chart : FnOk P w K mg base CX0 6 f_check_chart fd_check_chart ["chart"] (spP K T p_check_chart)) {f_is_like : Addr} {fd_is_like : FuncData} (D_is_like : Dk K mg "is_like" st_is_like ["one", "other"] f_is_like fd_is_like) (G_is_like : FnOk P w K mg base CX0 1 f_is_like fd_is_like ["one", "other"] (spP K T p_is_like)) {f_is_frozen : Addr} {fd_is_frozen : FuncData} (D_is_frozen : Dk K mg "is_frozen" st_is_frozen ["chart"] f_is_frozen fd_is_frozen) (G_is_frozen : FnOk P w K mg base CX0 10 f_is_frozen fd_is_frozen ["chart"] (spP K T p_is_frozen)) {f_orders : Addr} {fd_orders : FuncData} (D_orders : Dk K mg "orders" st_orders ["chart"] f_orders fd_orders) (G_orders : FnOk P w K mg base CX0 7 f_orders fd_orders ["chart"] (spP K T p_orders)) {f_own_lands : Addr} {fd_own_lands : FuncData} (D_own_lands : Dk K mg "own_lands" st_own_lands ["chart"] f_own_lands fd_own_lands) (G_own_lands : FnOk P w K mg base CX0 11 f_own_lands fd_own_lands ["chart"] (spP K T p_own_lands)) : FnOk P w K mg base CX0 12 f fd ["one", "other"] (spP K T p_same_class) :=
  fn_pure D.fn sc_same_class g_same_class (by decide) fun cdv A outer s H E H0 F0 io hr => (ess_cons (es_exp (eo_call (fun h => pe_call G_check_chart (hr.mono (by decide)) (by rfl) D_check_chart.mg D_check_chart.fn.kp D_check_chart.b .nil pass0 h) (ea_cons (eo_v 0 (pv 0)) ea_nil) fun _ => .nil)) (ess_cons (es_exp (eo_call (fun h => pe_call G_check_chart (hr.mono (by decide)) (by rfl) D_check_chart.mg D_check_chart.fn.kp D_check_chart.b .nil pass0 h) (ea_cons (eo_v 1 (pv 1)) ea_nil) fun _ => .nil)) (ess_cons (es_if (et_not (et_tr (eo_call (fun h => pe_call G_is_like (hr.mono (by decide)) (by rfl) D_is_like.mg D_is_like.fn.kp D_is_like.b .nil pass0 h) (ea_cons (eo_v 0 (pv 0)) (ea_cons (eo_v 1 (pv 1)) ea_nil)) fun _ => .nil))) (ess_cons (es_ret eo_bl) ess_nil) ess_nil) (ess_cons (es_if (et_tr (eo_call (fun h => pe_call G_is_frozen (hr.mono (by decide)) (by rfl) D_is_frozen.mg D_is_frozen.fn.kp D_is_frozen.b .nil pass0 h) (ea_cons (eo_v 0 (pv 0)) ea_nil) fun _ => .nil)) (ess_cons (es_ret (eo_and (eo_cmp (op_eqD (hu64 hr)) l2_eq (eo_ix ix_seq l2_ix (eo_ix ix_seq l2_ix (eo_v 0 (pv 0)) eo_int (fun _ _ => rfl)) eo_int (fun _ _ => rfl)) (eo_ix ix_seq l2_ix (eo_ix ix_seq l2_ix (eo_v 1 (pv 1)) eo_int (fun _ _ => rfl)) eo_int (fun _ _ => rfl)) (nomark _)) (eo_one (eo_cmp (op_eqD (hu64 hr)) l2_eq (eo_call (fun h => pe_call G_orders (hr.mono (by decide)) (by rfl) D_orders.mg D_orders.fn.kp D_orders.b .nil pass0 h) (ea_cons (eo_v 0 (pv 0)) ea_nil) fun _ => .nil) (eo_call (fun h => pe_call G_orders (hr.mono (by decide)) (by rfl) D_orders.mg D_orders.fn.kp D_orders.b .nil pass0 h) (ea_cons (eo_v 1 (pv 1)) ea_nil) fun _ => .nil) (nomark _))))) ess_nil) ess_nil) (ess_cons (es_ret (eo_cmp (op_eqD (hu64 hr)) l2_eq (eo_call (fun h => pe_call G_own_lands (hr.mono (by decide)) (by rfl) D_own_lands.mg D_own_lands.fn.kp D_own_lands.b .nil pass0 h) (ea_cons (eo_v 0 (pv 0)) ea_nil) fun _ => .nil) (eo_call (fun h => pe_call G_own_lands (hr.mono (by decide)) (by rfl) D_own_lands.mg D_own_lands.fn.kp D_own_lands.b .nil pass0 h) (ea_cons (eo_v 1 (pv 1)) ea_nil) fun _ => .nil) (nomark _))) ess_nil)))))
abbrev st_check_one_class : Stmt := topS 43
theorem sc_check_one_class : FnScope ["one", "other"] ["one", "other"] (defScope st_check_one_class) := ⟨rfl, rfl, rfl, by decide +kernel, rfl, by decide +kernel, by decide +kernel⟩
theorem ok_check_one_class {f : Addr} {fd : FuncData} (D : Dk K mg "check_one_class" st_check_one_class ["one", "other"] f fd) (B : Bt mg) {f_same_class : Addr} {fd_same_class : FuncData} (D_same_class : Dk K mg "same_class" st_same_class ["one", "other"] f_same_class fd_same_class) (G_same_class : FnOk P w K mg base CX0 12 f_same_class fd_same_class ["one", "other"] (spP K T p_same_class)) : FnOk P w K mg base CX0 13 f fd ["one", "other"] (spP K T p_check_one_class) :=
  fn_pure D.fn sc_check_one_class g_check_one_class (by decide) fun cdv A outer s H E H0 F0 io hr => (ess_cons (es_if (et_not (et_tr (eo_call (fun h => pe_call G_same_class (hr.mono (by decide)) (by rfl) D_same_class.mg D_same_class.fn.kp D_same_class.b .nil pass0 h) (ea_cons (eo_v 0 (pv 0)) (ea_cons (eo_v 1 (pv 1)) ea_nil)) fun _ => .nil))) (ess_cons es_never ess_nil) ess_nil) ess_nil)
abbrev st_places_on : Stmt := topS 54
theorem sc_places_on : FnScope ["hub", "row", "before", "place", "land"] ["hub", "row"] (defScope st_places_on) := ⟨rfl, rfl, rfl, by decide +kernel, rfl, by decide +kernel, by decide +kernel⟩
theorem ok_places_on {f : Addr} {fd : FuncData} (D : Dk K mg "places_on" st_places_on ["hub", "row"] f fd) (B : Bt mg) : FnOk P w K mg base CX0 1 f fd ["hub", "row"] (spP K T p_places_on) :=
  fn_pure D.fn sc_places_on g_places_on (by decide) fun cdv A outer s H E H0 F0 io hr => (ess_cons (es_asg (fun h hg => ps_asg h hg) (eo_op op_add3 l2_add3 (eo_tup (ea_cons (eo_v 0 (pv 0)) ea_nil)) (eo_v 1 (pv 1))) (eg_n 2 (pg_name (i := 2) sc_places_on.nd rfl (Or.inr rfl)))) (ess_cons (es_ret (eo_bn (fun h => pe_callTy call_tupF (by rfl) B.n_tuple (by decide +kernel) h) ln_tup (ea_cons (eo_fr (ef_comp (own := [("place", 3), ("land", 4)]) (fun wi hg ht he => pe_lc (own := [("place", 3), ("land", 4)]) rfl sc_places_on.nd wi (blkOk_by (N := ["hub", "row", "before", "place", "land"]) (sc := defScope st_places_on) (by decide +kernel)) hg ht he) (ei_enum rfl (fun h => ENT.pi_enumL (by rfl) B.n_enumerate h) (fun h => ENT.pi_enumT (by rfl) B.n_enumerate h) (ea_cons (eo_v 1 (pv 1)) ea_nil)) (by decide) (fun H0 F0 io s1 H1 C1 cl1 fp1 => (eg_t (egs_cons (eg_n 3 (pg_name (i := 3) sc_places_on.nd rfl (Or.inl rfl))) (egs_cons (eg_n 4 (pg_name (i := 4) sc_places_on.nd rfl (Or.inl rfl))) egs_nil (fun h h1 => pgs_cons h h1)) (fun h h1 => pgs_cons h h1)) (fun h => pg_tup (by rfl) h) rfl)) (fun H0 F0 io s1 H1 C1 cl1 fp1 => (ets_one (et_cmp (op_neD (hu64 hr)) l2_ne (eo_v 4 (pv 4)) (eo_ix ix_seq l2_ix (eo_v 2 (pv 2)) (eo_v 3 (pv 3)) (fun _ _ => rfl)) (nomark _)))) (fun H0 F0 io s1 H1 C1 cl1 fp1 => (eo_v 3 (pv 3))))) ea_nil))) ess_nil))
abbrev st_border_places : Stmt := topS 53
theorem sc_border_places : FnScope ["chart", "row"] ["chart"] (defScope st_border_places) := ⟨rfl, rfl, rfl, by decide +kernel, rfl, by decide +kernel, by decide +kernel⟩
theorem ok_border_places {f : Addr} {fd : FuncData} (D : Dk K mg "border_places" st_border_places ["chart"] f fd) (B : Bt mg) {f_check_chart : Addr} {fd_check_chart : FuncData} (D_check_chart : Dk K mg "check_chart" st_check_chart ["chart"] f_check_chart fd_check_chart) (G_check_chart : FnOk P w K mg base CX0 6 f_check_chart fd_check_chart ["chart"] (spP K T p_check_chart)) {f_arm_rows : Addr} {fd_arm_rows : FuncData} (D_arm_rows : Dk K mg "arm_rows" st_arm_rows ["chart"] f_arm_rows fd_arm_rows) (G_arm_rows : FnOk P w K mg base CX0 2 f_arm_rows fd_arm_rows ["chart"] (spP K T p_arm_rows)) {f_places_on : Addr} {fd_places_on : FuncData} (D_places_on : Dk K mg "places_on" st_places_on ["hub", "row"] f_places_on fd_places_on) (G_places_on : FnOk P w K mg base CX0 1 f_places_on fd_places_on ["hub", "row"] (spP K T p_places_on)) : FnOk P w K mg base CX0 7 f fd ["chart"] (spP K T p_border_places) :=
  fn_pure D.fn sc_border_places g_border_places (by decide) fun cdv A outer s H E H0 F0 io hr => (ess_cons (es_exp (eo_call (fun h => pe_call G_check_chart (hr.mono (by decide)) (by rfl) D_check_chart.mg D_check_chart.fn.kp D_check_chart.b .nil pass0 h) (ea_cons (eo_v 0 (pv 0)) ea_nil) fun _ => .nil)) (ess_cons (es_ret (eo_bn (fun h => pe_callTy call_tupF (by rfl) B.n_tuple (by decide +kernel) h) ln_tup (ea_cons (eo_fr (ef_comp (own := [("row", 1)]) (fun wi hg ht he => pe_lc (own := [("row", 1)]) rfl sc_border_places.nd wi (blkOk_by (N := ["chart", "row"]) (sc := defScope st_border_places) (by decide +kernel)) hg ht he) (ei_sq rfl (eo_call (fun h => pe_call G_arm_rows (hr.mono (by decide)) (by rfl) D_arm_rows.mg D_arm_rows.fn.kp D_arm_rows.b .nil pass0 h) (ea_cons (eo_v 0 (pv 0)) ea_nil) fun _ => .nil)) (by decide) (fun H0 F0 io s1 H1 C1 cl1 fp1 => (eg_n 1 (pg_name (i := 1) sc_border_places.nd rfl (Or.inl rfl)))) (fun H0 F0 io s1 H1 C1 cl1 fp1 => ets_nil) (fun H0 F0 io s1 H1 C1 cl1 fp1 => (eo_call (fun h => pe_call G_places_on (hr.mono (by decide)) (by rfl) D_places_on.mg D_places_on.fn.kp D_places_on.b .nil pass0 h) (ea_cons (eo_ix ix_seq l2_ix (eo_ix ix_seq l2_ix (eo_v 0 (pv 0)) eo_int (fun _ _ => rfl)) eo_int (fun _ _ => rfl)) (ea_cons (eo_v 1 (pv 1)) ea_nil)) fun _ => .nil)))) ea_nil))) ess_nil))
abbrev st_frozen_distance : Stmt := topS 55
theorem sc_frozen_distance : FnScope ["one", "other", "moves", "here", "there", "start", "goal"] ["one", "other"] (defScope st_frozen_distance) := ⟨rfl, rfl, rfl, by decide +kernel, rfl, by decide +kernel, by decide +kernel⟩
theorem ok_frozen_distance {f : Addr} {fd : FuncData} (D : Dk K mg "frozen_distance" st_frozen_distance ["one", "other"] f fd) (B : Bt mg) {f_is_frozen : Addr} {fd_is_frozen : FuncData} (D_is_frozen : Dk K mg "is_frozen" st_is_frozen ["chart"] f_is_frozen fd_is_frozen) (G_is_frozen : FnOk P w K mg base CX0 10 f_is_frozen fd_is_frozen ["chart"] (spP K T p_is_frozen)) {f_check_one_class : Addr} {fd_check_one_class : FuncData} (D_check_one_class : Dk K mg "check_one_class" st_check_one_class ["one", "other"] f_check_one_class fd_check_one_class) (G_check_one_class : FnOk P w K mg base CX0 13 f_check_one_class fd_check_one_class ["one", "other"] (spP K T p_check_one_class)) {f_border_places : Addr} {fd_border_places : FuncData} (D_border_places : Dk K mg "border_places" st_border_places ["chart"] f_border_places fd_border_places) (G_border_places : FnOk P w K mg base CX0 7 f_border_places fd_border_places ["chart"] (spP K T p_border_places)) : FnOk P w K mg base CX0 14 f fd ["one", "other"] (spP K T p_frozen_distance) :=
  fn_pure D.fn sc_frozen_distance g_frozen_distance (by decide) fun cdv A outer s H E H0 F0 io hr => (ess_cons (es_if (et_not (et_tr (eo_call (fun h => pe_call G_is_frozen (hr.mono (by decide)) (by rfl) D_is_frozen.mg D_is_frozen.fn.kp D_is_frozen.b .nil pass0 h) (ea_cons (eo_v 0 (pv 0)) ea_nil) fun _ => .nil))) (ess_cons es_never ess_nil) ess_nil) (ess_cons (es_exp (eo_call (fun h => pe_call G_check_one_class (hr.mono (by decide)) (by rfl) D_check_one_class.mg D_check_one_class.fn.kp D_check_one_class.b .nil pass0 h) (ea_cons (eo_v 0 (pv 0)) (ea_cons (eo_v 1 (pv 1)) ea_nil)) fun _ => .nil)) (ess_cons (es_own 2 (fun h => ps_set (i := 2) sc_frozen_distance.nd rfl (Or.inl rfl) h) (ef_lst ea_nil)) (ess_cons (es_for (fun wi hg hb => ps_for PassesOwn.never rfl wi hg hb) (ei_zip rfl (fun h => ZIP.pi_zip (by rfl) B.n_zip h) (ea_cons (eo_call (fun h => pe_call G_border_places (hr.mono (by decide)) (by rfl) D_border_places.mg D_border_places.fn.kp D_border_places.b .nil pass0 h) (ea_cons (eo_v 0 (pv 0)) ea_nil) fun _ => .nil) (ea_cons (eo_call (fun h => pe_call G_border_places (hr.mono (by decide)) (by rfl) D_border_places.mg D_border_places.fn.kp D_border_places.b .nil pass0 h) (ea_cons (eo_v 1 (pv 1)) ea_nil) fun _ => .nil) ea_nil))) (eg_t (egs_cons (eg_n 3 (pg_name (i := 3) sc_frozen_distance.nd rfl (Or.inl rfl))) (egs_cons (eg_n 4 (pg_name (i := 4) sc_frozen_distance.nd rfl (Or.inl rfl))) egs_nil (fun h h1 => pgs_cons h h1)) (fun h h1 => pgs_cons h h1)) (fun h => pg_tup (by rfl) h) rfl) (ess_cons (es_ext 2 (fun h => ps_expr (pe_bm PySem.F.plainAttrs_list PySem.F.slot_list_extend PySem.F.type_list_extend mt_extend (pv 2) (pa_cons h pa_nil))) (ef_comp (own := [("start", 5), ("goal", 6)]) (fun wi hg ht he => pe_lc (own := [("start", 5), ("goal", 6)]) rfl sc_frozen_distance.nd wi (blkOk_by (N := ["one", "other", "moves", "here", "there", "start", "goal"]) (sc := defScope st_frozen_distance) (by decide +kernel)) hg ht he) (ei_zip rfl (fun h => ZIP.pi_zip (by rfl) B.n_zip h) (ea_cons (eo_v 3 (pv 3)) (ea_cons (eo_v 4 (pv 4)) ea_nil))) (by decide) (fun H0 F0 io s1 H1 C1 cl1 fp1 => (eg_t (egs_cons (eg_n 5 (pg_name (i := 5) sc_frozen_distance.nd rfl (Or.inl rfl))) (egs_cons (eg_n 6 (pg_name (i := 6) sc_frozen_distance.nd rfl (Or.inl rfl))) egs_nil (fun h h1 => pgs_cons h h1)) (fun h h1 => pgs_cons h h1)) (fun h => pg_tup (by rfl) h) rfl)) (fun H0 F0 io s1 H1 C1 cl1 fp1 => ets_nil) (fun H0 F0 io s1 H1 C1 cl1 fp1 => (eo_bn (fun h => pe_callB call_abs (by rfl) B.n_abs (by decide +kernel) h) ln_abs (ea_cons (eo_op op_sub l2_sub (eo_v 5 (pv 5)) (eo_v 6 (pv 6))) ea_nil))))) ess_nil)) (ess_cons (es_ret (eo_bn (fun h => pe_callB (cr_sum (by rfl)) (by rfl) B.n_sum (by decide +kernel) h) ln_sum (ea_cons (eo_b 2 (pv 2)) ea_nil))) ess_nil)))))
abbrev st_is_land : Stmt := topS 17
theorem sc_is_land : FnScope ["chart", "value"] ["chart", "value"] (defScope st_is_land) := ⟨rfl, rfl, rfl, by decide +kernel, rfl, by decide +kernel, by decide +kernel⟩
theorem ok_is_land {f : Addr} {fd : FuncData} (D : Dk K mg "is_land" st_is_land ["chart", "value"] f fd) (B : Bt mg) {f_is_integer : Addr} {fd_is_integer : FuncData} (D_is_integer : Dk K mg "is_integer" st_is_integer ["value", "low", "high"] f_is_integer fd_is_integer) (G_is_integer : FnOk P w K mg base CX0 2 f_is_integer fd_is_integer ["value", "low", "high"] (spP K T p_is_integer)) : FnOk P w K mg base CX0 3 f fd ["chart", "value"] (spP K T p_is_land) :=
  fn_pure D.fn sc_is_land g_is_land (by decide) fun cdv A outer s H E H0 F0 io hr => (ess_cons (es_ret (eo_call (fun h => pe_call G_is_integer (hr.mono (by decide)) (by rfl) D_is_integer.mg D_is_integer.fn.kp D_is_integer.b .nil pass0 h) (ea_cons (eo_v 1 (pv 1)) (ea_cons eo_int (ea_cons (eo_bn (fun h => pe_callB (cr_maxA (by rfl) (hu64 hr)) (by rfl) B.n_max (by decide +kernel) h) ln_max (ea_cons (eo_ix ix_seq l2_ix (eo_v 0 (pv 0)) eo_int (fun _ _ => rfl)) ea_nil)) ea_nil))) fun _ => .nil)) ess_nil)
abbrev st_is_taking : Stmt := topS 18
theorem sc_is_taking : FnScope ["chart", "value"] ["chart", "value"] (defScope st_is_taking) := ⟨rfl, rfl, rfl, by decide +kernel, rfl, by decide +kernel, by decide +kernel⟩
theorem ok_is_taking {f : Addr} {fd : FuncData} (D : Dk K mg "is_taking" st_is_taking ["chart", "value"] f fd) (B : Bt mg) {f_is_pair : Addr} {fd_is_pair : FuncData} (D_is_pair : Dk K mg "is_pair" st_is_pair ["value"] f_is_pair fd_is_pair) (G_is_pair : FnOk P w K mg base CX0 1 f_is_pair fd_is_pair ["value"] (spP K T p_is_pair)) {f_is_land : Addr} {fd_is_land : FuncData} (D_is_land : Dk K mg "is_land" st_is_land ["chart", "value"] f_is_land fd_is_land) (G_is_land : FnOk P w K mg base CX0 3 f_is_land fd_is_land ["chart", "value"] (spP K T p_is_land)) {f_is_integer : Addr} {fd_is_integer : FuncData} (D_is_integer : Dk K mg "is_integer" st_is_integer ["value", "low", "high"] f_is_integer fd_is_integer) (G_is_integer : FnOk P w K mg base CX0 2 f_is_integer fd_is_integer ["value", "low", "high"] (spP K T p_is_integer)) : FnOk P w K mg base CX0 4 f fd ["chart", "value"] (spP K T p_is_taking) :=
  fn_pure D.fn sc_is_taking g_is_taking (by decide) fun cdv A outer s H E H0 F0 io hr => (ess_cons (es_ret (eo_and (eo_call (fun h => pe_call G_is_pair (hr.mono (by decide)) (by rfl) D_is_pair.mg D_is_pair.fn.kp D_is_pair.b .nil pass0 h) (ea_cons (eo_v 1 (pv 1)) ea_nil) fun _ => .nil) (eo_and (eo_call (fun h => pe_call G_is_land (hr.mono (by decide)) (by rfl) D_is_land.mg D_is_land.fn.kp D_is_land.b .nil pass0 h) (ea_cons (eo_v 0 (pv 0)) (ea_cons (eo_ix ix_seq l2_ix (eo_v 1 (pv 1)) eo_int (fun _ _ => rfl)) ea_nil)) fun _ => .nil) (eo_one (eo_call (fun h => pe_call G_is_integer (hr.mono (by decide)) (by rfl) D_is_integer.mg D_is_integer.fn.kp D_is_integer.b .nil pass0 h) (ea_cons (eo_ix ix_seq l2_ix (eo_v 1 (pv 1)) eo_int (fun _ _ => rfl)) (ea_cons eo_int (ea_cons (eo_op op_sub l2_sub (eo_bn (fun h => pe_callB call_len_seq (by rfl) B.n_len PySem.boot_len h) ln_len (ea_cons (eo_ix ix_seq l2_ix (eo_v 0 (pv 0)) eo_int (fun _ _ => rfl)) ea_nil)) eo_int) ea_nil))) fun _ => .nil))))) ess_nil)
abbrev st_can_make : Stmt := topS 29
theorem sc_can_make : FnScope ["table", "cells", "taking", "land", "cell", "loser", "near", "place"] ["table", "cells", "taking"] (defScope st_can_make) := ⟨rfl, rfl, rfl, by decide +kernel, rfl, by decide +kernel, by decide +kernel⟩
theorem ok_can_make {f : Addr} {fd : FuncData} (D : Dk K mg "can_make" st_can_make ["table", "cells", "taking"] f fd) (B : Bt mg) {f_can_lose : Addr} {fd_can_lose : FuncData} (D_can_lose : Dk K mg "can_lose" st_can_lose ["loser", "near"] f_can_lose fd_can_lose) (G_can_lose : FnOk P w K mg base CX0 1 f_can_lose fd_can_lose ["loser", "near"] (spP K T p_can_lose)) : FnOk P w K mg base CX0 2 f fd ["table", "cells", "taking"] (spP K T p_can_make) :=
  fn_pure D.fn sc_can_make g_can_make (by decide) fun cdv A outer s H E H0 F0 io hr => (ess_cons (es_asg (fun h hg => ps_asg h hg) (eo_v 2 (pv 2)) (eg_t (egs_cons (eg_n 3 (pg_name (i := 3) sc_can_make.nd rfl (Or.inl rfl))) (egs_cons (eg_n 4 (pg_name (i := 4) sc_can_make.nd rfl (Or.inl rfl))) egs_nil (fun h h1 => pgs_cons h h1)) (fun h h1 => pgs_cons h h1)) (fun h => pg_tup (by rfl) h) rfl)) (ess_cons (es_asg (fun h hg => ps_asg h hg) (eo_ix ix_seq l2_ix (eo_v 1 (pv 1)) (eo_v 4 (pv 4)) (fun _ _ => rfl)) (eg_n 5 (pg_name (i := 5) sc_can_make.nd rfl (Or.inl rfl)))) (ess_cons (es_lc frS (i := 6) (own := [("place", 7)]) (fun wi hg ht he => ps_setLc (i := 6) (own := [("place", 7)]) rfl sc_can_make.nd rfl rfl (sw_true rfl rfl rfl (by decide +kernel)) wi (blkOk_by (N := ["table", "cells", "taking", "land", "cell", "loser", "near", "place"]) (sc := defScope st_can_make) (by decide +kernel)) hg ht he) (ei_sq rfl (eo_ix ix_seq l2_ix (eo_v 0 (pv 0)) (eo_v 4 (pv 4)) (fun _ _ => rfl))) (by decide) (fun H0 F0 io s1 H1 C1 cl1 fp1 => (eg_n 7 (pg_name (i := 7) sc_can_make.nd rfl (Or.inl rfl)))) (fun H0 F0 io s1 H1 C1 cl1 fp1 => ets_nil) (fun H0 F0 io s1 H1 C1 cl1 fp1 => (eo_ix ix_seq l2_ix (eo_v 1 (pv 1)) (eo_v 7 (pv 7)) (fun _ _ => rfl)))) (ess_cons (es_ret (eo_and (eo_cmp (op_neD (hu64 hr)) l2_ne (eo_v 3 (pv 3)) (eo_v 5 (pv 5)) (nomark _)) (eo_and (eo_cmp (op_inA (hu65 hr)) l2_in (eo_v 3 (pv 3)) (eo_v 6 (pv 6)) (by with_unfolding_all rfl)) (eo_one (eo_call (fun h => pe_call G_can_lose (hr.mono (by decide)) (by rfl) D_can_lose.mg D_can_lose.fn.kp D_can_lose.b .nil pass0 h) (ea_cons (eo_v 5 (pv 5)) (ea_cons (eo_v 6 (pv 6)) ea_nil)) fun _ => .nil))))) ess_nil))))
abbrev st_walked : Stmt := topS 34
theorem sc_walked : FnScope ["chart", "row", "table", "steps", "taking"] ["chart", "row"] (defScope st_walked) := ⟨rfl, rfl, rfl, by decide +kernel, rfl, by decide +kernel, by decide +kernel⟩
theorem ok_walked {f : Addr} {fd : FuncData} (D : Dk K mg "walked" st_walked ["chart", "row"] f fd) (B : Bt mg) {f_touch_table : Addr} {fd_touch_table : FuncData} (D_touch_table : Dk K mg "touch_table" st_touch_table ["chart"] f_touch_table fd_touch_table) (G_touch_table : FnOk P w K mg base CX0 3 f_touch_table fd_touch_table ["chart"] (spP K T p_touch_table)) {f_is_taking : Addr} {fd_is_taking : FuncData} (D_is_taking : Dk K mg "is_taking" st_is_taking ["chart", "value"] f_is_taking fd_is_taking) (G_is_taking : FnOk P w K mg base CX0 4 f_is_taking fd_is_taking ["chart", "value"] (spP K T p_is_taking)) {f_can_make : Addr} {fd_can_make : FuncData} (D_can_make : Dk K mg "can_make" st_can_make ["table", "cells", "taking"] f_can_make fd_can_make) (G_can_make : FnOk P w K mg base CX0 2 f_can_make fd_can_make ["table", "cells", "taking"] (spP K T p_can_make)) {f_made : Addr} {fd_made : FuncData} (D_made : Dk K mg "made" st_made ["cells", "taking"] f_made fd_made) (G_made : FnOk P w K mg base CX0 1 f_made fd_made ["cells", "taking"] (spP K T p_made)) : FnOk P w K mg base CX0 5 f fd ["chart", "row"] (spP K T p_walked) :=
  fn_pure D.fn sc_walked g_walked (by decide) fun cdv A outer s H E H0 F0 io hr => (ess_cons (es_asg (fun h hg => ps_asg h hg) (eo_call (fun h => pe_call G_touch_table (hr.mono (by decide)) (by rfl) D_touch_table.mg D_touch_table.fn.kp D_touch_table.b .nil pass0 h) (ea_cons (eo_v 0 (pv 0)) ea_nil) fun _ => .nil) (eg_n 2 (pg_name (i := 2) sc_walked.nd rfl (Or.inl rfl)))) (ess_cons (es_own 3 (fun h => ps_set (i := 3) sc_walked.nd rfl (Or.inl rfl) h) (ef_lst (ea_cons (eo_ix ix_seq l2_ix (eo_v 0 (pv 0)) eo_int (fun _ _ => rfl)) ea_nil))) (ess_cons (es_for (fun wi hg hb => ps_for PassesOwn.never rfl wi hg hb) (ei_sq rfl (eo_v 1 (pv 1))) (eg_n 4 (pg_name (i := 4) sc_walked.nd rfl (Or.inl rfl))) (ess_cons (es_if (et_w (ew_or (et_not (et_tr (eo_call (fun h => pe_call G_is_taking (hr.mono (by decide)) (by rfl) D_is_taking.mg D_is_taking.fn.kp D_is_taking.b .nil pass0 h) (ea_cons (eo_v 0 (pv 0)) (ea_cons (eo_v 4 (pv 4)) ea_nil)) fun _ => .nil))) (ew_or1 (et_not (et_tr (eo_call (fun h => pe_call G_can_make (hr.mono (by decide)) (by rfl) D_can_make.mg D_can_make.fn.kp D_can_make.b .nil pass0 h) (ea_cons (eo_v 2 (pv 2)) (ea_cons (eo_ix ix_seq l2_ix (eo_b 3 (pv 3)) (eo_neg 1) (fun _ _ => rfl)) (ea_cons (eo_v 4 (pv 4)) ea_nil))) fun _ => .nil)))))) (ess_cons es_break ess_nil) ess_nil) (ess_cons (es_app 3 rfl (fun h => ps_expr (pe_bm PySem.F.plainAttrs_list PySem.F.slot_list_append PySem.F.type_list_append mt_append (pv 3) (pa_cons h pa_nil))) (eo_call (fun h => pe_call G_made (hr.mono (by decide)) (by rfl) D_made.mg D_made.fn.kp D_made.b .nil pass0 h) (ea_cons (eo_ix ix_seq l2_ix (eo_b 3 (pv 3)) (eo_neg 1) (fun _ _ => rfl)) (ea_cons (eo_v 4 (pv 4)) ea_nil)) fun _ => .nil)) ess_nil))) (ess_cons (es_ret (eo_v 3 (pv 3))) ess_nil))))
abbrev st_leads_to : Stmt := topS 35
theorem sc_leads_to : FnScope ["one", "other", "row", "steps"] ["one", "other", "row"] (defScope st_leads_to) := ⟨rfl, rfl, rfl, by decide +kernel, rfl, by decide +kernel, by decide +kernel⟩
theorem ok_leads_to {f : Addr} {fd : FuncData} (D : Dk K mg "leads_to" st_leads_to ["one", "other", "row"] f fd) (B : Bt mg) {f_walked : Addr} {fd_walked : FuncData} (D_walked : Dk K mg "walked" st_walked ["chart", "row"] f_walked fd_walked) (G_walked : FnOk P w K mg base CX0 5 f_walked fd_walked ["chart", "row"] (spP K T p_walked)) : FnOk P w K mg base CX0 6 f fd ["one", "other", "row"] (spP K T p_leads_to) :=
  fn_pure D.fn sc_leads_to g_leads_to (by decide) fun cdv A outer s H E H0 F0 io hr => (ess_cons (es_asg (fun h hg => ps_asg h hg) (eo_call (fun h => pe_call G_walked (hr.mono (by decide)) (by rfl) D_walked.mg D_walked.fn.kp D_walked.b .nil pass0 h) (ea_cons (eo_v 0 (pv 0)) (ea_cons (eo_v 2 (pv 2)) ea_nil)) fun _ => .nil) (eg_n 3 (pg_name (i := 3) sc_leads_to.nd rfl (Or.inl rfl)))) (ess_cons (es_ret (eo_and (eo_cmp (op_eqD (hu64 hr)) l2_eq (eo_bn (fun h => pe_callB call_len_seq (by rfl) B.n_len PySem.boot_len h) ln_len (ea_cons (eo_v 3 (pv 3)) ea_nil)) (eo_op op_add3 l2_add3 (eo_bn (fun h => pe_callB call_len_seq (by rfl) B.n_len PySem.boot_len h) ln_len (ea_cons (eo_v 2 (pv 2)) ea_nil)) eo_int) (nomark _)) (eo_one (eo_cmp (op_eqD (hu64 hr)) l2_eq (eo_ix ix_seq l2_ix (eo_v 3 (pv 3)) (eo_neg 1) (fun _ _ => rfl)) (eo_ix ix_seq l2_ix (eo_v 1 (pv 1)) eo_int (fun _ _ => rfl)) (nomark _))))) ess_nil))
abbrev st_shows_fewest : Stmt := topS 50
theorem sc_shows_fewest : FnScope ["one", "other", "value", "least"] ["one", "other", "value"] (defScope st_shows_fewest) := ⟨rfl, rfl, rfl, by decide +kernel, rfl, by decide +kernel, by decide +kernel⟩
theorem ok_shows_fewest {f : Addr} {fd : FuncData} (D : Dk K mg "shows_fewest" st_shows_fewest ["one", "other", "value"] f fd) (B : Bt mg) {f_distance : Addr} {fd_distance : FuncData} (D_distance : Dk K mg "distance" st_distance ["one", "other"] f_distance fd_distance) (G_distance : FnOk P w K mg base CX0 8 f_distance fd_distance ["one", "other"] (spP K T p_distance)) {f_leads_to : Addr} {fd_leads_to : FuncData} (D_leads_to : Dk K mg "leads_to" st_leads_to ["one", "other", "row"] f_leads_to fd_leads_to) (G_leads_to : FnOk P w K mg base CX0 6 f_leads_to fd_leads_to ["one", "other", "row"] (spP K T p_leads_to)) : FnOk P w K mg base CX0 9 f fd ["one", "other", "value"] (spP K T p_shows_fewest) :=
  fn_pure D.fn sc_shows_fewest g_shows_fewest (by decide) fun cdv A outer s H E H0 F0 io hr => (ess_cons (es_asg (fun h hg => ps_asg h hg) (eo_call (fun h => pe_call G_distance (hr.mono (by decide)) (by rfl) D_distance.mg D_distance.fn.kp D_distance.b .nil pass0 h) (ea_cons (eo_v 0 (pv 0)) (ea_cons (eo_v 1 (pv 1)) ea_nil)) fun _ => .nil) (eg_n 3 (pg_name (i := 3) sc_shows_fewest.nd rfl (Or.inl rfl)))) (ess_cons (es_if (et_cmp op_isA l2_is (eo_v 3 (pv 3)) eo_non (nomark _)) (ess_cons (es_ret (eo_cmp op_isA l2_is (eo_v 2 (pv 2)) eo_non (nomark _))) ess_nil) ess_nil) (ess_cons (es_ret (eo_and (eo_isi rfl (by decide) (fun h => pe_callB call_isi (by rfl) B.n_isinstance PyProof.Rows.boot_isinstance (pa_cons h (pa_cons (pe_bltn (u := .type "tuple") (by rfl) B.n_tuple (by decide +kernel) rfl) pa_nil))) (eo_v 2 (pv 2))) (eo_and (eo_cmp (op_eqD (hu64 hr)) l2_eq (eo_bn (fun h => pe_callB call_len_seq (by rfl) B.n_len PySem.boot_len h) ln_len (ea_cons (eo_v 2 (pv 2)) ea_nil)) (eo_v 3 (pv 3)) (nomark _)) (eo_one (eo_call (fun h => pe_call G_leads_to (hr.mono (by decide)) (by rfl) D_leads_to.mg D_leads_to.fn.kp D_leads_to.b .nil pass0 h) (ea_cons (eo_v 0 (pv 0)) (ea_cons (eo_v 1 (pv 1)) (ea_cons (eo_v 2 (pv 2)) ea_nil))) fun _ => .nil))))) ess_nil)))
abbrev st_takings : Stmt := topS 31
theorem sc_takings : FnScope ["chart"] ["chart"] (defScope st_takings) := ⟨rfl, rfl, rfl, by decide +kernel, rfl, by decide +kernel, by decide +kernel⟩
theorem ok_takings {f : Addr} {fd : FuncData} (D : Dk K mg "takings" st_takings ["chart"] f fd) (B : Bt mg) {f_check_chart : Addr} {fd_check_chart : FuncData} (D_check_chart : Dk K mg "check_chart" st_check_chart ["chart"] f_check_chart fd_check_chart) (G_check_chart : FnOk P w K mg base CX0 6 f_check_chart fd_check_chart ["chart"] (spP K T p_check_chart)) {f_ready_takings : Addr} {fd_ready_takings : FuncData} (D_ready_takings : Dk K mg "ready_takings" st_ready_takings ["table", "cells"] f_ready_takings fd_ready_takings) (G_ready_takings : FnOk P w K mg base CX0 2 f_ready_takings fd_ready_takings ["table", "cells"] (spP K T p_ready_takings)) {f_touch_table : Addr} {fd_touch_table : FuncData} (D_touch_table : Dk K mg "touch_table" st_touch_table ["chart"] f_touch_table fd_touch_table) (G_touch_table : FnOk P w K mg base CX0 3 f_touch_table fd_touch_table ["chart"] (spP K T p_touch_table)) : FnOk P w K mg base CX0 7 f fd ["chart"] (spP K T p_takings) :=
  fn_pure D.fn sc_takings g_takings (by decide) fun cdv A outer s H E H0 F0 io hr => (ess_cons (es_exp (eo_call (fun h => pe_call G_check_chart (hr.mono (by decide)) (by rfl) D_check_chart.mg D_check_chart.fn.kp D_check_chart.b .nil pass0 h) (ea_cons (eo_v 0 (pv 0)) ea_nil) fun _ => .nil)) (ess_cons (es_ret (eo_bn (fun h => pe_callTy call_tupF (by rfl) B.n_tuple (by decide +kernel) h) ln_tup (ea_cons (eo_call (fun h => pe_call G_ready_takings (hr.mono (by decide)) (by rfl) D_ready_takings.mg D_ready_takings.fn.kp D_ready_takings.b .nil pass0 h) (ea_cons (eo_call (fun h => pe_call G_touch_table (hr.mono (by decide)) (by rfl) D_touch_table.mg D_touch_table.fn.kp D_touch_table.b .nil pass0 h) (ea_cons (eo_v 0 (pv 0)) ea_nil) fun _ => .nil) (ea_cons (eo_ix ix_seq l2_ix (eo_v 0 (pv 0)) eo_int (fun _ _ => rfl)) ea_nil)) fun _ => .nil) ea_nil))) ess_nil))
abbrev st_law : Stmt := topS 68
theorem sc_law : FnScope ["script", "row", "arms", "length", "lands", "chart", "other", "third", "far", "unlike", "word", "some", "strange", "k", "one"] ["script"] (defScope st_law) := ⟨rfl, rfl, rfl, by decide +kernel, rfl, by decide +kernel, by decide +kernel⟩
theorem ok_law {f : Addr} {fd : FuncData} (D : Dk K mg "law" st_law ["script"] f fd) (B : Bt mg) {f__law_island : Addr} {fd__law_island : FuncData} (D__law_island : Dk K mg "_law_island" st__law_island ["row", "most"] f__law_island fd__law_island) (G__law_island : FnOk P w K mg base CX0 2 f__law_island fd__law_island ["row", "most"] (spI K T p__law_island)) {f__law_map : Addr} {fd__law_map : FuncData} (D__law_map : Dk K mg "_law_map" st__law_map ["row", "arms", "length", "lands"] f__law_map fd__law_map) (G__law_map : FnOk P w K mg base CX0 3 f__law_map fd__law_map ["row", "arms", "length", "lands"] (spI K T p__law_map)) {f__law_walk : Addr} {fd__law_walk : FuncData} (D__law_walk : Dk K mg "_law_walk" st__law_walk ["row", "chart", "many"] f__law_walk fd__law_walk) (G__law_walk : FnOk P w K mg base CX0 4 f__law_walk fd__law_walk ["row", "chart", "many"] (spI K T p__law_walk)) {f__law_taken : Addr} {fd__law_taken : FuncData} (D__law_taken : Dk K mg "_law_taken" st__law_taken ["row", "many"] f__law_taken fd__law_taken) (G__law_taken : FnOk P w K mg base CX0 1 f__law_taken fd__law_taken ["row", "many"] (spI K T p__law_taken)) {f_distance : Addr} {fd_distance : FuncData} (D_distance : Dk K mg "distance" st_distance ["one", "other"] f_distance fd_distance) (G_distance : FnOk P w K mg base CX0 8 f_distance fd_distance ["one", "other"] (spP K T p_distance)) {f_farthest : Addr} {fd_farthest : FuncData} (D_farthest : Dk K mg "farthest" st_farthest ["chart"] f_farthest fd_farthest) (G_farthest : FnOk P w K mg base CX0 7 f_farthest fd_farthest ["chart"] (spP K T p_farthest)) {f_is_frozen : Addr} {fd_is_frozen : FuncData} (D_is_frozen : Dk K mg "is_frozen" st_is_frozen ["chart"] f_is_frozen fd_is_frozen) (G_is_frozen : FnOk P w K mg base CX0 10 f_is_frozen fd_is_frozen ["chart"] (spP K T p_is_frozen)) {f_frozen_distance : Addr} {fd_frozen_distance : FuncData} (D_frozen_distance : Dk K mg "frozen_distance" st_frozen_distance ["one", "other"] f_frozen_distance fd_frozen_distance) (G_frozen_distance : FnOk P w K mg base CX0 14 f_frozen_distance fd_frozen_distance ["one", "other"] (spP K T p_frozen_distance)) {f_fewest : Addr} {fd_fewest : FuncData} (D_fewest : Dk K mg "fewest" st_fewest ["one", "other"] f_fewest fd_fewest) (G_fewest : FnOk P w K mg base CX0 8 f_fewest fd_fewest ["one", "other"] (spP K T p_fewest)) {f_shows_fewest : Addr} {fd_shows_fewest : FuncData} (D_shows_fewest : Dk K mg "shows_fewest" st_shows_fewest ["one", "other", "value"] f_shows_fewest fd_shows_fewest) (G_shows_fewest : FnOk P w K mg base CX0 9 f_shows_fewest fd_shows_fewest ["one", "other", "value"] (spP K T p_shows_fewest)) {f__law_behind : Addr} {fd__law_behind : FuncData} (D__law_behind : Dk K mg "_law_behind" st__law_behind ["chart", "taking"] f__law_behind fd__law_behind) (G__law_behind : FnOk P w K mg base CX0 1 f__law_behind fd__law_behind ["chart", "taking"] (spP K T p__law_behind)) {f_takings : Addr} {fd_takings : FuncData} (D_takings : Dk K mg "takings" st_takings ["chart"] f_takings fd_takings) (G_takings : FnOk P w K mg base CX0 7 f_takings fd_takings ["chart"] (spP K T p_takings)) : FnOk P w K mg base CX0 15 f fd ["script"] (spP K T p_law_k38) :=
  fn_pure D.fn sc_law g_law_k38 (by decide) fun cdv A outer s H E H0 F0 io hr => (ess_cons (es_own 1 (fun h => ps_set (i := 1) sc_law.nd rfl (Or.inl rfl) h) (ef_lst (ea_cons (eo_v 0 (pv 0)) (ea_cons eo_int (ea_cons eo_int (ea_cons eo_int ea_nil)))))) (ess_cons (es_asg (fun h hg => ps_asg h hg) (eo_callI (fun h => pe_call G__law_island (hr.mono (by decide)) (by rfl) D__law_island.mg D__law_island.fn.kp D__law_island.b .nil pass0 h) (ea_cons (eo_b 1 (pv 1)) (ea_cons eo_int ea_nil))) (eg_t (egs_cons (eg_n 2 (pg_name (i := 2) sc_law.nd rfl (Or.inl rfl))) (egs_cons (eg_n 3 (pg_name (i := 3) sc_law.nd rfl (Or.inl rfl))) (egs_cons (eg_n 4 (pg_name (i := 4) sc_law.nd rfl (Or.inl rfl))) egs_nil (fun h h1 => pgs_cons h h1)) (fun h h1 => pgs_cons h h1)) (fun h h1 => pgs_cons h h1)) (fun h => pg_tup (by rfl) h) rfl)) (ess_cons (es_asg (fun h hg => ps_asg h hg) (eo_callI (fun h => pe_call G__law_map (hr.mono (by decide)) (by rfl) D__law_map.mg D__law_map.fn.kp D__law_map.b .nil pass0 h) (ea_cons (eo_b 1 (pv 1)) (ea_cons (eo_v 2 (pv 2)) (ea_cons (eo_v 3 (pv 3)) (ea_cons (eo_v 4 (pv 4)) ea_nil))))) (eg_n 5 (pg_name (i := 5) sc_law.nd rfl (Or.inr rfl)))) (ess_cons (es_asg (fun h hg => ps_asg h hg) (eo_tup (ea_cons (eo_ix ix_seq l2_ix (eo_callI (fun h => pe_call G__law_walk (hr.mono (by decide)) (by rfl) D__law_walk.mg D__law_walk.fn.kp D__law_walk.b .nil pass0 h) (ea_cons (eo_b 1 (pv 1)) (ea_cons (eo_v 5 (pv 5)) (ea_cons (eo_callI (fun h => pe_call G__law_taken (hr.mono (by decide)) (by rfl) D__law_taken.mg D__law_taken.fn.kp D__law_taken.b .nil pass0 h) (ea_cons (eo_b 1 (pv 1)) (ea_cons eo_int ea_nil))) ea_nil)))) eo_int (fun _ _ => rfl)) (ea_cons (eo_ix ix_seq l2_ix (eo_callI (fun h => pe_call G__law_walk (hr.mono (by decide)) (by rfl) D__law_walk.mg D__law_walk.fn.kp D__law_walk.b .nil pass0 h) (ea_cons (eo_b 1 (pv 1)) (ea_cons (eo_v 5 (pv 5)) (ea_cons (eo_callI (fun h => pe_call G__law_taken (hr.mono (by decide)) (by rfl) D__law_taken.mg D__law_taken.fn.kp D__law_taken.b .nil pass0 h) (ea_cons (eo_b 1 (pv 1)) (ea_cons eo_int ea_nil))) ea_nil)))) eo_int (fun _ _ => rfl)) ea_nil))) (eg_t (egs_cons (eg_n 6 (pg_name (i := 6) sc_law.nd rfl (Or.inr rfl))) (egs_cons (eg_n 7 (pg_name (i := 7) sc_law.nd rfl (Or.inl rfl))) egs_nil (fun h h1 => pgs_cons h h1)) (fun h h1 => pgs_cons h h1)) (fun h => pg_tup (by rfl) h) rfl)) (ess_cons (es_asg (fun h hg => ps_asg h hg) (eo_call (fun h => pe_call G_distance (hr.mono (by decide)) (by rfl) D_distance.mg D_distance.fn.kp D_distance.b .nil pass0 h) (ea_cons (eo_v 5 (pv 5)) (ea_cons (eo_v 6 (pv 6)) ea_nil)) fun _ => .nil) (eg_n 8 (pg_name (i := 8) sc_law.nd rfl (Or.inr rfl)))) (ess_cons (es_if (et_w (ew_or (et_cmp op_isA l2_is (eo_v 8 (pv 8)) eo_non (nomark _)) (ew_or (et_cmp (op_neD (hu64 hr)) l2_ne (eo_v 8 (pv 8)) (eo_call (fun h => pe_call G_distance (hr.mono (by decide)) (by rfl) D_distance.mg D_distance.fn.kp D_distance.b .nil pass0 h) (ea_cons (eo_v 6 (pv 6)) (ea_cons (eo_v 5 (pv 5)) ea_nil)) fun _ => .nil) (nomark _)) (ew_or (et_cmp op_gt l2_gt (eo_v 8 (pv 8)) (eo_op op_add3 l2_add3 (eo_call (fun h => pe_call G_distance (hr.mono (by decide)) (by rfl) D_distance.mg D_distance.fn.kp D_distance.b .nil pass0 h) (ea_cons (eo_v 5 (pv 5)) (ea_cons (eo_v 7 (pv 7)) ea_nil)) fun _ => .nil) (eo_call (fun h => pe_call G_distance (hr.mono (by decide)) (by rfl) D_distance.mg D_distance.fn.kp D_distance.b .nil pass0 h) (ea_cons (eo_v 7 (pv 7)) (ea_cons (eo_v 6 (pv 6)) ea_nil)) fun _ => .nil)) (nomark _)) (ew_or1 (et_cmp (op_neD (hu64 hr)) l2_ne (eo_call (fun h => pe_call G_distance (hr.mono (by decide)) (by rfl) D_distance.mg D_distance.fn.kp D_distance.b .nil pass0 h) (ea_cons (eo_v 5 (pv 5)) (ea_cons (eo_v 5 (pv 5)) ea_nil)) fun _ => .nil) eo_int (nomark _))))))) (ess_cons (es_ret eo_bl) ess_nil) ess_nil) (ess_cons (es_asg (fun h hg => ps_asg h hg) (eo_bn (fun h => pe_callB call_len_seq (by rfl) B.n_len PySem.boot_len h) ln_len (ea_cons (eo_fr (ef_comp (own := [("k", 13)]) (fun wi hg ht he => pe_lc (own := [("k", 13)]) rfl sc_law.nd wi (blkOk_by (N := ["script", "row", "arms", "length", "lands", "chart", "other", "third", "far", "unlike", "word", "some", "strange", "k", "one"]) (sc := defScope st_law) (by decide +kernel)) hg ht he) (ei_rg1 (fun h => pi_range1 (by rfl) B.n_range h) (ea_cons (eo_bn (fun h => pe_callB call_len_seq (by rfl) B.n_len PySem.boot_len h) ln_len (ea_cons (eo_ix ix_seq l2_ix (eo_v 5 (pv 5)) eo_int (fun _ _ => rfl)) ea_nil)) ea_nil)) (by decide) (fun H0 F0 io s1 H1 C1 cl1 fp1 => (eg_n 13 (pg_name (i := 13) sc_law.nd rfl (Or.inl rfl)))) (fun H0 F0 io s1 H1 C1 cl1 fp1 => (ets_one (et_cmp (op_neD (hu64 hr)) l2_ne (eo_ix ix_seq l2_ix (eo_ix ix_seq l2_ix (eo_v 5 (pv 5)) eo_int (fun _ _ => rfl)) (eo_v 13 (pv 13)) (fun _ _ => rfl)) (eo_ix ix_seq l2_ix (eo_ix ix_seq l2_ix (eo_v 6 (pv 6)) eo_int (fun _ _ => rfl)) (eo_v 13 (pv 13)) (fun _ _ => rfl)) (nomark _)))) (fun H0 F0 io s1 H1 C1 cl1 fp1 => (eo_v 13 (pv 13))))) ea_nil)) (eg_n 9 (pg_name (i := 9) sc_law.nd rfl (Or.inl rfl)))) (ess_cons (es_if (et_w (ew_or (et_cmp op_lt l2_lt (eo_v 8 (pv 8)) (eo_v 9 (pv 9)) (nomark _)) (ew_or (et_cmp (op_neD (hu64 hr)) l2_ne (eo_cmp (op_eqD (hu64 hr)) l2_eq (eo_v 8 (pv 8)) eo_int (nomark _)) (eo_cmp (op_eqD (hu64 hr)) l2_eq (eo_v 5 (pv 5)) (eo_v 6 (pv 6)) (nomark _)) (nomark _)) (ew_or (et_w (ew_and (et_cmp (op_eqD (hu64 hr)) l2_eq (eo_v 8 (pv 8)) eo_int (nomark _)) (ew_and1 (et_cmp (op_neD (hu64 hr)) l2_ne (eo_v 9 (pv 9)) eo_int (nomark _))))) (ew_or1 (et_cmp op_gt l2_gt (eo_v 8 (pv 8)) (eo_call (fun h => pe_call G_farthest (hr.mono (by decide)) (by rfl) D_farthest.mg D_farthest.fn.kp D_farthest.b .nil pass0 h) (ea_cons (eo_v 5 (pv 5)) ea_nil) fun _ => .nil) (nomark _))))))) (ess_cons (es_ret eo_bl) ess_nil) ess_nil) (ess_cons (es_if (et_w (ew_and (et_tr (eo_call (fun h => pe_call G_is_frozen (hr.mono (by decide)) (by rfl) D_is_frozen.mg D_is_frozen.fn.kp D_is_frozen.b .nil pass0 h) (ea_cons (eo_v 5 (pv 5)) ea_nil) fun _ => .nil)) (ew_and1 (et_cmp (op_neD (hu64 hr)) l2_ne (eo_call (fun h => pe_call G_frozen_distance (hr.mono (by decide)) (by rfl) D_frozen_distance.mg D_frozen_distance.fn.kp D_frozen_distance.b .nil pass0 h) (ea_cons (eo_v 5 (pv 5)) (ea_cons (eo_v 6 (pv 6)) ea_nil)) fun _ => .nil) (eo_v 8 (pv 8)) (nomark _))))) (ess_cons (es_ret eo_bl) ess_nil) ess_nil) (ess_cons (es_asg (fun h hg => ps_asg h hg) (eo_call (fun h => pe_call G_fewest (hr.mono (by decide)) (by rfl) D_fewest.mg D_fewest.fn.kp D_fewest.b .nil pass0 h) (ea_cons (eo_v 5 (pv 5)) (ea_cons (eo_v 6 (pv 6)) ea_nil)) fun _ => .nil) (eg_n 10 (pg_name (i := 10) sc_law.nd rfl (Or.inl rfl)))) (ess_cons (es_if (et_w (ew_or (et_cmp (op_neD (hu64 hr)) l2_ne (eo_bn (fun h => pe_callB call_len_seq (by rfl) B.n_len PySem.boot_len h) ln_len (ea_cons (eo_v 10 (pv 10)) ea_nil)) (eo_v 8 (pv 8)) (nomark _)) (ew_or (et_cmp op_isNotA l2_isNot (eo_call (fun h => pe_call G_shows_fewest (hr.mono (by decide)) (by rfl) D_shows_fewest.mg D_shows_fewest.fn.kp D_shows_fewest.b .nil pass0 h) (ea_cons (eo_v 5 (pv 5)) (ea_cons (eo_v 6 (pv 6)) (ea_cons (eo_v 10 (pv 10)) ea_nil))) fun _ => .nil) eo_bl (nomark _)) (ew_or1 (et_w (ew_and (et_cmp (op_neD (hu64 hr)) l2_ne (eo_v 10 (pv 10)) (eo_tup ea_nil) (nomark _)) (ew_and1 (et_cmp (op_neD (hu64 hr)) l2_ne (eo_call (fun h => pe_call G_distance (hr.mono (by decide)) (by rfl) D_distance.mg D_distance.fn.kp D_distance.b .nil pass0 h) (ea_cons (eo_call (fun h => pe_call G__law_behind (hr.mono (by decide)) (by rfl) D__law_behind.mg D__law_behind.fn.kp D__law_behind.b .nil pass0 h) (ea_cons (eo_v 5 (pv 5)) (ea_cons (eo_ix ix_seq l2_ix (eo_v 10 (pv 10)) eo_int (fun _ _ => rfl)) ea_nil)) fun _ => .nil) (ea_cons (eo_v 6 (pv 6)) ea_nil)) fun _ => .nil) (eo_op op_sub l2_sub (eo_v 8 (pv 8)) eo_int) (nomark _))))))))) (ess_cons (es_ret eo_bl) ess_nil) ess_nil) (ess_cons (es_lc frS (i := 11) (own := [("one", 14)]) (fun wi hg ht he => ps_setLc (i := 11) (own := [("one", 14)]) rfl sc_law.nd rfl rfl (sw_true rfl rfl rfl (by decide +kernel)) wi (blkOk_by (N := ["script", "row", "arms", "length", "lands", "chart", "other", "third", "far", "unlike", "word", "some", "strange", "k", "one"]) (sc := defScope st_law) (by decide +kernel)) hg ht he) (ei_sq rfl (eo_call (fun h => pe_call G_takings (hr.mono (by decide)) (by rfl) D_takings.mg D_takings.fn.kp D_takings.b .nil pass0 h) (ea_cons (eo_v 5 (pv 5)) ea_nil) fun _ => .nil)) (by decide) (fun H0 F0 io s1 H1 C1 cl1 fp1 => (eg_n 14 (pg_name (i := 14) sc_law.nd rfl (Or.inl rfl)))) (fun H0 F0 io s1 H1 C1 cl1 fp1 => ets_nil) (fun H0 F0 io s1 H1 C1 cl1 fp1 => (eo_call (fun h => pe_call G_distance (hr.mono (by decide)) (by rfl) D_distance.mg D_distance.fn.kp D_distance.b .nil pass0 h) (ea_cons (eo_call (fun h => pe_call G__law_behind (hr.mono (by decide)) (by rfl) D__law_behind.mg D__law_behind.fn.kp D__law_behind.b .nil pass0 h) (ea_cons (eo_v 5 (pv 5)) (ea_cons (eo_v 14 (pv 14)) ea_nil)) fun _ => .nil) (ea_cons (eo_v 6 (pv 6)) ea_nil)) fun _ => .nil))) (ess_cons (es_if (et_w (ew_or (et_cmp (op_neD (hu64 hr)) l2_ne (eo_fr (ef_comp (own := [("k", 13)]) (fun wi hg ht he => pe_lc (own := [("k", 13)]) rfl sc_law.nd wi (blkOk_by (N := ["script", "row", "arms", "length", "lands", "chart", "other", "third", "far", "unlike", "word", "some", "strange", "k", "one"]) (sc := defScope st_law) (by decide +kernel)) hg ht he) (ei_sq rfl (eo_v 11 (pv 11))) (by decide) (fun H0 F0 io s1 H1 C1 cl1 fp1 => (eg_n 13 (pg_name (i := 13) sc_law.nd rfl (Or.inl rfl)))) (fun H0 F0 io s1 H1 C1 cl1 fp1 => (ets_one (et_cmp op_gt l2_gt (eo_bn (fun h => pe_callB call_abs (by rfl) B.n_abs (by decide +kernel) h) ln_abs (ea_cons (eo_op op_sub l2_sub (eo_v 13 (pv 13)) (eo_v 8 (pv 8))) ea_nil)) eo_int (nomark _)))) (fun H0 F0 io s1 H1 C1 cl1 fp1 => (eo_v 13 (pv 13))))) (eo_fr (ef_lst ea_nil)) (nomark _)) (ew_or1 (et_w (ew_and (et_cmp op_gt l2_gt (eo_v 8 (pv 8)) eo_int (nomark _)) (ew_and1 (et_cmp (op_neD (hu64 hr)) l2_ne (eo_bn (fun h => pe_callB (cr_min (by rfl)) (by rfl) B.n_min (by decide +kernel) h) ln_min (ea_cons (eo_v 11 (pv 11)) ea_nil)) (eo_op op_sub l2_sub (eo_v 8 (pv 8)) eo_int) (nomark _)))))))) (ess_cons (es_ret eo_bl) ess_nil) ess_nil) (ess_cons (es_asg (fun h hg => ps_asg h hg) (eo_callI (fun h => pe_call G__law_map (hr.mono (by decide)) (by rfl) D__law_map.mg D__law_map.fn.kp D__law_map.b .nil pass0 h) (ea_cons (eo_b 1 (pv 1)) (ea_cons (eo_v 2 (pv 2)) (ea_cons (eo_v 3 (pv 3)) (ea_cons (eo_v 4 (pv 4)) ea_nil))))) (eg_n 12 (pg_name (i := 12) sc_law.nd rfl (Or.inl rfl)))) (ess_cons (es_ret (eo_cmp (op_eqD (hu64 hr)) l2_eq (eo_cmp op_isA l2_is (eo_call (fun h => pe_call G_distance (hr.mono (by decide)) (by rfl) D_distance.mg D_distance.fn.kp D_distance.b .nil pass0 h) (ea_cons (eo_v 5 (pv 5)) (ea_cons (eo_v 12 (pv 12)) ea_nil)) fun _ => .nil) eo_non (nomark _)) (eo_cmp op_isA l2_is (eo_call (fun h => pe_call G_fewest (hr.mono (by decide)) (by rfl) D_fewest.mg D_fewest.fn.kp D_fewest.b .nil pass0 h) (ea_cons (eo_v 5 (pv 5)) (ea_cons (eo_v 12 (pv 12)) ea_nil)) fun _ => .nil) eo_non (nomark _)) (nomark _))) ess_nil)))))))))))))))
end
end S38
/-! Plain data: what the readings of comprehensions and loops come to -/
namespace PD
open PySem
theorem compL_on {α : Type} {g : SG} {t : STe} {f : SE} {vs : List Nat} {W : Ev} (F G : α → PyData) (b : α → Bool) : ∀ (xs : List α) (acc : List PyData) (ρ : Ev), wipeE ρ vs = W → acc.length + xs.length ≤ 1000000 →
    (∀ x ∈ xs, ∃ ρ3, g (F x) W = some ρ3 ∧ wipeE ρ3 vs = W ∧ t ρ3 = some (b x, ρ3) ∧ (b x = true → f ρ3 = some (.d (G x), ρ3))) → ∃ ρ2, compL g t f vs (xs.map F) acc ρ = some (acc ++ (xs.filter b).map G, ρ2) ∧ wipeE ρ2 vs = W
  | [], acc, ρ, hw, _, _ => ⟨ρ, by simp [compL], hw⟩
  | d :: ds, acc, ρ, hw, hn, h => by
    obtain ⟨ρ3, h1, h2, h3, h4⟩ := h d (by simp)
    rw [List.map_cons]
    unfold compL
    rw [hw, h1]
    dsimp only
    rw [h3]
    cases hb : b d with
    | false =>
      dsimp only
      obtain ⟨ρ2, e1, e2⟩ := compL_on F G b ds acc ρ3 h2 (by simp at hn; omega) (fun d' hd => h d' (by simp [hd]))
      exact ⟨ρ2, by rw [e1, List.filter_cons_of_neg (by simp [hb])], e2⟩
    | true =>
      dsimp only
      rw [h4 hb]
      dsimp only
      obtain ⟨ρ2, e1, e2⟩ := compL_on F G b ds (acc ++ [G d]) ρ3 h2 (by simp at hn ⊢; omega) (fun d' hd => h d' (by simp [hd]))
      refine ⟨ρ2, ?_, e2⟩
      rw [if_pos (by simp at hn; omega), e1, List.filter_cons_of_pos hb]
      simp
theorem sComp_on {α : Type} {fi : SI} {g : SG} {t : STe} {f : SE} {vs : List Nat} {ρ ρ1 : Ev} (xs : List α) (F G : α → PyData) (b : α → Bool) (hi : fi ρ = some (xs.map F, ρ1)) (hw : okWipe ρ1 vs = true) (hn : xs.length ≤ 1000000) (hr : restore (wipeE ρ1 vs) ρ1 vs = ρ1)
    (h : ∀ x ∈ xs, ∃ ρ3, g (F x) (wipeE ρ1 vs) = some ρ3 ∧ wipeE ρ3 vs = wipeE ρ1 vs ∧ t ρ3 = some (b x, ρ3) ∧ (b x = true → f ρ3 = some (.d (G x), ρ3))) : sComp fi g t f vs ρ = some ((xs.filter b).map G, ρ1) := by
  unfold sComp
  rw [hi]
  dsimp only
  rw [if_pos hw]
  obtain ⟨ρ2, e1, e2⟩ := compL_on (vs := vs) F G b xs [] ρ1 rfl (by simpa using hn) h
  rw [e1]
  dsimp only
  rw [e2, hr]
  simp
/-- .. that takes all -/
theorem sComp_all {α : Type} {fi : SI} {g : SG} {f : SE} {vs : List Nat} {ρ ρ1 : Ev} (xs : List α) (F G : α → PyData) (hi : fi ρ = some (xs.map F, ρ1)) (hw : okWipe ρ1 vs = true) (hn : xs.length ≤ 1000000) (hr : restore (wipeE ρ1 vs) ρ1 vs = ρ1)
    (h : ∀ x ∈ xs, ∃ ρ3, g (F x) (wipeE ρ1 vs) = some ρ3 ∧ wipeE ρ3 vs = wipeE ρ1 vs ∧ f ρ3 = some (.d (G x), ρ3)) : sComp fi g tYes' f vs ρ = some (xs.map G, ρ1) := by
  have e := sComp_on (t := tYes') (f := f) xs F G (fun _ => true) hi hw hn hr fun x hx => let ⟨ρ3, h1, h2, h3⟩ := h x hx; ⟨ρ3, h1, h2, rfl, fun _ => h3⟩
  rw [e, show xs.filter (fun _ => true) = xs from by induction xs <;> simp_all]
theorem allL_on {α : Type} {g : SG} {f : SE} {vs : List Nat} {W : Ev} (F : α → PyData) (b : α → Bool) : ∀ (xs : List α) (ρ : Ev), wipeE ρ vs = W →
    (∀ d ∈ xs, ∃ ρ3, g (F d) W = some ρ3 ∧ wipeE ρ3 vs = W ∧ f ρ3 = some (.d (.bool (b d)), ρ3)) → ∃ ρ2, allL g f vs (xs.map F) ρ = some (xs.all b, ρ2) ∧ wipeE ρ2 vs = W
  | [], ρ, hw, _ => ⟨ρ, rfl, hw⟩
  | d :: ds, ρ, hw, h => by
    obtain ⟨ρ3, h1, h2, h3⟩ := h d (by simp)
    rw [List.map_cons]
    unfold allL
    rw [hw, h1]
    dsimp only
    rw [h3]
    cases hb : b d with
    | false => exact ⟨ρ3, by simp [hb], h2⟩
    | true =>
      dsimp only
      obtain ⟨ρ2, e1, e2⟩ := allL_on F b ds ρ3 h2 (fun d' hd => h d' (by simp [hd]))
      exact ⟨ρ2, by rw [e1]; simp [hb], e2⟩
theorem sAll_on {α : Type} {fi : SI} {g : SG} {f : SE} {vs : List Nat} {ρ ρ1 : Ev} (xs : List α) (F : α → PyData) (b : α → Bool) (hi : fi ρ = some (xs.map F, ρ1)) (hw : okWipe ρ1 vs = true) (hr : restore (wipeE ρ1 vs) ρ1 vs = ρ1)
    (h : ∀ d ∈ xs, ∃ ρ3, g (F d) (wipeE ρ1 vs) = some ρ3 ∧ wipeE ρ3 vs = wipeE ρ1 vs ∧ f ρ3 = some (.d (.bool (b d)), ρ3)) : sAll fi g f vs ρ = some (.d (.bool (xs.all b)), ρ1) := by
  unfold sAll
  rw [hi]
  dsimp only
  rw [if_pos hw]
  obtain ⟨ρ2, e1, e2⟩ := allL_on (vs := vs) F b xs ρ1 rfl h
  rw [e1]
  dsimp only
  rw [e2, hr]
theorem loopS_inv {g : SG} {b : SS} (I : Nat → Ev → Prop) (items : List PyData) (h : ∀ i d ρ, items[i]? = some d → I i ρ → ∃ ρ1 fl ρ2, g d ρ = some ρ1 ∧ b ρ1 = some (fl, ρ2) ∧ (fl = .nx ∨ fl = .ct) ∧ I (i + 1) ρ2) :
    ∀ (n i : Nat) (ρ : Ev), i + n = items.length → I i ρ → ∃ ρ', loopS g b (items.drop i) ρ = some (.nx, ρ') ∧ I items.length ρ'
  | 0, i, ρ, hn, hI => by
    have e : i = items.length := by omega
    subst e
    exact ⟨ρ, by rw [List.drop_length]; rfl, hI⟩
  | n + 1, i, ρ, hn, hI => by
    have hi : i < items.length := by omega
    obtain ⟨ρ1, fl, ρ2, h1, h2, h3, h4⟩ := h i items[i] ρ (List.getElem?_eq_getElem hi) hI
    obtain ⟨ρ', e1, e2⟩ := loopS_inv I items h n (i + 1) ρ2 (by omega) h4
    refine ⟨ρ', ?_, e2⟩
    rw [List.drop_eq_getElem_cons hi]
    simp only [loopS, h1, h2]
    rcases h3 with rfl | rfl
    · exact e1
    · exact e1
theorem sFor_inv {g : SG} {fi : SI} {b : SS} {ρ ρ1 : Ev} {items : List PyData} (I : Nat → Ev → Prop) (hi : fi ρ = some (items, ρ1)) (h0 : I 0 ρ1) (h : ∀ i d ρ, items[i]? = some d → I i ρ → ∃ ρ1 fl ρ2, g d ρ = some ρ1 ∧ b ρ1 = some (fl, ρ2) ∧ (fl = .nx ∨ fl = .ct) ∧ I (i + 1) ρ2) :
    ∃ ρ', sFor g fi b ρ = some (.nx, ρ') ∧ I items.length ρ' := by
  unfold sFor
  rw [hi]
  exact loopS_inv I items h items.length 0 ρ1 (by omega) h0
end PD
/-! Plain data: data of Lean types -/
namespace PD
open PySem PySem.W
/-- data whose values can be laid -/
class Sh (α : Type) [DecidableEq α] [Datum α] : Prop where
  lay : ∀ a : α, (Datum.toD a).canLay0 = true
instance : Sh Int := ⟨fun _ => by simp [Datum.toD, PyData.canLay0]⟩
instance : Sh Bool := ⟨fun _ => by simp [Datum.toD, PyData.canLay0]⟩
section
variable {α β : Type} [DecidableEq α] [Datum α] [Sh α] [DecidableEq β] [Datum β] [Sh β]
theorem layAll : ∀ xs : List α, PyData.canLayAll0 (xs.map Datum.toD) = true
  | [] => by simp [PyData.canLayAll0]
  | x :: xs => by rw [List.map_cons, PyData.canLayAll0, Sh.lay x, layAll xs]; rfl
instance : Sh (List α) := ⟨fun xs => by show (PyData.list (xs.map Datum.toD)).canLay0 = true; rw [PyData.canLay0]; exact layAll xs⟩
instance : Sh (Tup α) := ⟨fun t => by show (PyData.tuple (t.items.map Datum.toD)).canLay0 = true; rw [PyData.canLay0]; exact layAll _⟩
instance : Sh (α × β) := ⟨fun p => by show (PyData.tuple [Datum.toD p.1, Datum.toD p.2]).canLay0 = true; simp [PyData.canLay0, PyData.canLayAll0, Sh.lay]⟩
theorem shaped_toD (h : Datum.depth α ≤ 64) (x : α) : SeqAt.shaped (Datum.toD x) = true := by
  unfold SeqAt.shaped
  rw [Sh.lay x]
  have := Datum.depth_le x
  simp
  omega
theorem eq_toD (x y : α) (h : Datum.depth α ≤ 64 := by decide) : fEq (Datum.toD x) (Datum.toD y) = some (.bool (decide (x = y))) := by
  unfold fEq
  rw [shaped_toD h x, shaped_toD h y, Datum.eqv]
  rfl
theorem ne_toD (x y : α) (h : Datum.depth α ≤ 64 := by decide) : fNe (Datum.toD x) (Datum.toD y) = some (.bool (!decide (x = y))) := by
  unfold fNe
  rw [shaped_toD h x, shaped_toD h y, Datum.eqv]
  rfl
end
theorem eq_int (i j : Int) : fEq (.int i) (.int j) = some (.bool (decide (i = j))) := eq_toD (α := Int) i j
theorem ne_int (i j : Int) : fNe (.int i) (.int j) = some (.bool (!decide (i = j))) := ne_toD (α := Int) i j
theorem bne_dec (i j : Int) : (i != j) = !decide (i = j) := by
  show (!(i == j)) = _
  rw [beq_decide]
instance : Datum Nat where
  toD n := .int (n : Nat)
  plain _ := rfl
  eqv a b := by
    show PyData.eqv (.int a) (.int b) = _
    simp only [PyData.eqv]
    rw [beq_decide]
    exact decide_eq_decide.mpr (by omega)
  depth := 0
  depth_le _ := Nat.le_refl _
instance : Sh Nat := ⟨fun _ => by simp [Datum.toD, PyData.canLay0]⟩
/-- ints of numbers -/
abbrev iN (n : Nat) : PyData := .int (n : Nat)
abbrev lN (ns : List Nat) : PyData := .list (ns.map iN)
abbrev tN (ns : List Nat) : PyData := .tuple (ns.map iN)
theorem ne_nat (i j : Nat) : fNe (iN i) (iN j) = some (.bool (!decide (i = j))) := ne_toD (α := Nat) i j
theorem fMul_small (i j : Int) (h : 0 ≤ i ∧ i < 1000000) : fMul (.int i) (.int j) = some (.int (i * j)) := by
  unfold fMul
  exact if_pos (.inl (by unfold big; omega))
theorem fDiv_small (i j : Int) (h : 0 < j ∧ j < 1000000) : fDiv (.int i) (.int j) = some (.int (i / j)) := by
  unfold fDiv
  exact if_pos ⟨by omega, by omega⟩
theorem fMod_pos (i j : Int) (h : 0 < j) : fMod (.int i) (.int j) = some (.int (i % j)) := by
  unfold fMod
  exact if_pos h
theorem sRg1_small {f : SA} {ρ ρ1 : Ev} {n : Nat} (e : f ρ = some ([.d (iN n)], ρ1)) (h : n < 1000000) : sRg1 f ρ = some ((List.range n).map iN, ρ1) := by
  unfold sRg1
  rw [e]
  show (if (n : Int).natAbs < 4611686018427387904 then some (rangeD 0 (n : Int), ρ1) else none) = _
  rw [if_pos (by omega)]
  unfold rangeD
  simp
theorem sRg2_small {f : SA} {ρ ρ1 : Ev} {n : Nat} (e : f ρ = some ([.d (.int 1), .d (iN n)], ρ1)) (h : n < 1000000) : sRg2 f ρ = some ((List.range (n - 1)).map (fun i => iN (i + 1)), ρ1) := by
  unfold sRg2
  rw [e]
  show (if (1 : Int).natAbs < 4611686018427387904 ∧ (n : Int).natAbs < 4611686018427387904 then some (rangeD 1 (n : Int), ρ1) else none) = _
  rw [if_pos (by omega)]
  unfold rangeD
  have e : ((n : Int) - 1).toNat = n - 1 := by omega
  rw [e]
  congr 2
  apply List.map_congr_left
  intro i _
  show PyData.int _ = PyData.int _
  congr 1
  omega
/-- an item by its place -/
theorem ix_at {xs : List PyData} {j : Nat} {v : PyData} (h : xs[j]? = some v) : fIx (.list xs) (.int (j : Nat)) = some v ∧ fIx (.tuple xs) (.int (j : Nat)) = some v := ⟨L2.atI_nat h, L2.atI_nat h⟩
theorem ix_map {α : Type} {f : α → PyData} {xs : List α} {j : Nat} {v : α} (h : xs[j]? = some v) : fIx (.list (xs.map f)) (.int (j : Nat)) = some (f v) ∧ fIx (.tuple (xs.map f)) (.int (j : Nat)) = some (f v) :=
  ix_at (by rw [List.getElem?_map, h]; rfl)
theorem in_lN (x : Nat) (xs : List Nat) : fIn (iN x) (lN xs) = some (.bool (decide (x ∈ xs))) := by
  show (if SeqAt.shaped (Datum.toD x) && SeqAt.shaped (Datum.toD xs) then some (PyData.bool ((xs.map Datum.toD).any fun z => PyData.eqv z (Datum.toD x))) else none) = _
  rw [shaped_toD (by decide), shaped_toD (by decide), any_datum]
  rfl
theorem notIn_lN (x : Nat) (xs : List Nat) : fNotIn (iN x) (lN xs) = some (.bool (!decide (x ∈ xs))) := by
  show (if SeqAt.shaped (Datum.toD x) && SeqAt.shaped (Datum.toD xs) then some (PyData.bool (!(xs.map Datum.toD).any fun z => PyData.eqv z (Datum.toD x))) else none) = _
  rw [shaped_toD (by decide), shaped_toD (by decide), any_datum]
  rfl
theorem in_lP (x : Nat × Nat) (xs : List (Nat × Nat)) : fIn (Datum.toD x) (.list (xs.map Datum.toD)) = some (.bool (decide (x ∈ xs))) := by
  show (if SeqAt.shaped (Datum.toD x) && SeqAt.shaped (Datum.toD xs) then some (PyData.bool ((xs.map Datum.toD).any fun z => PyData.eqv z (Datum.toD x))) else none) = _
  rw [shaped_toD (by decide), shaped_toD (by decide), any_datum]
  simp
theorem intsOf_nat (ns : List Nat) : intsOf (ns.map iN) = some (ns.map fun (n : Nat) => (n : Int)) := by
  have e : ns.map iN = (ns.map fun (n : Nat) => (n : Int)).map PyData.int := by rw [List.map_map]; rfl
  rw [e, intsOf_map]
theorem count_nat (ns : List Nat) (k : Nat) : (ns.map fun (n : Nat) => (n : Int)).count (k : Int) = ns.count k := by
  induction ns with
  | nil => rfl
  | cons x r ih =>
    rw [List.map_cons, List.count_cons, List.count_cons, ih]
    congr 1
    by_cases h : x = k
    · subst h; simp
    · have h' : ¬ (x : Int) = (k : Int) := by omega
      simp [h, h']
theorem fCount_nat (ns : List Nat) (k : Nat) : fCount (lN ns) (iN k) = some (iN (ns.count k)) := by
  show (match intsOf (ns.map iN) with | some ns => some (PyData.int (ns.count (k : Int) : Nat)) | none => none) = _
  rw [intsOf_nat]
  show some (PyData.int _) = _
  rw [count_nat]
theorem foldl_nat (r : List Nat) : ∀ x : Nat, (r.map fun (n : Nat) => (n : Int)).foldl max (x : Int) = ((r.foldl max x : Nat) : Int) := by
  induction r with
  | nil => intro x; rfl
  | cons y r ih =>
    intro x
    rw [List.map_cons, List.foldl_cons, List.foldl_cons, ← ih]
    congr 1
    exact (by omega : max (x : Int) (y : Int) = ((max x y : Nat) : Int))
/-- the greatest -/
def maxN (ns : List Nat) : Nat := ns.foldl max 0
theorem maxI_nat {ns : List Nat} (h : ns ≠ []) : maxI (ns.map fun (n : Nat) => (n : Int)) = some ((maxN ns : Nat) : Int) := by
  cases ns with
  | nil => exact absurd rfl h
  | cons x r =>
    show some _ = some _
    rw [foldl_nat]
    unfold maxN
    rw [List.foldl_cons, Nat.zero_max]
theorem fMax_tN {ns : List Nat} (h : ns ≠ []) : fMax [tN ns] = some (iN (maxN ns)) := by
  show (match intsOf (ns.map iN) with | some ns => (maxI ns).map PyData.int | none => none) = _
  rw [intsOf_nat]
  show (maxI _).map _ = _
  rw [maxI_nat h]
  rfl
end PD
namespace ST
open PySem PD
theorem fAdd_int (i j : Int) : fAdd (.int i) (.int j) = some (.int (i + j)) := rfl
end ST
namespace ST
open PySem PD
/-- the combinators, opened -/
theorem whole_int (i : Int) : p_is_whole [.int i] = some (.bool true) := by rfl
theorem integer_int (i a b : Int) : p_is_integer [.int i, .int a, .int b] = some (.bool (decide (a ≤ i ∧ i ≤ b))) := by
  unfold p_is_integer g_is_integer
  simp [bodyP, bodyI, startE, startI, sSeq, sRet, sAsg, sExp, sIfS, sNx, sV, sB, sC, PD.s2, toT, sTr, truth, bne_dec, sChain, sAnd, sOr, sNot, sIf, tAnd', tOr', tNot', sNil, sCons, sCall, allD, sN, allR, PD.res, sTup, sLst, sFr, gN, gT, gsNil, gsCons, sIsi, tyName, isSub, sOrE, sM1, sM1T, ST.fAdd_int, fSub, fLe, fLt, fGt, fGe, eq_int, ne_int, cont?, setCont, List.replicate, fLen, sOwn, sApp, whole_int]
  by_cases h : a ≤ i <;> simp [h]
theorem pair_tup (xs : List PyData) : p_is_pair [.tuple xs] = some (.bool (decide (xs.length = 2))) := by
  unfold p_is_pair g_is_pair
  simp [bodyP, bodyI, startE, startI, sSeq, sRet, sAsg, sExp, sIfS, sNx, sV, sB, sC, PD.s2, toT, sTr, truth, bne_dec, sChain, sAnd, sOr, sNot, sIf, tAnd', tOr', tNot', sNil, sCons, sCall, allD, sN, allR, PD.res, sTup, sLst, sFr, gN, gT, gsNil, gsCons, sIsi, tyName, isSub, sOrE, sM1, sM1T, ST.fAdd_int, fSub, fLe, fLt, fGt, fGe, eq_int, ne_int, cont?, setCont, List.replicate, fLen, sOwn, sApp]
  omega
/-- the cell inward of c (c not the hub) -/
def inner (n c : Nat) : Nat := if (c - 1) % n = 0 then 0 else c - 1
theorem cast_pred {c : Nat} (hc : 0 < c) : (c : Int) - 1 = ((c - 1 : Nat) : Int) := by omega
theorem emod_zero {c n : Nat} : ((c : Int) % (n : Int) = 0) ↔ c % n = 0 := by
  rw [← Int.natCast_emod]
  omega
theorem inner_cell {n c : Nat} (hn : 0 < n) (hc : 0 < c) : p_inner_cell [iN n, iN c] = some (iN (inner n c)) := by
  unfold p_inner_cell g_inner_cell inner
  by_cases h : (c - 1) % n = 0
  · have h' : ((c - 1 : Nat) : Int) % (n : Int) = 0 := emod_zero.mpr h
    simp [bodyP, bodyI, startE, startI, sSeq, sRet, sAsg, sExp, sIfS, sNx, sV, sB, sC, PD.s2, toT, sTr, truth, bne_dec, sChain, sAnd, sOr, sNot, sIf, tAnd', tOr', tNot', sNil, sCons, sCall, allD, sN, allR, PD.res, sTup, sLst, sFr, gN, gT, gsNil, gsCons, sIsi, tyName, isSub, sOrE, sM1, sM1T, ST.fAdd_int, fSub, fLe, fLt, fGt, fGe, eq_int, ne_int, cont?, setCont, List.replicate, fLen, sOwn, sApp, fMod, hn, cast_pred hc, h, h']
  · have h' : ¬ ((c - 1 : Nat) : Int) % (n : Int) = 0 := fun z => h (emod_zero.mp z)
    simp [bodyP, bodyI, startE, startI, sSeq, sRet, sAsg, sExp, sIfS, sNx, sV, sB, sC, PD.s2, toT, sTr, truth, bne_dec, sChain, sAnd, sOr, sNot, sIf, tAnd', tOr', tNot', sNil, sCons, sCall, allD, sN, allR, PD.res, sTup, sLst, sFr, gN, gT, gsNil, gsCons, sIsi, tyName, isSub, sOrE, sM1, sM1T, ST.fAdd_int, fSub, fLe, fLt, fGt, fGe, eq_int, ne_int, cont?, setCont, List.replicate, fLen, sOwn, sApp, fMod, hn, cast_pred hc, h, h']
end ST
namespace ST
open PySem PD
/-- a map: arms and cells -/
abbrev ch (a : Nat) (cells : List Nat) : PyData := .tuple [iN a, tN cells]
abbrev tk (l c : Nat) : PyData := .tuple [iN l, iN c]
theorem ix0 (x y : PyData) : fIx (.tuple [x, y]) (.int 0) = some x := by rfl
theorem ix1 (x y : PyData) : fIx (.tuple [x, y]) (.int 1) = some y := by rfl
theorem length_of {a : Nat} {cells : List Nat} (h : 0 < cells.length) (ha : 0 < a) (ha2 : a < 1000) : p_length_of [ch a cells] = some (iN ((cells.length - 1) / a)) := by
  have e := fDiv_small ((cells.length - 1 : Nat) : Int) (a : Int) (by omega)
  unfold p_length_of g_length_of
  simp [bodyP, bodyI, startE, startI, sSeq, sRet, sAsg, sExp, sIfS, sNx, sV, sB, sC, PD.s2, toT, sTr, truth, bne_dec, sChain, sAnd, sOr, sNot, sIf, tAnd', tOr', tNot', sNil, sCons, sCall, allD, sN, allR, PD.res, sTup, sLst, sFr, gN, gT, gsNil, gsCons, sIsi, tyName, isSub, sOrE, sM1, sM1T, ST.fAdd_int, fSub, fLe, fLt, fGt, fGe, eq_int, ne_int, cont?, setCont, List.replicate, fLen, sOwn, sApp, ix0, ix1, cast_pred h, e]
/-- the cells that c touches -/
def nbr (a n c : Nat) : List Nat := if c = 0 then (List.range a).map fun k => 1 + k * n else if c % n = 0 then [inner n c] else [inner n c, c + 1]
theorem touching_cells {a n c : Nat} (hn : 0 < n) (hn2 : n < 1000) (ha : a < 1000) : p_touching_cells [iN a, iN n, iN c] = some (tN (nbr a n c)) := by
  unfold p_touching_cells g_touching_cells
  by_cases hc : c = 0
  · subst hc
    have e : c1_touching_cells [.dat (iN a), .dat (iN n), .dat (iN 0), .un, .un] = some ((List.range a).map fun k => iN (1 + k * n), [.dat (iN a), .dat (iN n), .dat (iN 0), .un, .un]) := by
      refine sComp_all (List.range a) iN (fun k => iN (1 + k * n)) (sRg1_small rfl (by omega)) rfl (by simp; omega) rfl fun k hk => ?_
      have hk := List.mem_range.mp hk
      refine ⟨_, rfl, rfl, ?_⟩
      simp [bodyP, bodyI, startE, startI, sSeq, sRet, sAsg, sExp, sIfS, sNx, sV, sB, sC, PD.s2, toT, sTr, truth, bne_dec, sChain, sAnd, sOr, sNot, sIf, tAnd', tOr', tNot', sNil, sCons, sCall, allD, sN, allR, PD.res, sTup, sLst, sFr, gN, gT, gsNil, gsCons, sIsi, tyName, isSub, sOrE, sM1, sM1T, ST.fAdd_int, fSub, fLe, fLt, fGt, fGe, eq_int, ne_int, cont?, setCont, List.replicate, fLen, sOwn, sApp, wipeE, fMul_small (k : Int) (n : Int) (by omega)]
    simp [bodyP, bodyI, startE, startI, sSeq, sRet, sAsg, sExp, sIfS, sNx, sV, sB, sC, PD.s2, toT, sTr, truth, bne_dec, sChain, sAnd, sOr, sNot, sIf, tAnd', tOr', tNot', sNil, sCons, sCall, allD, sN, allR, PD.res, sTup, sLst, sFr, gN, gT, gsNil, gsCons, sIsi, tyName, isSub, sOrE, sM1, sM1T, ST.fAdd_int, fSub, fLe, fLt, fGt, fGe, eq_int, ne_int, cont?, setCont, List.replicate, fLen, sOwn, sApp, e, fTupOf, nbr]
  · have hz : ¬ (c : Int) = 0 := by omega
    by_cases h : c % n = 0
    · have h' : (c : Int) % (n : Int) = 0 := emod_zero.mpr h
      simp [bodyP, bodyI, startE, startI, sSeq, sRet, sAsg, sExp, sIfS, sNx, sV, sB, sC, PD.s2, toT, sTr, truth, bne_dec, sChain, sAnd, sOr, sNot, sIf, tAnd', tOr', tNot', sNil, sCons, sCall, allD, sN, allR, PD.res, sTup, sLst, sFr, gN, gT, gsNil, gsCons, sIsi, tyName, isSub, sOrE, sM1, sM1T, ST.fAdd_int, fSub, fLe, fLt, fGt, fGe, eq_int, ne_int, cont?, setCont, List.replicate, fLen, sOwn, sApp, hz, hc, fMod, hn, h, h', inner_cell hn (by omega : 0 < c), nbr]
    · have h' : ¬ (c : Int) % (n : Int) = 0 := fun z => h (emod_zero.mp z)
      simp [bodyP, bodyI, startE, startI, sSeq, sRet, sAsg, sExp, sIfS, sNx, sV, sB, sC, PD.s2, toT, sTr, truth, bne_dec, sChain, sAnd, sOr, sNot, sIf, tAnd', tOr', tNot', sNil, sCons, sCall, allD, sN, allR, PD.res, sTup, sLst, sFr, gN, gT, gsNil, gsCons, sIsi, tyName, isSub, sOrE, sM1, sM1T, ST.fAdd_int, fSub, fLe, fLt, fGt, fGe, eq_int, ne_int, cont?, setCont, List.replicate, fLen, sOwn, sApp, hz, hc, fMod, hn, h, h', inner_cell hn (by omega : 0 < c), nbr]
end ST
namespace ST
open PySem PD
theorem touch_table {a : Nat} {cells : List Nat} (h : 0 < cells.length) (ha : 0 < a) (ha2 : a < 1000) (hn : 0 < (cells.length - 1) / a) (hc : cells.length < 1000) :
    p_touch_table [ch a cells] = some (.list ((List.range cells.length).map fun c => tN (nbr a ((cells.length - 1) / a) c))) := by
  have hn2 : (cells.length - 1) / a < 1000 := Nat.lt_of_le_of_lt (Nat.div_le_self _ _) (by omega)
  have e : c1_touch_table [.dat (ch a cells), .dat (iN a), .dat (tN cells), .dat (iN ((cells.length - 1) / a)), .un] = some ((List.range cells.length).map fun c => tN (nbr a ((cells.length - 1) / a) c), [.dat (ch a cells), .dat (iN a), .dat (tN cells), .dat (iN ((cells.length - 1) / a)), .un]) := by
    refine sComp_all (List.range cells.length) iN _ (sRg1_small (by simp [bodyP, bodyI, startE, startI, sSeq, sRet, sAsg, sExp, sIfS, sNx, sV, sB, sC, PD.s2, toT, sTr, truth, bne_dec, sChain, sAnd, sOr, sNot, sIf, tAnd', tOr', tNot', sNil, sCons, sCall, allD, sN, allR, PD.res, sTup, sLst, sFr, gN, gT, gsNil, gsCons, sIsi, tyName, isSub, sOrE, sM1, sM1T, ST.fAdd_int, fSub, fLe, fLt, fGt, fGe, eq_int, ne_int, cont?, setCont, List.replicate, fLen, sOwn, sApp]) (by omega)) rfl (by simp; omega) rfl fun k hk => ?_
    have hk := List.mem_range.mp hk
    refine ⟨_, rfl, rfl, ?_⟩
    simp [bodyP, bodyI, startE, startI, sSeq, sRet, sAsg, sExp, sIfS, sNx, sV, sB, sC, PD.s2, toT, sTr, truth, bne_dec, sChain, sAnd, sOr, sNot, sIf, tAnd', tOr', tNot', sNil, sCons, sCall, allD, sN, allR, PD.res, sTup, sLst, sFr, gN, gT, gsNil, gsCons, sIsi, tyName, isSub, sOrE, sM1, sM1T, ST.fAdd_int, fSub, fLe, fLt, fGt, fGe, eq_int, ne_int, cont?, setCont, List.replicate, fLen, sOwn, sApp, wipeE, touching_cells hn hn2 ha2]
  unfold p_touch_table g_touch_table
  simp [bodyP, bodyI, startE, startI, sSeq, sRet, sAsg, sExp, sIfS, sNx, sV, sB, sC, PD.s2, toT, sTr, truth, bne_dec, sChain, sAnd, sOr, sNot, sIf, tAnd', tOr', tNot', sNil, sCons, sCall, allD, sN, allR, PD.res, sTup, sLst, sFr, gN, gT, gsNil, gsCons, sIsi, tyName, isSub, sOrE, sM1, sM1T, ST.fAdd_int, fSub, fLe, fLt, fGt, fGe, eq_int, ne_int, cont?, setCont, List.replicate, fLen, sOwn, sApp, length_of h ha ha2, e]
theorem can_lose (l : Nat) (near : List Nat) : p_can_lose [iN l, lN near] = some (.bool (decide (near.count l = 1))) := by
  unfold p_can_lose g_can_lose
  simp [bodyP, bodyI, startE, startI, sSeq, sRet, sAsg, sExp, sIfS, sNx, sV, sB, sC, PD.s2, toT, sTr, truth, bne_dec, sChain, sAnd, sOr, sNot, sIf, tAnd', tOr', tNot', sNil, sCons, sCall, allD, sN, allR, PD.res, sTup, sLst, sFr, gN, gT, gsNil, gsCons, sIsi, tyName, isSub, sOrE, sM1, sM1T, ST.fAdd_int, fSub, fLe, fLt, fGt, fGe, eq_int, ne_int, cont?, setCont, List.replicate, fLen, sOwn, sApp, fCount_nat]
  omega
end ST
namespace ST
open PySem PD
/-- the land of a cell -/
def ca (cells : List Nat) (c : Nat) : Nat := cells.getD c 0
/-- the lands at places -/
def near (cells ps : List Nat) : List Nat := ps.map (ca cells)
/-- land may take the cell, whose touching places are ps -/
def canMk (ps cells : List Nat) (land cell : Nat) : Bool := decide (land ≠ ca cells cell) && (decide (land ∈ near cells ps) && decide ((near cells ps).count (ca cells cell) = 1))
theorem ca_some {xs : List Nat} {i : Nat} (h : i < xs.length) : xs[i]? = some (ca xs i) := by
  unfold ca
  rw [List.getD_eq_getElem?_getD, List.getElem?_eq_getElem h]
  rfl
theorem can_make {tab : List (List Nat)} {ps cells : List Nat} {l c : Nat} (ht : tab[c]? = some ps) (hc : c < cells.length) (hp : ∀ p ∈ ps, p < cells.length) (hl : ps.length < 1000) :
    p_can_make [.list (tab.map tN), tN cells, tk l c] = some (.bool (canMk ps cells l c)) := by
  have e1 := (ix_map (f := tN) ht).1
  have e2 := (ix_map (f := iN) (ca_some hc)).2
  have e : c1_can_make [.dat (.list (tab.map tN)), .dat (tN cells), .dat (tk l c), .dat (iN l), .dat (iN c), .dat (iN (ca cells c)), .un, .un] = some (ps.map fun p => iN (ca cells p), [.dat (.list (tab.map tN)), .dat (tN cells), .dat (tk l c), .dat (iN l), .dat (iN c), .dat (iN (ca cells c)), .un, .un]) := by
    refine sComp_all ps iN _ (by simp [bodyP, bodyI, startE, startI, sSeq, sRet, sAsg, sExp, sIfS, sNx, sV, sB, sC, PD.s2, toT, sTr, truth, bne_dec, sChain, sAnd, sOr, sNot, sIf, tAnd', tOr', tNot', sNil, sCons, sCall, allD, sN, allR, PD.res, sTup, sLst, sFr, gN, gT, gsNil, gsCons, sIsi, tyName, isSub, sOrE, sM1, sM1T, ST.fAdd_int, fSub, fLe, fLt, fGt, fGe, eq_int, ne_int, cont?, setCont, List.replicate, fLen, sOwn, sApp, sSq, e1]) rfl (by omega) rfl fun p hpp => ?_
    refine ⟨_, rfl, rfl, ?_⟩
    simp [bodyP, bodyI, startE, startI, sSeq, sRet, sAsg, sExp, sIfS, sNx, sV, sB, sC, PD.s2, toT, sTr, truth, bne_dec, sChain, sAnd, sOr, sNot, sIf, tAnd', tOr', tNot', sNil, sCons, sCall, allD, sN, allR, PD.res, sTup, sLst, sFr, gN, gT, gsNil, gsCons, sIsi, tyName, isSub, sOrE, sM1, sM1T, ST.fAdd_int, fSub, fLe, fLt, fGt, fGe, eq_int, ne_int, cont?, setCont, List.replicate, fLen, sOwn, sApp, wipeE, (ix_map (f := iN) (ca_some (hp p hpp))).2]
  have en : ps.map (fun p => iN (ca cells p)) = (near cells ps).map iN := by unfold near; rw [List.map_map]; rfl
  rw [en] at e
  unfold p_can_make g_can_make canMk
  by_cases h : l = ca cells c
  · subst h
    simp [bodyP, bodyI, startE, startI, sSeq, sRet, sAsg, sExp, sIfS, sNx, sV, sB, sC, PD.s2, toT, sTr, truth, bne_dec, sChain, sAnd, sOr, sNot, sIf, tAnd', tOr', tNot', sNil, sCons, sCall, allD, sN, allR, PD.res, sTup, sLst, sFr, gN, gT, gsNil, gsCons, sIsi, tyName, isSub, sOrE, sM1, sM1T, ST.fAdd_int, fSub, fLe, fLt, fGt, fGe, eq_int, ne_int, cont?, setCont, List.replicate, fLen, sOwn, sApp, e2, e, ne_nat]
  · have h' : ¬ (l : Int) = (ca cells c : Nat) := by omega
    by_cases h2 : l ∈ near cells ps
    · simp [bodyP, bodyI, startE, startI, sSeq, sRet, sAsg, sExp, sIfS, sNx, sV, sB, sC, PD.s2, toT, sTr, truth, bne_dec, sChain, sAnd, sOr, sNot, sIf, tAnd', tOr', tNot', sNil, sCons, sCall, allD, sN, allR, PD.res, sTup, sLst, sFr, gN, gT, gsNil, gsCons, sIsi, tyName, isSub, sOrE, sM1, sM1T, ST.fAdd_int, fSub, fLe, fLt, fGt, fGe, eq_int, ne_int, cont?, setCont, List.replicate, fLen, sOwn, sApp, e2, e, h', h, in_lN, can_lose, h2]
    · simp [bodyP, bodyI, startE, startI, sSeq, sRet, sAsg, sExp, sIfS, sNx, sV, sB, sC, PD.s2, toT, sTr, truth, bne_dec, sChain, sAnd, sOr, sNot, sIf, tAnd', tOr', tNot', sNil, sCons, sCall, allD, sN, allR, PD.res, sTup, sLst, sFr, gN, gT, gsNil, gsCons, sIsi, tyName, isSub, sOrE, sM1, sM1T, ST.fAdd_int, fSub, fLe, fLt, fGt, fGe, eq_int, ne_int, cont?, setCont, List.replicate, fLen, sOwn, sApp, e2, e, h', h, in_lN, can_lose, h2]
end ST
namespace ST
open PySem PD
/-- the places i such that i + 1 begins a land of its own -/
def crs (n : Nat) (cells : List Nat) : List Nat := (List.range (cells.length - 1)).filter fun i => decide (¬ ca cells (i + 1) = ca cells (inner n (i + 1)))
/-- a map of a arms of n cells, m lands -/
structure Valid (a n m : Nat) (cells : List Nat) : Prop where
  ha : 3 ≤ a ∧ a ≤ 4
  hn : 1 ≤ n ∧ n ≤ 4
  hm : 2 ≤ m ∧ m ≤ n + 1
  len : cells.length = 1 + a * n
  lt : ∀ v ∈ cells, v < m
  cov : ∀ v, v < m → v ∈ cells
  cr : (crs n cells).length + 1 = m
section
variable {a n m : Nat} {cells : List Nat}
theorem Valid.len_lt (V : Valid a n m cells) : 0 < cells.length ∧ cells.length ≤ 17 := by
  have h1 := V.ha
  have h2 := V.hn
  have h3 := V.len
  have : a * n ≤ 4 * 4 := Nat.mul_le_mul h1.2 h2.2
  omega
theorem Valid.div (V : Valid a n m cells) : (cells.length - 1) / a = n := by
  have h1 := V.ha
  rw [V.len, Nat.add_sub_cancel_left, Nat.mul_comm, Nat.mul_div_cancel _ (by omega)]
theorem foldl_max_le (r : List Nat) : ∀ x b : Nat, x ≤ b → (∀ v ∈ r, v ≤ b) → r.foldl max x ≤ b := by
  induction r with
  | nil => intro x b h _; exact h
  | cons y r ih =>
    intro x b h h2
    exact ih _ b (Nat.max_le.mpr ⟨h, h2 y (by simp)⟩) fun v hv => h2 v (by simp [hv])
theorem le_foldl_max (r : List Nat) : ∀ x : Nat, x ≤ r.foldl max x ∧ ∀ v ∈ r, v ≤ r.foldl max x := by
  induction r with
  | nil => intro x; exact ⟨Nat.le_refl _, fun v hv => by cases hv⟩
  | cons y r ih =>
    intro x
    obtain ⟨h1, h2⟩ := ih (max x y)
    refine ⟨Nat.le_trans (Nat.le_max_left _ _) h1, fun v hv => ?_⟩
    rcases List.mem_cons.mp hv with rfl | hv
    · exact Nat.le_trans (Nat.le_max_right _ _) h1
    · exact h2 v hv
theorem Valid.maxN (V : Valid a n m cells) : maxN cells = m - 1 := by
  have hm := V.hm
  apply Nat.le_antisymm
  · exact foldl_max_le cells 0 _ (Nat.zero_le _) fun v hv => by have := V.lt v hv; omega
  · exact (le_foldl_max cells 0).2 _ (V.cov (m - 1) (by omega))
theorem Valid.nub (V : Valid a n m cells) : (nubI (cells.map fun (n : Nat) => (n : Int))).length = m := by
  have e : ((List.range m).map fun (n : Nat) => (n : Int)).length = m := by simp
  rw [← e]
  refine nodup_len (nubI_nodup _) ?_ fun k => ?_
  · exact List.Pairwise.map _ (fun x y h => by omega) (List.nodup_range (n := m))
  · rw [nubI_mem]
    constructor
    · intro h
      obtain ⟨v, hv, rfl⟩ := List.mem_map.mp h
      exact List.mem_map.mpr ⟨v, List.mem_range.mpr (V.lt v hv), rfl⟩
    · intro h
      obtain ⟨v, hv, rfl⟩ := List.mem_map.mp h
      exact List.mem_map.mpr ⟨v, V.cov v (List.mem_range.mp hv), rfl⟩
theorem inner_lt {n c : Nat} (h : 0 < c) : inner n c < c := by
  unfold inner
  split <;> omega
theorem Valid.hang (V : Valid a n m cells) : p_hang_together [iN n, tN cells] = some (.bool true) := by
  have hl := V.len_lt
  have hn := V.hn
  have hm := V.hm
  have ne : cells ≠ [] := fun z => by rw [z] at hl; simp at hl
  have e0 : sLenSet (sV 1) [.dat (iN n), .dat (tN cells), .dat (iN m), .un, .un] = some (.d (iN m), [.dat (iN n), .dat (tN cells), .dat (iN m), .un, .un]) := by
    show (match intsOf (cells.map iN) with | some ns => if ns.length ≤ 4000 then some (Ob.d (.int (nubI ns).length), _) else none | none => none) = _
    rw [intsOf_nat]
    show (if _ then _ else _) = _
    rw [if_pos (by simp; omega), V.nub]
  have e : c1_hang_together [.dat (iN n), .dat (tN cells), .dat (iN m), .un, .un] = some ((crs n cells).map (fun i => iN (i + 1)), [.dat (iN n), .dat (tN cells), .dat (iN m), .un, .un]) := by
    refine sComp_on (List.range (cells.length - 1)) (fun i => iN (i + 1)) (fun i => iN (i + 1)) _ (sRg2_small (by simp [bodyP, bodyI, startE, startI, sSeq, sRet, sAsg, sExp, sIfS, sNx, sV, sB, sC, PD.s2, toT, sTr, truth, bne_dec, sChain, sAnd, sOr, sNot, sIf, tAnd', tOr', tNot', sNil, sCons, sCall, allD, sN, allR, PD.res, sTup, sLst, sFr, gN, gT, gsNil, gsCons, sIsi, tyName, isSub, sOrE, sM1, sM1T, ST.fAdd_int, fSub, fLe, fLt, fGt, fGe, eq_int, ne_int, cont?, setCont, List.replicate, fLen, sOwn, sApp]) (by omega)) rfl (by simp; omega) rfl fun i hi => ?_
    have hi := List.mem_range.mp hi
    have q1 := (ix_map (f := iN) (ca_some (by omega : i + 1 < cells.length))).2
    have q2 := (ix_map (f := iN) (ca_some (Nat.lt_trans (inner_lt (n := n) (Nat.succ_pos i)) (by omega : i + 1 < cells.length)))).2
    have q3 := inner_cell hn.1 (Nat.succ_pos i)
    simp only [Nat.succ_eq_add_one] at q2 q3
    refine ⟨_, rfl, rfl, ?_, ?_⟩
    · simp [bodyP, bodyI, startE, startI, sSeq, sRet, sAsg, sExp, sIfS, sNx, sV, sB, sC, PD.s2, toT, sTr, truth, bne_dec, sChain, sAnd, sOr, sNot, sIf, tAnd', tOr', tNot', sNil, sCons, sCall, allD, sN, allR, PD.res, sTup, sLst, sFr, gN, gT, gsNil, gsCons, sIsi, tyName, isSub, sOrE, sM1, sM1T, ST.fAdd_int, fSub, fLe, fLt, fGt, fGe, eq_int, ne_int, cont?, setCont, List.replicate, fLen, sOwn, sApp, wipeE, q1, q2, q3]
      omega
    · simp [bodyP, bodyI, startE, startI, sSeq, sRet, sAsg, sExp, sIfS, sNx, sV, sB, sC, PD.s2, toT, sTr, truth, bne_dec, sChain, sAnd, sOr, sNot, sIf, tAnd', tOr', tNot', sNil, sCons, sCall, allD, sN, allR, PD.res, sTup, sLst, sFr, gN, gT, gsNil, gsCons, sIsi, tyName, isSub, sOrE, sM1, sM1T, ST.fAdd_int, fSub, fLe, fLt, fGt, fGe, eq_int, ne_int, cont?, setCont, List.replicate, fLen, sOwn, sApp, wipeE]
  unfold p_hang_together g_hang_together
  have hmx : ((PD.maxN cells : Nat) : Int) + 1 = (m : Nat) := by rw [V.maxN]; omega
  have hcr : (((crs n cells).length : Nat) : Int) + 1 = (m : Nat) := by have := V.cr; omega
  simp [bodyP, bodyI, startE, startI, sSeq, sRet, sAsg, sExp, sIfS, sNx, sV, sB, sC, PD.s2, toT, sTr, truth, bne_dec, sChain, sAnd, sOr, sNot, sIf, tAnd', tOr', tNot', sNil, sCons, sCall, allD, sN, allR, PD.res, sTup, sLst, sFr, gN, gT, gsNil, gsCons, sIsi, tyName, isSub, sOrE, sM1, sM1T, ST.fAdd_int, fSub, fLe, fLt, fGt, fGe, eq_int, ne_int, cont?, setCont, List.replicate, fLen, sOwn, sApp, fMax_tN ne, hmx, e0, e, hcr]
end
end ST
namespace ST
open PySem PD
section
variable {a n m : Nat} {cells : List Nat}
theorem are_integers_nat {xs : List Nat} {b : Nat} (h : ∀ v ∈ xs, v ≤ b) (hl : xs.length < 1000) : p_are_integers [tN xs, .int 0, iN b] = some (.bool true) := by
  have e : a1_are_integers [.dat (tN xs), .dat (.int 0), .dat (iN b), .un] = some (.d (.bool true), [.dat (tN xs), .dat (.int 0), .dat (iN b), .un]) := by
    have q : xs.all (fun _ => true) = true := by simp
    rw [← q]
    refine sAll_on xs iN _ (by simp [bodyP, bodyI, startE, startI, sSeq, sRet, sAsg, sExp, sIfS, sNx, sV, sB, sC, PD.s2, toT, sTr, truth, bne_dec, sChain, sAnd, sOr, sNot, sIf, tAnd', tOr', tNot', sNil, sCons, sCall, allD, sN, allR, PD.res, sTup, sLst, sFr, gN, gT, gsNil, gsCons, sIsi, tyName, isSub, sOrE, sM1, sM1T, ST.fAdd_int, fSub, fLe, fLt, fGt, fGe, eq_int, ne_int, cont?, setCont, List.replicate, fLen, sOwn, sApp, sSq]) rfl rfl fun v hv => ⟨_, rfl, rfl, ?_⟩
    have := h v hv
    simp [bodyP, bodyI, startE, startI, sSeq, sRet, sAsg, sExp, sIfS, sNx, sV, sB, sC, PD.s2, toT, sTr, truth, bne_dec, sChain, sAnd, sOr, sNot, sIf, tAnd', tOr', tNot', sNil, sCons, sCall, allD, sN, allR, PD.res, sTup, sLst, sFr, gN, gT, gsNil, gsCons, sIsi, tyName, isSub, sOrE, sM1, sM1T, ST.fAdd_int, fSub, fLe, fLt, fGt, fGe, eq_int, ne_int, cont?, setCont, List.replicate, fLen, sOwn, sApp, wipeE, integer_int]
    omega
  unfold p_are_integers g_are_integers
  simp [bodyP, bodyI, startE, startI, sSeq, sRet, sAsg, sExp, sIfS, sNx, sV, sB, sC, PD.s2, toT, sTr, truth, bne_dec, sChain, sAnd, sOr, sNot, sIf, tAnd', tOr', tNot', sNil, sCons, sCall, allD, sN, allR, PD.res, sTup, sLst, sFr, gN, gT, gsNil, gsCons, sIsi, tyName, isSub, sOrE, sM1, sM1T, ST.fAdd_int, fSub, fLe, fLt, fGt, fGe, eq_int, ne_int, cont?, setCont, List.replicate, fLen, sOwn, sApp, e]
theorem Valid.chart (V : Valid a n m cells) : p_is_chart [ch a cells] = some (.bool true) := by
  have hl := V.len_lt
  have ha := V.ha
  have hn := V.hn
  have hm := V.hm
  have ne : cells ≠ [] := fun z => by rw [z] at hl; simp at hl
  have e1 : p_are_integers [tN cells, .int 0, iN n] = some (.bool true) := are_integers_nat (fun v hv => by have := V.lt v hv; omega) (by omega)
  have hd : fDivmod [.int ((cells.length : Int) - 1), iN a] = some (.tuple [iN n, .int 0]) := by
    have e2 : ((cells.length : Int) - 1) = ((a * n : Nat) : Int) := by rw [V.len]; omega
    rw [e2]
    show (if 0 < (a : Int) ∧ (a : Int).natAbs < 1073741824 then some (PyData.tuple [.int (((a * n : Nat) : Int) / (a : Int)), .int (((a * n : Nat) : Int) % (a : Int))]) else none) = _
    rw [if_pos (by omega), ← Int.natCast_ediv, ← Int.natCast_emod, Nat.mul_div_cancel_left _ (by omega), Nat.mul_mod_right]
    rfl
  have hz : ¬ ((PD.maxN cells : Nat) : Int) = 0 := by rw [V.maxN]; omega
  have hz' : ¬ PD.maxN cells = 0 := by rw [V.maxN]; omega
  have a1 : (3 : Int) ≤ (a : Nat) := by omega
  have a2 : ((a : Nat) : Int) ≤ 4 := by omega
  have n1 : (1 : Int) ≤ (n : Nat) := by omega
  have n2 : ((n : Nat) : Int) ≤ 4 := by omega
  unfold p_is_chart g_is_chart
  simp [bodyP, bodyI, startE, startI, sSeq, sRet, sAsg, sExp, sIfS, sNx, sV, sB, sC, PD.s2, toT, sTr, truth, bne_dec, sChain, sAnd, sOr, sNot, sIf, tAnd', tOr', tNot', sNil, sCons, sCall, allD, sN, allR, PD.res, sTup, sLst, sFr, gN, gT, gsNil, gsCons, sIsi, tyName, isSub, sOrE, sM1, sM1T, ST.fAdd_int, fSub, fLe, fLt, fGt, fGe, eq_int, ne_int, cont?, setCont, List.replicate, fLen, sOwn, sApp, pair_tup, integer_int, a1, a2, n1, n2, hd, e1, fMax_tN ne, hz, hz', V.hang]
theorem Valid.check (V : Valid a n m cells) : p_check_chart [ch a cells] = some .none := by
  unfold p_check_chart g_check_chart
  simp [bodyP, bodyI, startE, startI, sSeq, sRet, sAsg, sExp, sIfS, sNx, sV, sB, sC, PD.s2, toT, sTr, truth, bne_dec, sChain, sAnd, sOr, sNot, sIf, tAnd', tOr', tNot', sNil, sCons, sCall, allD, sN, allR, PD.res, sTup, sLst, sFr, gN, gT, gsNil, gsCons, sIsi, tyName, isSub, sOrE, sM1, sM1T, ST.fAdd_int, fSub, fLe, fLt, fGt, fGe, eq_int, ne_int, cont?, setCont, List.replicate, fLen, sOwn, sApp, V.chart]
theorem Valid.land (V : Valid a n m cells) {l : Nat} (h : l < m) : p_is_land [ch a cells, iN l] = some (.bool true) := by
  have hl := V.len_lt
  have ne : cells ≠ [] := fun z => by rw [z] at hl; simp at hl
  have h1 : ((l : Nat) : Int) ≤ (PD.maxN cells : Nat) := by rw [V.maxN]; omega
  unfold p_is_land g_is_land
  simp [bodyP, bodyI, startE, startI, sSeq, sRet, sAsg, sExp, sIfS, sNx, sV, sB, sC, PD.s2, toT, sTr, truth, bne_dec, sChain, sAnd, sOr, sNot, sIf, tAnd', tOr', tNot', sNil, sCons, sCall, allD, sN, allR, PD.res, sTup, sLst, sFr, gN, gT, gsNil, gsCons, sIsi, tyName, isSub, sOrE, sM1, sM1T, ST.fAdd_int, fSub, fLe, fLt, fGt, fGe, eq_int, ne_int, cont?, setCont, List.replicate, fLen, sOwn, sApp, ix1, fMax_tN ne, integer_int, h1]
theorem Valid.taking (V : Valid a n m cells) {l c : Nat} (h : l < m) (hc : c < cells.length) : p_is_taking [ch a cells, tk l c] = some (.bool true) := by
  have h1 : ((c : Nat) : Int) ≤ (cells.length : Int) - 1 := by omega
  unfold p_is_taking g_is_taking
  simp [bodyP, bodyI, startE, startI, sSeq, sRet, sAsg, sExp, sIfS, sNx, sV, sB, sC, PD.s2, toT, sTr, truth, bne_dec, sChain, sAnd, sOr, sNot, sIf, tAnd', tOr', tNot', sNil, sCons, sCall, allD, sN, allR, PD.res, sTup, sLst, sFr, gN, gT, gsNil, gsCons, sIsi, tyName, isSub, sOrE, sM1, sM1T, ST.fAdd_int, fSub, fLe, fLt, fGt, fGe, eq_int, ne_int, cont?, setCont, List.replicate, fLen, sOwn, sApp, pair_tup, ix0, ix1, V.land h, integer_int, h1]
/-- the table of touching places -/
def tabN (a n N : Nat) : List (List Nat) := (List.range N).map (nbr a n)
theorem Valid.table (V : Valid a n m cells) : p_touch_table [ch a cells] = some (.list ((tabN a n cells.length).map tN)) := by
  have hl := V.len_lt
  have ha := V.ha
  have hn := V.hn
  have e := touch_table (a := a) (cells := cells) (by omega) (by omega) (by omega) (by rw [V.div]; omega) (by omega)
  rw [e, V.div]
  unfold tabN
  rw [List.map_map]
  rfl
theorem nbr_lt {a n c : Nat} (ha : 1 ≤ a) (hn : 1 ≤ n) (hc : c < 1 + a * n) : ∀ p ∈ nbr a n c, p < 1 + a * n := by
  intro p hp
  unfold nbr at hp
  split at hp
  · obtain ⟨k, hk, rfl⟩ := List.mem_map.mp hp
    have hk := List.mem_range.mp hk
    have : (k + 1) * n ≤ a * n := Nat.mul_le_mul_right n hk
    rw [Nat.add_mul] at this
    omega
  · split at hp
    · have := inner_lt (n := n) (by omega : 0 < c)
      simp at hp
      omega
    · rename_i h0 h1
      have h2 := inner_lt (n := n) (by omega : 0 < c)
      have h3 : c ≠ a * n := fun z => h1 (by rw [z]; exact Nat.mul_mod_left _ _)
      simp at hp
      omega
theorem nbr_len {a n c : Nat} (ha : a < 900) : (nbr a n c).length < 1000 := by
  unfold nbr
  split
  · simp; omega
  · split <;> simp
end
end ST
namespace ST
open PySem PD
theorem cut_hi (xs : List PyData) (c : Nat) (h : c ≤ xs.length) : cutD xs none (some (c : Int)) = xs.take c := by
  unfold cutD
  rw [HT.sIx_none, HT.sIx_nat, Nat.min_eq_left h]
  simp
theorem cut_lo (xs : List PyData) (c : Nat) (h : c ≤ xs.length) : cutD xs (some (c : Int)) none = xs.drop c := by
  unfold cutD
  rw [HT.sIx_none, HT.sIx_nat]
  rw [Nat.min_eq_left h]
  apply List.take_of_length_le
  simp
theorem fAdd_tup {xs ys zs : List PyData} (h : xs.length + ys.length ≤ 1000000) (e : xs ++ ys = zs) : fAdd (.tuple xs) (.tuple ys) = some (.tuple zs) := by
  rw [← e]
  exact if_pos h
theorem made {cells : List Nat} {l c : Nat} (hc : c < cells.length) (hl : cells.length < 1000) : p_made [tN cells, tk l c] = some (tN (cells.set c l)) := by
  obtain ⟨T, hT⟩ : ∃ T, T = (cells.map iN).take c := ⟨_, rfl⟩
  obtain ⟨U, hU⟩ : ∃ U, U = (cells.map iN).drop (c + 1) := ⟨_, rfl⟩
  have e1 : cutD (cells.map iN) none (some (c : Int)) = T := by rw [hT]; exact cut_hi (cells.map iN) c (by simp; omega)
  have e2 : cutD (cells.map iN) (some ((c : Int) + 1)) none = U := by rw [hU]; exact cut_lo (cells.map iN) (c + 1) (by simp; omega)
  have e3 : (T ++ [iN l]) ++ U = (cells.set c l).map iN := by
    rw [hT, hU, List.map_set, List.set_eq_take_append_cons_drop, if_pos (by simp; omega), List.append_assoc]
    rfl
  have l1 : T.length < 1000 := by rw [hT]; simp; omega
  have l2 : U.length < 1000 := by rw [hU]; simp; omega
  have h1 : fAdd (.tuple T) (.tuple [iN l]) = some (.tuple (T ++ [iN l])) := fAdd_tup (by simp; omega) rfl
  have h2 : fAdd (.tuple (T ++ [iN l])) (.tuple U) = some (tN (cells.set c l)) := fAdd_tup (by simp; omega) e3
  unfold p_made g_made
  simp [bodyP, bodyI, startE, startI, sSeq, sRet, sAsg, sExp, sIfS, sNx, sV, sB, sC, PD.s2, toT, sTr, truth, bne_dec, sChain, sAnd, sOr, sNot, sIf, tAnd', tOr', tNot', sNil, sCons, sCall, allD, sN, allR, PD.res, sTup, sLst, sFr, gN, gT, gsNil, gsCons, sIsi, tyName, isSub, sOrE, sM1, sM1T, ST.fAdd_int, fSub, fLe, fLt, fGt, fGe, eq_int, ne_int, cont?, setCont, List.replicate, fLen, sOwn, sApp, sSl, fSl, pNone, pSome, e1, e2, h1, h2]
end ST
namespace ST
open PySem PD
/-- the cells behind one taking -/
def step (cells : List Nat) (t : Nat × Nat) : List Nat := cells.set t.2 t.1
/-- the cells behind the first i takings of a row -/
def cur (cells : List Nat) (row : List (Nat × Nat)) (i : Nat) : List Nat := (row.take i).foldl step cells
theorem foldl_len (row : List (Nat × Nat)) : ∀ cells : List Nat, (row.foldl step cells).length = cells.length := by
  induction row with
  | nil => intro _; rfl
  | cons t r ih => intro cells; rw [List.foldl_cons, ih]; exact List.length_set
theorem cur_len (cells : List Nat) (row : List (Nat × Nat)) (i : Nat) : (cur cells row i).length = cells.length := foldl_len _ _
theorem cur_succ {cells : List Nat} {row : List (Nat × Nat)} {i : Nat} {t : Nat × Nat} (h : row[i]? = some t) : cur cells row (i + 1) = step (cur cells row i) t := by
  unfold cur
  rw [List.take_add_one, h, List.foldl_append]
  rfl
abbrev tkD (t : Nat × Nat) : PyData := tk t.1 t.2
/-- all takings of a row can be made one after another -/
def RowOk (a n m : Nat) (cells : List Nat) (row : List (Nat × Nat)) : Prop := ∀ (i : Nat) (t : Nat × Nat), row[i]? = some t → t.1 < m ∧ t.2 < cells.length ∧ canMk (nbr a n t.2) (cur cells row i) t.1 t.2 = true
theorem make_on {a n m : Nat} {cells : List Nat} (V : Valid a n m cells) {cs : List Nat} {l c : Nat} (hl : cs.length = cells.length) (hc : c < cells.length) : p_can_make [.list ((tabN a n cells.length).map tN), tN cs, tk l c] = some (.bool (canMk (nbr a n c) cs l c)) := by
  have ha := V.ha
  have hn := V.hn
  refine can_make ?_ (by omega) (fun p hp => ?_) (nbr_len (by omega))
  · unfold tabN
    rw [List.getElem?_map, List.getElem?_range hc]
    rfl
  · rw [hl, V.len]
    rw [V.len] at hc
    exact nbr_lt (by omega) (by omega) hc p hp
theorem ix_end {xs : List PyData} {k : Nat} {v : PyData} (hl : xs.length = k + 1) (h : xs[k]? = some v) : fIx (.list xs) (.int (-1)) = some v ∧ fIx (.tuple xs) (.int (-1)) = some v := by
  have e : (if 0 ≤ (-1 : Int) + (xs.length : Int) then some ((-1 : Int) + (xs.length : Int)).toNat else none) = some k := by
    rw [hl, if_pos (by omega), show ((-1 : Int) + ((k + 1 : Nat) : Int)).toNat = k by omega]
  constructor
  · unfold fIx
    simp [L2.atI, L2.ixN, hl]
    rw [if_pos (by omega), show (-1 + ((k : Int) + 1)).toNat = k by omega]
    exact h
  · unfold fIx
    simp [L2.atI, L2.ixN, hl]
    rw [if_pos (by omega), show (-1 + ((k : Int) + 1)).toNat = k by omega]
    exact h
/-- the cells of the maps of a row -/
def stps (cells : List Nat) (row : List (Nat × Nat)) (k : Nat) : List PyData := (List.range k).map fun i => tN (cur cells row i)
theorem stps_len (cells : List Nat) (row : List (Nat × Nat)) (k : Nat) : (stps cells row k).length = k := by unfold stps; simp
theorem stps_succ (cells : List Nat) (row : List (Nat × Nat)) (k : Nat) : stps cells row (k + 1) = stps cells row k ++ [tN (cur cells row k)] := by
  unfold stps
  rw [List.range_succ]
  simp
theorem walked {a n m : Nat} {cells : List Nat} {row : List (Nat × Nat)} (V : Valid a n m cells) (h : RowOk a n m cells row) (hr : row.length ≤ 1000) :
    p_walked [ch a cells, .tuple (row.map tkD)] = some (.list (stps cells row (row.length + 1))) := by
  have hl := V.len_lt
  obtain ⟨R', hR'⟩ : ∃ R' : List PyData, R' = row.map tkD := ⟨_, rfl⟩
  obtain ⟨R, hR⟩ : ∃ R : PyData, R = .tuple R' := ⟨_, rfl⟩
  obtain ⟨Tb, hTb⟩ : ∃ Tb : PyData, Tb = .list ((tabN a n cells.length).map tN) := ⟨_, rfl⟩
  obtain ⟨C, hC⟩ : ∃ C : PyData, C = ch a cells := ⟨_, rfl⟩
  let st : Nat → Sl → Ev := fun i x => [.dat C, .dat R, .dat Tb, .own (stps cells row (i + 1)), x]
  have loop : ∃ ρ', l1_walked (st 0 .un) = some (.nx, ρ') ∧ ∃ x, ρ' = st row.length x := by
    have len : (row.map tkD).length = row.length := List.length_map _
    rw [← len]
    refine sFor_inv (items := row.map tkD) (ρ1 := st 0 .un) (fun i ρ => ∃ x, ρ = st i x) (by subst hR; subst hR'; rfl) ⟨_, rfl⟩ ?_
    rintro i d ρ hd ⟨x, rfl⟩
    rw [List.getElem?_map, Option.map_eq_some_iff] at hd
    obtain ⟨t, h2, rfl⟩ := hd
    obtain ⟨k1, k2, k3⟩ := h i t h2
    have hi : i < row.length := (List.getElem?_eq_some_iff.mp h2).1
    have q1 := V.taking k1 k2
    rw [← hC] at q1
    have q2 := make_on V (cur_len cells row i) k2 (l := t.1)
    rw [k3, ← hTb] at q2
    have q3 : p_made [tN (cur cells row i), tkD t] = some (tN (cur cells row (i + 1))) := by
      rw [cur_succ h2]
      exact made (by rw [cur_len]; exact k2) (by rw [cur_len]; omega)
    have ql := stps_len cells row (i + 1)
    have qe : (stps cells row (i + 1))[i]? = some (tN (cur cells row i)) := by
      rw [stps_succ, List.getElem?_append_right (by rw [stps_len]; exact Nat.le_refl _), stps_len, Nat.sub_self]
      rfl
    obtain ⟨qx, _⟩ := ix_end ql qe
    obtain ⟨D, hD⟩ : ∃ Z, Z = tkD t := ⟨_, rfl⟩
    obtain ⟨Ci, hCi⟩ : ∃ Z, Z = tN (cur cells row i) := ⟨_, rfl⟩
    obtain ⟨Cj, hCj⟩ : ∃ Z, Z = tN (cur cells row (i + 1)) := ⟨_, rfl⟩
    have es := stps_succ cells row (i + 1)
    rw [← hCj] at es
    obtain ⟨O, hO⟩ : ∃ Z, Z = stps cells row (i + 1) := ⟨_, rfl⟩
    refine ⟨[.dat C, .dat R, .dat Tb, .own (stps cells row (i + 1)), .dat (tkD t)], .nx, st (i + 1) (.dat (tkD t)), rfl, ?_, .inl rfl, ⟨_, rfl⟩⟩
    show b1_walked _ = some (.nx, [.dat C, .dat R, .dat Tb, .own (stps cells row (i + 1 + 1)), .dat (tkD t)])
    have hOl : O.length < 1000000 := by rw [hO, ql]; omega
    rw [es]
    rw [← hO] at qx ⊢
    change p_is_taking [C, tkD t] = _ at q1
    change p_can_make [Tb, tN (cur cells row i), tkD t] = _ at q2
    rw [← hCi] at q2 q3 qx
    rw [← hCj] at q3
    rw [← hD] at q1 q2 q3 ⊢
    unfold b1_walked
    simp [bodyP, bodyI, startE, startI, sSeq, sRet, sAsg, sExp, sIfS, sNx, sV, sB, sC, PD.s2, toT, sTr, truth, bne_dec, sChain, sAnd, sOr, sNot, sIf, tAnd', tOr', tNot', sNil, sCons, sCall, allD, sN, allR, PD.res, sTup, sLst, sFr, gN, gT, gsNil, gsCons, sIsi, tyName, isSub, sOrE, sM1, sM1T, ST.fAdd_int, fSub, fLe, fLt, fGt, fGe, eq_int, ne_int, cont?, setCont, List.replicate, fLen, sOwn, sApp, q1, q2, q3, qx, hOl]
  obtain ⟨ρ', e1, x, rfl⟩ := loop
  obtain ⟨O, hO⟩ : ∃ Z, Z = stps cells row (row.length + 1) := ⟨_, rfl⟩
  have e0 : l1_walked [.dat C, .dat R, .dat Tb, .own [tN cells], .un] = some (.nx, [.dat C, .dat R, .dat Tb, .own O, x]) := by
    rw [hO]
    exact e1
  have hv := V.table
  rw [← hTb, ← hC] at hv
  have hix : fIx C (.int 1) = some (tN cells) := by rw [hC]; rfl
  rw [← hR', ← hR, ← hO, ← hC]
  unfold p_walked g_walked
  simp [bodyP, bodyI, startE, startI, sSeq, sRet, sAsg, sExp, sIfS, sNx, sV, sB, sC, PD.s2, toT, sTr, truth, bne_dec, sChain, sAnd, sOr, sNot, sIf, tAnd', tOr', tNot', sNil, sCons, sCall, allD, sN, allR, PD.res, sTup, sLst, sFr, gN, gT, gsNil, gsCons, sIsi, tyName, isSub, sOrE, sM1, sM1T, ST.fAdd_int, fSub, fLe, fLt, fGt, fGe, eq_int, ne_int, cont?, setCont, List.replicate, fLen, sOwn, sApp, hv, hix, e0]
theorem traced {a n m : Nat} {cells : List Nat} {row : List (Nat × Nat)} (V : Valid a n m cells) (h : RowOk a n m cells row) (hr : row.length ≤ 40) :
    p_traced [ch a cells, .tuple (row.map tkD)] = some (.tuple ((List.range (row.length + 1)).map fun i => ch a (cur cells row i))) := by
  have hw := walked V h (by omega)
  obtain ⟨R', hR'⟩ : ∃ R' : List PyData, R' = row.map tkD := ⟨_, rfl⟩
  have hRl : R'.length = row.length := by rw [hR', List.length_map]
  obtain ⟨C, hC⟩ : ∃ C : PyData, C = ch a cells := ⟨_, rfl⟩
  have hk := V.check
  rw [← hC] at hk
  have hix : fIx C (.int 0) = some (iN a) := by rw [hC]; rfl
  rw [← hR', ← hC] at hw
  obtain ⟨O, hO⟩ : ∃ Z, Z = stps cells row (row.length + 1) := ⟨_, rfl⟩
  have hOl : O.length = row.length + 1 := by rw [hO, stps_len]
  have c1 : c1_traced [.dat C, .dat (.tuple R'), .dat (.list O), .un] = some ((List.range (row.length + 1)).map (fun i => ch a (cur cells row i)), [.dat C, .dat (.tuple R'), .dat (.list O), .un]) := by
    refine sComp_all (List.range (row.length + 1)) (fun i => tN (cur cells row i)) _ (by rw [hO]; simp [bodyP, bodyI, startE, startI, sSeq, sRet, sAsg, sExp, sIfS, sNx, sV, sB, sC, PD.s2, toT, sTr, truth, bne_dec, sChain, sAnd, sOr, sNot, sIf, tAnd', tOr', tNot', sNil, sCons, sCall, allD, sN, allR, PD.res, sTup, sLst, sFr, gN, gT, gsNil, gsCons, sIsi, tyName, isSub, sOrE, sM1, sM1T, ST.fAdd_int, fSub, fLe, fLt, fGt, fGe, eq_int, ne_int, cont?, setCont, List.replicate, fLen, sOwn, sApp, sSq, stps]) rfl (by simp; omega) rfl fun i hi => ⟨_, rfl, rfl, ?_⟩
    simp [bodyP, bodyI, startE, startI, sSeq, sRet, sAsg, sExp, sIfS, sNx, sV, sB, sC, PD.s2, toT, sTr, truth, bne_dec, sChain, sAnd, sOr, sNot, sIf, tAnd', tOr', tNot', sNil, sCons, sCall, allD, sN, allR, PD.res, sTup, sLst, sFr, gN, gT, gsNil, gsCons, sIsi, tyName, isSub, sOrE, sM1, sM1T, ST.fAdd_int, fSub, fLe, fLt, fGt, fGe, eq_int, ne_int, cont?, setCont, List.replicate, fLen, sOwn, sApp, wipeE, hix]
  obtain ⟨Z, hZ⟩ : ∃ Z, Z = (List.range (row.length + 1)).map (fun i => ch a (cur cells row i)) := ⟨_, rfl⟩
  rw [← hZ] at c1 ⊢
  rw [← hO] at hw
  rw [← hR', ← hC]
  have h40 : ¬ (40 : Int) < (row.length : Nat) := by omega
  have h41 : ¬ ((row.length : Int) + 1 ≤ (row.length : Nat)) := by omega
  unfold p_traced g_traced
  simp [bodyP, bodyI, startE, startI, sSeq, sRet, sAsg, sExp, sIfS, sNx, sV, sB, sC, PD.s2, toT, sTr, truth, bne_dec, sChain, sAnd, sOr, sNot, sIf, tAnd', tOr', tNot', sNil, sCons, sCall, allD, sN, allR, PD.res, sTup, sLst, sFr, gN, gT, gsNil, gsCons, sIsi, tyName, isSub, sOrE, sM1, sM1T, ST.fAdd_int, fSub, fLe, fLt, fGt, fGe, eq_int, ne_int, cont?, setCont, List.replicate, fLen, sOwn, sApp, hk, hRl, h40, hr, hw, hOl, h41, c1, fTupOf]
theorem done {a n m : Nat} {cells : List Nat} {row : List (Nat × Nat)} (V : Valid a n m cells) (h : RowOk a n m cells row) (hr : row.length ≤ 40) : p_done [ch a cells, .tuple (row.map tkD)] = some (ch a (cur cells row row.length)) := by
  have e : fIx (.tuple ((List.range (row.length + 1)).map fun i => ch a (cur cells row i))) (.int (-1)) = some (ch a (cur cells row row.length)) := by
    unfold fIx
    simp [L2.atI, L2.ixN]
    rw [if_pos (by omega), show (-1 + ((row.length : Int) + 1)).toNat = row.length by omega]
    simp
  unfold p_done g_done
  simp [bodyP, bodyI, startE, startI, sSeq, sRet, sAsg, sExp, sIfS, sNx, sV, sB, sC, PD.s2, toT, sTr, truth, bne_dec, sChain, sAnd, sOr, sNot, sIf, tAnd', tOr', tNot', sNil, sCons, sCall, allD, sN, allR, PD.res, sTup, sLst, sFr, gN, gT, gsNil, gsCons, sIsi, tyName, isSub, sOrE, sM1, sM1T, ST.fAdd_int, fSub, fLe, fLt, fGt, fGe, eq_int, ne_int, cont?, setCont, List.replicate, fLen, sOwn, sApp, traced V h hr, e]
end ST
namespace ST
open PySem PD
/-! ### an island as a tree -/
def isRoot (n : Nat) (cells : List Nat) (c : Nat) : Prop := c = 0 ∨ ca cells c ≠ ca cells (inner n c)
theorem root_of (n : Nat) (cells : List Nat) (c : Nat) : ∃ r, r ≤ c ∧ isRoot n cells r ∧ ca cells r = ca cells c := by
  induction c using Nat.strongRecOn with
  | ind c ih =>
    by_cases h : isRoot n cells c
    · exact ⟨c, Nat.le_refl _, h, rfl⟩
    · have h0 : c ≠ 0 := fun z => h (.inl z)
      have h1 : ca cells c = ca cells (inner n c) := Classical.byContradiction fun z => h (.inr z)
      have lt := inner_lt (n := n) (by omega : 0 < c)
      obtain ⟨r, k1, k2, k3⟩ := ih _ lt
      exact ⟨r, by omega, k2, by rw [k3, h1]⟩
theorem nodup_leN : ∀ {a b : List Nat}, a.Nodup → (∀ k ∈ a, k ∈ b) → a.length ≤ b.length
  | [], _, _, _ => Nat.zero_le _
  | x :: r, b, h1, h2 => by
    have hx : x ∈ b := h2 x (by simp)
    obtain ⟨n1, n2⟩ := List.nodup_cons.mp h1
    have := nodup_leN (b := b.erase x) n2 fun k hk => by
      have e : k ≠ x := fun z => n1 (by rw [← z]; exact hk)
      exact (List.mem_erase_of_ne e).mpr (h2 k (by simp [hk]))
    rw [List.length_erase_of_mem hx] at this
    have : 0 < b.length := List.length_pos_of_mem hx
    simp
    omega
theorem map_inj {f : Nat → Nat} : ∀ {l : List Nat} {x y : Nat}, (l.map f).Nodup → x ∈ l → y ∈ l → f x = f y → x = y
  | z :: r, x, y, h, hx, hy, e => by
    rw [List.map_cons, List.nodup_cons] at h
    rcases List.mem_cons.mp hx with h1 | h1
    · rcases List.mem_cons.mp hy with h2 | h2
      · rw [h1, h2]
      · exact (h.1 (List.mem_map.mpr ⟨y, h2, by rw [← e, h1]⟩)).elim
    · rcases List.mem_cons.mp hy with h2 | h2
      · exact (h.1 (List.mem_map.mpr ⟨x, h1, by rw [e, h2]⟩)).elim
      · exact map_inj h.2 h1 h2 e
/-- m names among m things: none twice -/
theorem nodup_of_cover {m : Nat} {L : List Nat} (hl : L.length = m) (h : ∀ v, v < m → v ∈ L) : L.Nodup := by
  have key : ∀ (k : Nat) (L : List Nat) (S : List Nat), L.length ≤ k → S.Nodup → (∀ v ∈ S, v ∈ L) → S.length = L.length → L.Nodup := by
    intro k
    induction k with
    | zero => intro L S h1 _ _ _; have : L = [] := List.length_eq_zero_iff.mp (by omega); rw [this]; exact List.nodup_nil
    | succ k ih =>
      intro L S h1 h2 h3 h4
      cases L with
      | nil => exact List.nodup_nil
      | cons x r =>
        have hx : x ∈ S := Classical.byContradiction fun z => by
          have : ∀ v ∈ S, v ∈ r := fun v hv => by
            rcases List.mem_cons.mp (h3 v hv) with rfl | q
            · exact absurd hv z
            · exact q
          have := nodup_leN h2 this
          simp at h4
          omega
        have e1 : (S.erase x).length = r.length := by rw [List.length_erase_of_mem hx]; simp at h4; omega
        have e2 : ∀ v ∈ S.erase x, v ∈ r := fun v hv => by
          have q := (List.Nodup.mem_erase_iff h2).mp hv
          rcases List.mem_cons.mp (h3 v q.2) with rfl | q2
          · exact absurd rfl q.1
          · exact q2
        have hr := ih r (S.erase x) (by simp at h1; omega) (h2.erase x) e2 e1
        refine List.nodup_cons.mpr ⟨fun hxr => ?_, hr⟩
        have q : ∀ v ∈ S, v ∈ r := fun v hv => by
          rcases List.mem_cons.mp (h3 v hv) with rfl | q
          · exact hxr
          · exact q
        have := nodup_leN h2 q
        simp at h4
        omega
  exact key L.length L (List.range m) (Nat.le_refl _) List.nodup_range (fun v hv => h v (List.mem_range.mp hv)) (by simp [hl])
section
variable {a n m : Nat} {cells : List Nat}
def rts (n : Nat) (cells : List Nat) : List Nat := 0 :: (crs n cells).map (· + 1)
theorem mem_rts {c : Nat} (hc : c < cells.length) : c ∈ rts n cells ↔ isRoot n cells c := by
  unfold rts crs isRoot
  simp only [List.mem_cons, List.mem_map, List.mem_filter, List.mem_range, decide_eq_true_eq]
  constructor
  · rintro (h | ⟨i, ⟨_, h⟩, rfl⟩)
    · exact .inl h
    · exact .inr h
  · rintro (h | h)
    · exact .inl h
    · by_cases h0 : c = 0
      · exact .inl h0
      · exact .inr ⟨c - 1, ⟨by omega, by rw [show c - 1 + 1 = c by omega]; exact h⟩, by omega⟩
theorem ca_mem {c : Nat} (hc : c < cells.length) : ca cells c ∈ cells := by
  have := ca_some hc
  exact List.mem_of_getElem? this
theorem Valid.unique (V : Valid a n m cells) {c d : Nat} (hc : c < cells.length) (hd : d < cells.length) (rc : isRoot n cells c) (rd : isRoot n cells d) (e : ca cells c = ca cells d) : c = d := by
  have L : ((rts n cells).map (ca cells)).Nodup := by
    refine nodup_of_cover (m := m) ?_ fun v hv => ?_
    · have := V.cr
      simp [rts]
      omega
    · obtain ⟨j, hj, e⟩ := List.getElem_of_mem (V.cov v hv)
      obtain ⟨r, k1, k2, k3⟩ := root_of n cells j
      refine List.mem_map.mpr ⟨r, (mem_rts (by omega)).mpr k2, ?_⟩
      rw [k3, ← e]
      have := ca_some hj
      rw [List.getElem?_eq_getElem hj] at this
      exact (Option.some.inj this).symm
  exact map_inj L ((mem_rts hc).mpr rc) ((mem_rts hd).mpr rd) e
end
end ST
namespace ST
open PySem PD
section
variable {a n m : Nat} {cells : List Nat}
/-! ### finite facts of the islands -/
def touch (n c i : Nat) : Bool := decide (i + 1 = c) || decide (inner n (i + 1) = c)
def other (n c i : Nat) : Nat := if i + 1 = c then inner n c else i + 1
theorem fin_nbr : ∀ a ∈ [3, 4], ∀ n ∈ [1, 2, 3, 4], ∀ c ∈ List.range (1 + a * n), ((List.range (a * n)).filter (touch n c)).map (other n c) = nbr a n c ∧ c ∉ nbr a n c ∧ (nbr a n c).Nodup := by decide +kernel
theorem fin_in : ∀ a ∈ [3, 4], ∀ n ∈ [1, 2, 3, 4], ∀ c ∈ List.range (1 + a * n), ∀ p ∈ nbr a n c, (inner n p = c ∧ p ≠ 0) ∨ (c ≠ 0 ∧ p = inner n c) := by decide +kernel
theorem Valid.a_mem (V : Valid a n m cells) : a ∈ [3, 4] := by have := V.ha; simp; omega
theorem Valid.n_mem (V : Valid a n m cells) : n ∈ [1, 2, 3, 4] := by have := V.hn; simp; omega
theorem Valid.c_mem (V : Valid a n m cells) {c : Nat} (hc : c < cells.length) : c ∈ List.range (1 + a * n) := by rw [List.mem_range, ← V.len]; exact hc
theorem Valid.nbr_eq (V : Valid a n m cells) {c : Nat} (hc : c < cells.length) : ((List.range (a * n)).filter (touch n c)).map (other n c) = nbr a n c ∧ c ∉ nbr a n c ∧ (nbr a n c).Nodup := fin_nbr a V.a_mem n V.n_mem c (V.c_mem hc)
theorem Valid.nbr_in (V : Valid a n m cells) {c p : Nat} (hc : c < cells.length) (hp : p ∈ nbr a n c) : (inner n p = c ∧ p ≠ 0) ∨ (c ≠ 0 ∧ p = inner n c) := fin_in a V.a_mem n V.n_mem c (V.c_mem hc) p hp
theorem Valid.nbr_lt (V : Valid a n m cells) {c : Nat} (hc : c < cells.length) : ∀ p ∈ nbr a n c, p < cells.length := by
  have ha := V.ha
  have hn := V.hn
  rw [V.len] at hc ⊢
  exact ST.nbr_lt (by omega) (by omega) hc
/-- of the places that a cell of another land touches, at most one is of the land L -/
theorem Valid.one (V : Valid a n m cells) {c L p q : Nat} (hc : c < cells.length) (hL : L ≠ ca cells c) (hp : p ∈ nbr a n c) (hq : q ∈ nbr a n c) (ep : ca cells p = L) (eq : ca cells q = L) : p = q := by
  have lp := V.nbr_lt hc p hp
  have lq := V.nbr_lt hc q hq
  have out : ∀ {x : Nat}, inner n x = c → ca cells x = L → isRoot n cells x := fun {x} h1 h2 => .inr (by rw [h1, h2]; exact hL)
  have mix : ∀ {x y : Nat}, x < cells.length → inner n x = c ∧ x ≠ 0 → ca cells x = L → c ≠ 0 ∧ y = inner n c → ca cells y = L → False := fun {x y} hx h1 h2 h3 h4 => by
    obtain ⟨r, k1, k2, k3⟩ := root_of n cells y
    have i1 := inner_lt (n := n) (by omega : 0 < c)
    have i2 := inner_lt (n := n) (by omega : 0 < x)
    have := V.unique hx (by omega : r < cells.length) (out h1.1 h2) k2 (by rw [k3, h2, h4])
    omega
  rcases V.nbr_in hc hp with h1 | h1
  · rcases V.nbr_in hc hq with h2 | h2
    · exact V.unique lp lq (out h1.1 ep) (out h2.1 eq) (by rw [ep, eq])
    · exact (mix lp h1 ep h2 eq).elim
  · rcases V.nbr_in hc hq with h2 | h2
    · exact (mix lq h2 eq h1 ep).elim
    · rw [h1.2, h2.2]
theorem count_one {f : Nat → Nat} {L : Nat} : ∀ {ps : List Nat}, ps.Nodup → (∀ p ∈ ps, ∀ q ∈ ps, f p = L → f q = L → p = q) → (ps.map f).count L ≤ 1
  | [], _, _ => by simp
  | x :: r, h, k => by
    obtain ⟨h1, h2⟩ := List.nodup_cons.mp h
    have ih := count_one h2 fun p hp q hq => k p (by simp [hp]) q (by simp [hq])
    rw [List.map_cons, List.count_cons]
    by_cases e : f x = L
    · have : (r.map f).count L = 0 := List.count_eq_zero.mpr fun z => by
        obtain ⟨y, hy, ey⟩ := List.mem_map.mp z
        have := k x (by simp) y (by simp [hy]) e ey
        rw [this] at h1
        exact h1 hy
      rw [this]
      split <;> omega
    · rw [if_neg (by simpa using e)]
      omega
theorem Valid.count_le (V : Valid a n m cells) {c L : Nat} (hc : c < cells.length) (hL : L ≠ ca cells c) : (near cells (nbr a n c)).count L ≤ 1 :=
  count_one (V.nbr_eq hc).2.2 fun p hp q hq => V.one hc hL hp hq
end
end ST
namespace ST
open PySem PD
section
variable {a n m : Nat} {cells : List Nat}
theorem ca_set {c l x : Nat} (hc : c < cells.length) : ca (cells.set c l) x = if x = c then l else ca cells x := by
  unfold ca
  rw [List.getD_eq_getElem?_getD, List.getD_eq_getElem?_getD]
  by_cases h : x = c
  · subst h
    rw [List.getElem?_set_self hc, if_pos rfl]
    rfl
  · rw [List.getElem?_set_ne (fun z => h z.symm), if_neg h]
theorem near_set {c l : Nat} {ps : List Nat} (hc : c < cells.length) (h : c ∉ ps) : near (cells.set c l) ps = near cells ps := by
  unfold near
  apply List.map_congr_left
  intro p hp
  rw [ca_set hc, if_neg (fun z => h (by rw [← z]; exact hp))]
theorem countP_ne (L : Nat) : ∀ xs : List Nat, xs.countP (fun x => decide (¬ x = L)) + xs.count L = xs.length
  | [] => rfl
  | x :: r => by
    have ih := countP_ne L r
    rw [List.countP_cons, List.count_cons, List.length_cons]
    by_cases h : x = L
    · simp [h] at ih ⊢; omega
    · simp [h] at ih ⊢; omega
theorem countP_split (p t : Nat → Bool) : ∀ xs : List Nat, xs.countP p = (xs.filter t).countP p + (xs.filter fun x => !t x).countP p
  | [] => rfl
  | x :: r => by
    have ih := countP_split p t r
    cases h : t x <;> simp [List.filter_cons, h, List.countP_cons, ih] <;> omega
theorem countP_congr_mem {p q : Nat → Bool} : ∀ {xs : List Nat}, (∀ x ∈ xs, p x = q x) → xs.countP p = xs.countP q
  | [], _ => rfl
  | x :: r, h => by
    rw [List.countP_cons, List.countP_cons, countP_congr_mem (fun y hy => h y (by simp [hy])), h x (by simp)]
/-- the edges of a map that part lands, those at c told apart -/
theorem Valid.edges (V : Valid a n m cells) {c : Nat} (hc : c < cells.length) (g : List Nat) (hg : g.length = cells.length) :
    (crs n g).length = (near g (nbr a n c)).countP (fun x => decide (¬ x = ca g c)) + ((List.range (a * n)).filter fun i => !touch n c i).countP (fun i => decide (¬ ca g (i + 1) = ca g (inner n (i + 1)))) := by
  unfold crs
  rw [hg, V.len, Nat.add_sub_cancel_left, ← List.countP_eq_length_filter, countP_split _ (touch n c)]
  congr 1
  rw [← (V.nbr_eq hc).1]
  unfold near
  rw [List.map_map, List.countP_map]
  apply countP_congr_mem
  intro i hi
  have ht := (List.mem_filter.mp hi).2
  have hi' := List.mem_range.mp (List.mem_filter.mp hi).1
  unfold touch at ht
  simp only [Bool.or_eq_true, decide_eq_true_eq] at ht
  refine decide_eq_decide.mpr ?_
  show ¬ ca g (i + 1) = ca g (inner n (i + 1)) ↔ ¬ ca g (other n c i) = ca g c
  unfold other
  by_cases h : i + 1 = c
  · rw [if_pos h, h]
    exact ⟨fun z w => z w.symm, fun z w => z w.symm⟩
  · rw [if_neg h]
    rcases ht with ht | ht
    · exact absurd ht h
    · rw [ht]
theorem ok_iff {ps : List Nat} {l c : Nat} (h : canMk ps cells l c = true) : l ≠ ca cells c ∧ l ∈ near cells ps ∧ (near cells ps).count (ca cells c) = 1 := by
  unfold canMk at h
  simp only [Bool.and_eq_true, decide_eq_true_eq] at h
  exact h
theorem Valid.step (V : Valid a n m cells) {l c : Nat} (hc : c < cells.length) (ok : canMk (nbr a n c) cells l c = true) : Valid a n m (cells.set c l) := by
  obtain ⟨h1, h2, h3⟩ := ok_iff ok
  obtain ⟨e1, e2, e3⟩ := V.nbr_eq hc
  have hl : l < m := by
    obtain ⟨p, hp, e⟩ := List.mem_map.mp h2
    rw [← e]
    exact V.lt _ (ca_mem (V.nbr_lt hc p hp))
  have one : (near cells (nbr a n c)).count l = 1 := Nat.le_antisymm (V.count_le hc h1) (List.count_pos_iff.mpr h2)
  refine ⟨V.ha, V.hn, V.hm, by rw [List.length_set]; exact V.len, fun v hv => ?_, fun v hv => ?_, ?_⟩
  · rcases List.mem_or_eq_of_mem_set hv with q | q
    · exact V.lt v q
    · rw [q]; exact hl
  · obtain ⟨j, hj, e⟩ := List.getElem_of_mem (V.cov v hv)
    have ej : ca cells j = v := by
      have := ca_some hj
      rw [List.getElem?_eq_getElem hj] at this
      rw [← e]
      exact (Option.some.inj this).symm
    have put : ∀ x, x < cells.length → x ≠ c → ca cells x = v → v ∈ cells.set c l := fun x hx hn hv => by
      have : ca (cells.set c l) x = v := by rw [ca_set hc, if_neg hn]; exact hv
      rw [← this]
      exact ca_mem (by rw [List.length_set]; exact hx)
    by_cases h : j = c
    · rw [h] at ej
      have : ca cells c ∈ near cells (nbr a n c) := List.count_pos_iff.mp (by omega)
      obtain ⟨p, hp, e⟩ := List.mem_map.mp this
      exact put p (V.nbr_lt hc p hp) (fun z => e2 (by rw [z] at hp; exact hp)) (by rw [e, ej])
    · exact put j hj h ej
  · have E1 := V.edges hc cells rfl
    have E2 := V.edges hc (cells.set c l) List.length_set
    rw [near_set hc e2, ca_set hc, if_pos rfl] at E2
    have c1 := countP_ne (ca cells c) (near cells (nbr a n c))
    have c2 := countP_ne l (near cells (nbr a n c))
    have same : ((List.range (a * n)).filter fun i => !touch n c i).countP (fun i => decide (¬ ca (cells.set c l) (i + 1) = ca (cells.set c l) (inner n (i + 1)))) = ((List.range (a * n)).filter fun i => !touch n c i).countP (fun i => decide (¬ ca cells (i + 1) = ca cells (inner n (i + 1)))) := by
      apply countP_congr_mem
      intro i hi
      have ht := (List.mem_filter.mp hi).2
      unfold touch at ht
      simp only [Bool.not_eq_true', Bool.or_eq_false_iff, decide_eq_false_iff_not] at ht
      rw [ca_set hc, ca_set hc, if_neg ht.1, if_neg ht.2]
    have := V.cr
    omega
/-- a taking can be taken back -/
theorem Valid.undo (V : Valid a n m cells) {l c : Nat} (hc : c < cells.length) (ok : canMk (nbr a n c) cells l c = true) : canMk (nbr a n c) (cells.set c l) (ca cells c) c = true ∧ (cells.set c l).set c (ca cells c) = cells := by
  obtain ⟨h1, h2, h3⟩ := ok_iff ok
  obtain ⟨e1, e2, e3⟩ := V.nbr_eq hc
  have one : (near cells (nbr a n c)).count l = 1 := Nat.le_antisymm (V.count_le hc h1) (List.count_pos_iff.mpr h2)
  constructor
  · unfold canMk
    rw [near_set hc e2, ca_set hc, if_pos rfl]
    simp only [Bool.and_eq_true, decide_eq_true_eq]
    exact ⟨fun z => h1 z.symm, List.count_pos_iff.mp (by omega), one⟩
  · rw [List.set_set]
    apply List.ext_getElem?
    intro i
    by_cases h : c = i
    · subst h
      rw [List.getElem?_set_self hc, ca_some hc]
    · rw [List.getElem?_set_ne h]
end
end ST
namespace ST
open PySem PD
/-- what the law's row holds -/
def RowI (ns : List Int) (r : List PyData) : Prop := ∃ p s q : Int, 0 ≤ p ∧ r = [.list (ns.map .int), .int p, .int s, .int q]
theorem emod_nat {x : Int} {many : Nat} (h : 0 < many) : ∃ v : Nat, x % (many : Int) = (v : Int) ∧ v < many := by
  have h1 := Int.emod_nonneg x (show (many : Int) ≠ 0 by omega)
  have h2 := Int.emod_lt_of_pos x (show 0 < (many : Int) by omega)
  exact ⟨(x % (many : Int)).toNat, by omega, by omega⟩
theorem fMul_r (i : Int) : fMul (.int i) (.int 48271) = some (.int (i * 48271)) := by
  unfold fMul
  exact if_pos (.inr (.inl (by decide)))
theorem fPow18 : fPow (.int 10) (.int 18) = some (.int 1000000000000000000) := by rfl
theorem taken {ns : List Int} {r : List PyData} {many : Nat} (h : RowI ns r) (h1 : 0 < many) (h2 : many < 1000) : ∃ v r', p__law_taken r [iN many] = some (iN v, r') ∧ v < many ∧ RowI ns r' := by
  obtain ⟨p, s, q, hp, rfl⟩ := h
  have d1 : ∀ x : Int, fDiv (.int x) (iN many) = some (.int (x / (many : Int))) := fun x => fDiv_small x _ (by omega)
  have d7 : ∀ x : Int, fDiv (.int x) (.int 7) = some (.int (x / 7)) := fun x => fDiv_small x 7 (by omega)
  have m1 : ∀ x : Int, fMod (.int x) (iN many) = some (.int (x % (many : Int))) := fun x => fMod_pos x _ (by omega)
  have m2 : ∀ x : Int, fMod (.int x) (.int 2147483647) = some (.int (x % 2147483647)) := fun x => fMod_pos x _ (by omega)
  have i0 : ∀ a b c d : PyData, fIx (.list [a, b, c, d]) (.int 0) = some a := fun _ _ _ _ => rfl
  have i1 : ∀ a b c d : PyData, fIx (.list [a, b, c, d]) (.int 1) = some b := fun _ _ _ _ => rfl
  have i2 : ∀ a b c d : PyData, fIx (.list [a, b, c, d]) (.int 2) = some c := fun _ _ _ _ => rfl
  have i3 : ∀ a b c d : PyData, fIx (.list [a, b, c, d]) (.int 3) = some d := fun _ _ _ _ => rfl
  have x1 : L2.ixN 4 1 = some 1 := rfl
  have x2 : L2.ixN 4 2 = some 2 := rfl
  have x3 : L2.ixN 4 3 = some 3 := rfl
  by_cases hq : 0 < q
  · obtain ⟨v, e, hv⟩ := emod_nat (x := q) h1
    refine ⟨v, [.list (ns.map .int), .int p, .int s, .int (q / (many : Int))], ?_, hv, p, s, _, hp, rfl⟩
    unfold p__law_taken g__law_taken
    simp [bodyP, bodyI, startE, startI, sSeq, sRet, sAsg, sExp, sIfS, sNx, sV, sB, sC, PD.s2, toT, sTr, truth, bne_dec, sChain, sAnd, sOr, sNot, sIf, tAnd', tOr', tNot', sNil, sCons, sCall, allD, sN, allR, PD.res, sTup, sLst, sFr, gN, gT, gsNil, gsCons, sIsi, tyName, isSub, sOrE, sM1, sM1T, ST.fAdd_int, fSub, fLe, fLt, fGt, fGe, eq_int, ne_int, cont?, setCont, List.replicate, fLen, sOwn, sApp, hq, i0, i1, i2, i3, x1, x2, x3, fInt, m1, d1, e, sSetIx]
  · by_cases hl : (ns.length : Int) < p + 1
    · obtain ⟨v, e, hv⟩ := emod_nat (x := ((s * 48271 + 11) % 2147483647) / 7) h1
      refine ⟨v, [.list (ns.map .int), .int (p + 1), .int ((s * 48271 + 11) % 2147483647), .int q], ?_, hv, _, _, _, by omega, rfl⟩
      unfold p__law_taken g__law_taken
      simp [bodyP, bodyI, startE, startI, sSeq, sRet, sAsg, sExp, sIfS, sNx, sV, sB, sC, PD.s2, toT, sTr, truth, bne_dec, sChain, sAnd, sOr, sNot, sIf, tAnd', tOr', tNot', sNil, sCons, sCall, allD, sN, allR, PD.res, sTup, sLst, sFr, gN, gT, gsNil, gsCons, sIsi, tyName, isSub, sOrE, sM1, sM1T, ST.fAdd_int, fSub, fLe, fLt, fGt, fGe, eq_int, ne_int, cont?, setCont, List.replicate, fLen, sOwn, sApp, hq, hl, i0, i1, i2, i3, x1, x2, x3, fInt, m1, m2, d1, d7, fMul_r, e, sSetIx]
    · obtain ⟨k, hk⟩ : ∃ k : Nat, p = (k : Int) := ⟨p.toNat, by omega⟩
      have hk2 : k < ns.length := by omega
      obtain ⟨z, hz⟩ : ∃ z, ns[k]? = some z := ⟨_, List.getElem?_eq_getElem hk2⟩
      have ez := (ix_map (f := PyData.int) hz).1
      obtain ⟨v, e, hv⟩ := emod_nat (x := z) h1
      subst hk
      by_cases h18 : (1000000000000000000 : Int) ≤ z
      · refine ⟨v, [.list (ns.map .int), .int ((k : Int) + 1), .int ((s * 48271 + z + 11) % 2147483647), .int (z / (many : Int))], ?_, hv, _, _, _, by omega, rfl⟩
        unfold p__law_taken g__law_taken
        simp [bodyP, bodyI, startE, startI, sSeq, sRet, sAsg, sExp, sIfS, sNx, sV, sB, sC, PD.s2, toT, sTr, truth, bne_dec, sChain, sAnd, sOr, sNot, sIf, tAnd', tOr', tNot', sNil, sCons, sCall, allD, sN, allR, PD.res, sTup, sLst, sFr, gN, gT, gsNil, gsCons, sIsi, tyName, isSub, sOrE, sM1, sM1T, ST.fAdd_int, fSub, fLe, fLt, fGt, fGe, eq_int, ne_int, cont?, setCont, List.replicate, fLen, sOwn, sApp, hq, hl, i0, i1, i2, i3, x1, x2, x3, fInt, m1, m2, d1, d7, fMul_r, e, sSetIx, ez, fPow18, h18]
      · refine ⟨v, [.list (ns.map .int), .int ((k : Int) + 1), .int ((s * 48271 + z + 11) % 2147483647), .int q], ?_, hv, _, _, _, by omega, rfl⟩
        unfold p__law_taken g__law_taken
        simp [bodyP, bodyI, startE, startI, sSeq, sRet, sAsg, sExp, sIfS, sNx, sV, sB, sC, PD.s2, toT, sTr, truth, bne_dec, sChain, sAnd, sOr, sNot, sIf, tAnd', tOr', tNot', sNil, sCons, sCall, allD, sN, allR, PD.res, sTup, sLst, sFr, gN, gT, gsNil, gsCons, sIsi, tyName, isSub, sOrE, sM1, sM1T, ST.fAdd_int, fSub, fLe, fLt, fGt, fGe, eq_int, ne_int, cont?, setCont, List.replicate, fLen, sOwn, sApp, hq, hl, i0, i1, i2, i3, x1, x2, x3, fInt, m1, m2, d1, d7, fMul_r, e, sSetIx, ez, fPow18, h18]
end ST
namespace ST
open PySem PD
theorem pick {α : Type} {ns : List Int} {r : List PyData} {xs : List α} {f : α → PyData} (h : RowI ns r) (h1 : 0 < xs.length) (h2 : xs.length < 1000) : ∃ x r', p__law_pick r [.list (xs.map f)] = some (f x, r') ∧ x ∈ xs ∧ RowI ns r' := by
  obtain ⟨v, r', e, hv, hr⟩ := taken h h1 h2
  obtain ⟨x, hx⟩ : ∃ x, xs[v]? = some x := ⟨_, List.getElem?_eq_getElem hv⟩
  refine ⟨x, r', ?_, List.mem_of_getElem? hx, hr⟩
  have q := (ix_map (f := f) hx).1
  obtain ⟨L, hL⟩ : ∃ L, L = xs.map f := ⟨_, rfl⟩
  have hl : L.length = xs.length := by rw [hL, List.length_map]
  rw [← hL] at q ⊢
  unfold p__law_pick g__law_pick
  simp [bodyP, bodyI, startE, startI, sSeq, sRet, sAsg, sExp, sIfS, sNx, sV, sB, sC, PD.s2, toT, sTr, truth, bne_dec, sChain, sAnd, sOr, sNot, sIf, tAnd', tOr', tNot', sNil, sCons, sCall, allD, sN, allR, PD.res, sTup, sLst, sFr, gN, gT, gsNil, gsCons, sIsi, tyName, isSub, sOrE, sM1, sM1T, ST.fAdd_int, fSub, fLe, fLt, fGt, fGe, eq_int, ne_int, cont?, setCont, List.replicate, fLen, sOwn, sApp, sCallI, hl, e, q]
theorem behind {a : Nat} {cells : List Nat} {t : Nat × Nat} (hc : t.2 < cells.length) (hl : cells.length < 1000) : p__law_behind [ch a cells, tkD t] = some (ch a (step cells t)) := by
  obtain ⟨T, hT⟩ : ∃ T, T = (cells.map iN).take t.2 := ⟨_, rfl⟩
  obtain ⟨U, hU⟩ : ∃ U, U = (cells.map iN).drop (t.2 + 1) := ⟨_, rfl⟩
  have e1 : cutD (cells.map iN) none (some (t.2 : Int)) = T := by rw [hT]; exact cut_hi (cells.map iN) t.2 (by simp; omega)
  have e2 : cutD (cells.map iN) (some ((t.2 : Int) + 1)) none = U := by rw [hU]; exact cut_lo (cells.map iN) (t.2 + 1) (by simp; omega)
  have e3 : (T ++ [iN t.1]) ++ U = (cells.set t.2 t.1).map iN := by
    rw [hT, hU, List.map_set, List.set_eq_take_append_cons_drop, if_pos (by simp; omega), List.append_assoc]
    rfl
  have l1 : T.length < 1000 := by rw [hT]; simp; omega
  have l2 : U.length < 1000 := by rw [hU]; simp; omega
  have h1 : fAdd (.tuple T) (.tuple [iN t.1]) = some (.tuple (T ++ [iN t.1])) := fAdd_tup (by simp; omega) rfl
  have h2 : fAdd (.tuple (T ++ [iN t.1])) (.tuple U) = some (tN (step cells t)) := fAdd_tup (by simp; omega) e3
  unfold p__law_behind g__law_behind
  simp [bodyP, bodyI, startE, startI, sSeq, sRet, sAsg, sExp, sIfS, sNx, sV, sB, sC, PD.s2, toT, sTr, truth, bne_dec, sChain, sAnd, sOr, sNot, sIf, tAnd', tOr', tNot', sNil, sCons, sCall, allD, sN, allR, PD.res, sTup, sLst, sFr, gN, gT, gsNil, gsCons, sIsi, tyName, isSub, sOrE, sM1, sM1T, ST.fAdd_int, fSub, fLe, fLt, fGt, fGe, eq_int, ne_int, cont?, setCont, List.replicate, fLen, sOwn, sApp, sSl, fSl, pNone, pSome, e1, e2, h1, h2, ix0, ix1]
end ST
namespace ST
open PySem PD
abbrev pD (p : Nat × Nat) : PyData := .tuple [iN p.1, iN p.2]
def En (r : List PyData) (a n m : Nat) (s4 s5 s6 s7 s8 s9 s10 s11 s12 s13 s14 : Sl) : Ev := [.io r, .dat (iN a), .dat (iN n), .dat (iN m), s4, s5, s6, s7, s8, s9, s10, s11, s12, s13, s14, .un, .un]
def prs (a n : Nat) : List (Nat × Nat) := (List.range a).flatMap fun i => (List.range n).map fun j => (i, j)
theorem fAdd_list {xs ys zs : List PyData} (h : xs.length + ys.length ≤ 1000000) (e : xs ++ ys = zs) : fAdd (.list xs) (.list ys) = some (.list zs) := by
  rw [← e]
  exact if_pos h
theorem prs_succ (i n : Nat) : prs (i + 1) n = prs i n ++ (List.range n).map fun j => (i, j) := by
  unfold prs
  rw [List.range_succ, List.flatMap_append]
  simp
theorem prs_len (i n : Nat) : (prs i n).length = i * n := by
  induction i with
  | zero => simp [prs]
  | succ i ih => rw [prs_succ, List.length_append, ih]; simp [Nat.add_mul]
theorem ph1 {r : List PyData} {a n m : Nat} (ha : a ≤ 4) (hn : n ≤ 4) : ∃ x6, l1__law_map (En r a n m (.dat (.list [])) (.dat (.list [])) .un .un .un .un .un .un .un .un .un) = some (.nx, En r a n m (.dat (.list ((prs a n).map pD))) (.dat (.list [])) x6 .un .un .un .un .un .un .un .un) ∧ plainSl x6 = true := by
  have : ∃ ρ', l1__law_map (En r a n m (.dat (.list [])) (.dat (.list [])) .un .un .un .un .un .un .un .un .un) = some (.nx, ρ') ∧ ∃ x6, ρ' = En r a n m (.dat (.list ((prs ((List.range a).map iN).length n).map pD))) (.dat (.list [])) x6 .un .un .un .un .un .un .un .un ∧ plainSl x6 = true := by
    refine sFor_inv (items := (List.range a).map iN) (ρ1 := En r a n m (.dat (.list [])) (.dat (.list [])) .un .un .un .un .un .un .un .un .un) (fun i ρ => ∃ x6, ρ = En r a n m (.dat (.list ((prs i n).map pD))) (.dat (.list [])) x6 .un .un .un .un .un .un .un .un ∧ plainSl x6 = true) (sRg1_small (by simp [bodyP, bodyI, startE, startI, sSeq, sRet, sAsg, sExp, sIfS, sNx, sV, sB, sC, PD.s2, toT, sTr, truth, bne_dec, sChain, sAnd, sOr, sNot, sIf, tAnd', tOr', tNot', sNil, sCons, sCall, allD, sN, allR, PD.res, sTup, sLst, sFr, gN, gT, gsNil, gsCons, sIsi, tyName, isSub, sOrE, sM1, sM1T, ST.fAdd_int, fSub, fLe, fLt, fGt, fGe, eq_int, ne_int, cont?, setCont, List.replicate, fLen, sOwn, sApp, En]) (by omega)) ⟨_, rfl, rfl⟩ ?_
    rintro i d ρ hd ⟨x6, rfl, h6⟩
    rw [List.getElem?_map, Option.map_eq_some_iff] at hd
    obtain ⟨i', h1, rfl⟩ := hd
    obtain ⟨hi, h2⟩ := List.getElem?_eq_some_iff.mp h1
    rw [List.getElem_range] at h2
    rw [List.length_range] at hi
    subst h2
    obtain ⟨L, hL⟩ : ∃ L, L = (prs i n).map pD := ⟨_, rfl⟩
    have hl : L.length ≤ 16 := by
      rw [hL, List.length_map, prs_len]
      exact Nat.mul_le_mul (by omega : i ≤ 4) hn
    have e : c1__law_map (En r a n m (.dat (.list L)) (.dat (.list [])) (.dat (iN i)) .un .un .un .un .un .un .un .un) = some ((List.range n).map fun j => pD (i, j), En r a n m (.dat (.list L)) (.dat (.list [])) (.dat (iN i)) .un .un .un .un .un .un .un .un) := by
      refine sComp_all (List.range n) iN _ (sRg1_small (by simp [bodyP, bodyI, startE, startI, sSeq, sRet, sAsg, sExp, sIfS, sNx, sV, sB, sC, PD.s2, toT, sTr, truth, bne_dec, sChain, sAnd, sOr, sNot, sIf, tAnd', tOr', tNot', sNil, sCons, sCall, allD, sN, allR, PD.res, sTup, sLst, sFr, gN, gT, gsNil, gsCons, sIsi, tyName, isSub, sOrE, sM1, sM1T, ST.fAdd_int, fSub, fLe, fLt, fGt, fGe, eq_int, ne_int, cont?, setCont, List.replicate, fLen, sOwn, sApp, En]) (by omega)) rfl (by simp; omega) rfl fun k hk => ⟨_, rfl, rfl, ?_⟩
      simp [bodyP, bodyI, startE, startI, sSeq, sRet, sAsg, sExp, sIfS, sNx, sV, sB, sC, PD.s2, toT, sTr, truth, bne_dec, sChain, sAnd, sOr, sNot, sIf, tAnd', tOr', tNot', sNil, sCons, sCall, allD, sN, allR, PD.res, sTup, sLst, sFr, gN, gT, gsNil, gsCons, sIsi, tyName, isSub, sOrE, sM1, sM1T, ST.fAdd_int, fSub, fLe, fLt, fGt, fGe, eq_int, ne_int, cont?, setCont, List.replicate, fLen, sOwn, sApp, En, wipeE]
    have q : fAdd (.list L) (.list ((List.range n).map fun j => pD (i, j))) = some (.list ((prs (i + 1) n).map pD)) := fAdd_list (by simp; omega) (by rw [hL, prs_succ, List.map_append, List.map_map]; rfl)
    refine ⟨En r a n m (.dat (.list L)) (.dat (.list [])) (.dat (iN i)) .un .un .un .un .un .un .un .un, .nx, En r a n m (.dat (.list ((prs (i + 1) n).map pD))) (.dat (.list [])) (.dat (iN i)) .un .un .un .un .un .un .un .un, by rw [hL]; rfl, ?_, .inl rfl, .dat (iN i), rfl, rfl⟩
    unfold En at e ⊢
    unfold b1__law_map
    simp [bodyP, bodyI, startE, startI, sSeq, sRet, sAsg, sExp, sIfS, sNx, sV, sB, sC, PD.s2, toT, sTr, truth, bne_dec, sChain, sAnd, sOr, sNot, sIf, tAnd', tOr', tNot', sNil, sCons, sCall, allD, sN, allR, PD.res, sTup, sLst, sFr, gN, gT, gsNil, gsCons, sIsi, tyName, isSub, sOrE, sM1, sM1T, ST.fAdd_int, fSub, fLe, fLt, fGt, fGe, eq_int, ne_int, cont?, setCont, List.replicate, fLen, sOwn, sApp, e, q]
  obtain ⟨ρ', e, x6, rfl, h6⟩ := this
  refine ⟨x6, ?_, h6⟩
  rw [e]
  simp
end ST
namespace ST
open PySem PD
/-- i things chosen one after another, and what is left -/
structure Cut {α : Type} [DecidableEq α] (P : List α) (i : Nat) (cs left : List α) : Prop where
  nd : cs.Nodup
  len : cs.length = i
  sub : ∀ p ∈ cs, p ∈ P
  ndl : left.Nodup
  lenl : left.length + i = P.length
  subl : ∀ p ∈ left, p ∈ P ∧ p ∉ cs
theorem Cut.zero {α : Type} [DecidableEq α] {P : List α} (h : P.Nodup) : Cut P 0 [] P := ⟨List.nodup_nil, rfl, fun _ h => (by cases h), h, rfl, fun p hp => ⟨hp, by simp⟩⟩
theorem Cut.next {α : Type} [DecidableEq α] {P : List α} {i : Nat} {cs left : List α} {x : α} (C : Cut P i cs left) (hx : x ∈ left) : Cut P (i + 1) (cs ++ [x]) (left.filter fun y => !decide (y = x)) := by
  have e : left.filter (fun y => !decide (y = x)) = left.erase x := by
    rw [C.ndl.erase_eq_filter]
    apply List.filter_congr
    intro y _
    by_cases h : y = x <;> simp [h]
  rw [e]
  have hl := List.length_erase_of_mem hx
  have hp : 0 < left.length := List.length_pos_of_mem hx
  refine ⟨?_, by simp [C.len], fun p hp => ?_, C.ndl.erase x, ?_, fun p hp => ?_⟩
  · rw [List.nodup_append]
    refine ⟨C.nd, by simp, fun a ha b hb => ?_⟩
    simp at hb
    rw [hb]
    exact fun z => (C.subl x hx).2 (by rw [← z]; exact ha)
  · rcases List.mem_append.mp hp with q | q
    · exact C.sub p q
    · simp at q
      rw [q]
      exact (C.subl x hx).1
  · have := C.lenl
    omega
  · have q := (List.Nodup.mem_erase_iff C.ndl).mp hp
    refine ⟨(C.subl p q.2).1, fun z => ?_⟩
    rcases List.mem_append.mp z with w | w
    · exact (C.subl p q.2).2 w
    · simp at w
      exact q.1 w
theorem prs_nodup (a n : Nat) : (prs a n).Nodup := by
  induction a with
  | zero => simp [prs]
  | succ i ih =>
    rw [prs_succ, List.nodup_append]
    refine ⟨ih, ?_, fun x hx y hy => ?_⟩
    · exact List.Pairwise.map _ (fun x y h z => h (by cases z; rfl)) (List.nodup_range (n := n))
    · unfold prs at hx
      obtain ⟨i', hi', hx⟩ := List.mem_flatMap.mp hx
      obtain ⟨j', _, rfl⟩ := List.mem_map.mp hx
      obtain ⟨j, _, rfl⟩ := List.mem_map.mp hy
      intro z
      cases z
      exact absurd (List.mem_range.mp hi') (by omega)
theorem ne_pD (p q : Nat × Nat) : fNe (pD p) (pD q) = some (.bool (!decide (p = q))) := ne_toD (α := Nat × Nat) p q
theorem sRg1_int {f : SA} {ρ ρ1 : Ev} {n : Nat} {z : Int} (e : f ρ = some ([.d (.int z)], ρ1)) (hz : z = (n : Int)) (h : n < 1000000) : sRg1 f ρ = some ((List.range n).map iN, ρ1) := sRg1_small (by rw [e, hz]) h
theorem ph2 {ns : List Int} {r : List PyData} {a n m : Nat} {x6 : Sl} (ha : 3 ≤ a ∧ a ≤ 4) (hn : 1 ≤ n ∧ n ≤ 4) (hm : 2 ≤ m ∧ m ≤ n + 1) (hr : RowI ns r) :
    ∃ r' cs left x7 x8, l2__law_map (En r a n m (.dat (.list ((prs a n).map pD))) (.dat (.list [])) x6 .un .un .un .un .un .un .un .un) = some (.nx, En r' a n m (.dat (.list (left.map pD))) (.dat (.list (cs.map pD))) x6 x7 x8 .un .un .un .un .un .un) ∧ RowI ns r' ∧ Cut (prs a n) (m - 1) cs left ∧ plainSl x7 = true ∧ plainSl x8 = true := by
  have hz : ((m : Int) - 1) = ((m - 1 : Nat) : Int) := by omega
  have : ∃ ρ', l2__law_map (En r a n m (.dat (.list ((prs a n).map pD))) (.dat (.list [])) x6 .un .un .un .un .un .un .un .un) = some (.nx, ρ') ∧ ∃ r' cs left x7 x8, ρ' = En r' a n m (.dat (.list (left.map pD))) (.dat (.list (cs.map pD))) x6 x7 x8 .un .un .un .un .un .un ∧ RowI ns r' ∧ Cut (prs a n) ((List.range (m - 1)).map iN).length cs left ∧ plainSl x7 = true ∧ plainSl x8 = true := by
    refine sFor_inv (items := (List.range (m - 1)).map iN) (ρ1 := En r a n m (.dat (.list ((prs a n).map pD))) (.dat (.list [])) x6 .un .un .un .un .un .un .un .un) (fun i ρ => ∃ r' cs left x7 x8, ρ = En r' a n m (.dat (.list (left.map pD))) (.dat (.list (cs.map pD))) x6 x7 x8 .un .un .un .un .un .un ∧ RowI ns r' ∧ Cut (prs a n) i cs left ∧ plainSl x7 = true ∧ plainSl x8 = true) (sRg1_int (z := (m : Int) - 1) (by simp [bodyP, bodyI, startE, startI, sSeq, sRet, sAsg, sExp, sIfS, sNx, sV, sB, sC, PD.s2, toT, sTr, truth, bne_dec, sChain, sAnd, sOr, sNot, sIf, tAnd', tOr', tNot', sNil, sCons, sCall, allD, sN, allR, PD.res, sTup, sLst, sFr, gN, gT, gsNil, gsCons, sIsi, tyName, isSub, sOrE, sM1, sM1T, ST.fAdd_int, fSub, fLe, fLt, fGt, fGe, eq_int, ne_int, cont?, setCont, List.replicate, fLen, sOwn, sApp, En]) hz (by omega)) ⟨r, [], prs a n, .un, .un, rfl, hr, Cut.zero (prs_nodup a n), rfl, rfl⟩ ?_
    rintro i d ρ hd ⟨r1, cs, left, x7, x8, rfl, hr1, C, h7, h8⟩
    rw [List.getElem?_map, Option.map_eq_some_iff] at hd
    obtain ⟨i', h1, rfl⟩ := hd
    obtain ⟨hi, h2⟩ := List.getElem?_eq_some_iff.mp h1
    rw [List.getElem_range] at h2
    rw [List.length_range] at hi
    subst h2
    have hP : (prs a n).length = a * n := prs_len a n
    have han : a * n ≤ 4 * 4 := Nat.mul_le_mul ha.2 hn.2
    have han2 : 3 * n ≤ a * n := Nat.mul_le_mul_right n ha.1
    have hll := C.lenl
    obtain ⟨one, r2, e1, hx, hr2⟩ := pick (f := pD) hr1 (by omega : 0 < left.length) (by omega)
    have C2 := C.next hx
    have e2 : c2__law_map (En r2 a n m (.dat (.list (left.map pD))) (.dat (.list (cs.map pD))) x6 (.dat (iN i)) (.dat (pD one)) .un .un .un .un .un .un) = some ((left.filter fun y => !decide (y = one)).map pD, En r2 a n m (.dat (.list (left.map pD))) (.dat (.list (cs.map pD))) x6 (.dat (iN i)) (.dat (pD one)) .un .un .un .un .un .un) := by
      refine sComp_on left pD pD _ (by simp [bodyP, bodyI, startE, startI, sSeq, sRet, sAsg, sExp, sIfS, sNx, sV, sB, sC, PD.s2, toT, sTr, truth, bne_dec, sChain, sAnd, sOr, sNot, sIf, tAnd', tOr', tNot', sNil, sCons, sCall, allD, sN, allR, PD.res, sTup, sLst, sFr, gN, gT, gsNil, gsCons, sIsi, tyName, isSub, sOrE, sM1, sM1T, ST.fAdd_int, fSub, fLe, fLt, fGt, fGe, eq_int, ne_int, cont?, setCont, List.replicate, fLen, sOwn, sApp, sSq, En]) rfl (by omega) rfl fun y hy => ⟨_, rfl, rfl, ?_, ?_⟩
      · simp [bodyP, bodyI, startE, startI, sSeq, sRet, sAsg, sExp, sIfS, sNx, sV, sB, sC, PD.s2, toT, sTr, truth, bne_dec, sChain, sAnd, sOr, sNot, sIf, tAnd', tOr', tNot', sNil, sCons, sCall, allD, sN, allR, PD.res, sTup, sLst, sFr, gN, gT, gsNil, gsCons, sIsi, tyName, isSub, sOrE, sM1, sM1T, ST.fAdd_int, fSub, fLe, fLt, fGt, fGe, eq_int, ne_int, cont?, setCont, List.replicate, fLen, sOwn, sApp, En, wipeE, ne_pD]
      · simp [bodyP, bodyI, startE, startI, sSeq, sRet, sAsg, sExp, sIfS, sNx, sV, sB, sC, PD.s2, toT, sTr, truth, bne_dec, sChain, sAnd, sOr, sNot, sIf, tAnd', tOr', tNot', sNil, sCons, sCall, allD, sN, allR, PD.res, sTup, sLst, sFr, gN, gT, gsNil, gsCons, sIsi, tyName, isSub, sOrE, sM1, sM1T, ST.fAdd_int, fSub, fLe, fLt, fGt, fGe, eq_int, ne_int, cont?, setCont, List.replicate, fLen, sOwn, sApp, En, wipeE]
    have q : fAdd (.list (cs.map pD)) (.list [pD one]) = some (.list ((cs ++ [one]).map pD)) := fAdd_list (by have := C.len; simp; omega) (by simp)
    refine ⟨En r1 a n m (.dat (.list (left.map pD))) (.dat (.list (cs.map pD))) x6 (.dat (iN i)) x8 .un .un .un .un .un .un, .nx, En r2 a n m (.dat (.list ((left.filter fun y => !decide (y = one)).map pD))) (.dat (.list ((cs ++ [one]).map pD))) x6 (.dat (iN i)) (.dat (pD one)) .un .un .un .un .un .un, rfl, ?_, .inl rfl, r2, _, _, _, _, rfl, hr2, C2, rfl, rfl⟩
    obtain ⟨L, hL⟩ : ∃ L, L = left.map pD := ⟨_, rfl⟩
    obtain ⟨M, hM⟩ : ∃ M, M = (left.filter fun y => !decide (y = one)).map pD := ⟨_, rfl⟩
    obtain ⟨S, hS⟩ : ∃ S, S = cs.map pD := ⟨_, rfl⟩
    obtain ⟨S', hS'⟩ : ∃ S', S' = (cs ++ [one]).map pD := ⟨_, rfl⟩
    rw [← hM, ← hL, ← hS] at e2
    rw [← hS, ← hS'] at q
    rw [← hL] at e1
    rw [← hM, ← hL, ← hS, ← hS']
    unfold En at e2 ⊢
    unfold b2__law_map
    simp [bodyP, bodyI, startE, startI, sSeq, sRet, sAsg, sExp, sIfS, sNx, sV, sB, sC, PD.s2, toT, sTr, truth, bne_dec, sChain, sAnd, sOr, sNot, sIf, tAnd', tOr', tNot', sNil, sCons, sCall, allD, sN, allR, PD.res, sTup, sLst, sFr, gN, gT, gsNil, gsCons, sIsi, tyName, isSub, sOrE, sM1, sM1T, ST.fAdd_int, fSub, fLe, fLt, fGt, fGe, eq_int, ne_int, cont?, setCont, List.replicate, fLen, sOwn, sApp, sCallI, e1, e2, q, sPar, putDs]
  obtain ⟨ρ', e, r', cs, left, x7, x8, rfl, h1, h2, h3, h4⟩ := this
  refine ⟨r', cs, left, x7, x8, e, h1, ?_, h3, h4⟩
  simpa using h2
end ST
namespace ST
open PySem PD
theorem ph3 {ns : List Int} {r : List PyData} {a n m : Nat} {x4 x5 x6 x7 x8 : Sl} (hm : 2 ≤ m ∧ m ≤ 5) (hr : RowI ns r) (h7 : plainSl x7 = true) (h8 : plainSl x8 = true) :
    ∃ r' ord left y7 y8, l3__law_map (En r a n m x4 x5 x6 x7 x8 (.dat (lN (List.range m))) (.dat (.list [])) .un .un .un .un) = some (.nx, En r' a n m x4 x5 x6 y7 y8 (.dat (lN left)) (.dat (lN ord)) .un .un .un .un) ∧ RowI ns r' ∧ Cut (List.range m) m ord left ∧ plainSl y7 = true ∧ plainSl y8 = true := by
  have : ∃ ρ', l3__law_map (En r a n m x4 x5 x6 x7 x8 (.dat (lN (List.range m))) (.dat (.list [])) .un .un .un .un) = some (.nx, ρ') ∧ ∃ r' ord left y7 y8, ρ' = En r' a n m x4 x5 x6 y7 y8 (.dat (lN left)) (.dat (lN ord)) .un .un .un .un ∧ RowI ns r' ∧ Cut (List.range m) ((List.range m).map iN).length ord left ∧ plainSl y7 = true ∧ plainSl y8 = true := by
    refine sFor_inv (items := (List.range m).map iN) (ρ1 := En r a n m x4 x5 x6 x7 x8 (.dat (lN (List.range m))) (.dat (.list [])) .un .un .un .un) (fun i ρ => ∃ r' ord left y7 y8, ρ = En r' a n m x4 x5 x6 y7 y8 (.dat (lN left)) (.dat (lN ord)) .un .un .un .un ∧ RowI ns r' ∧ Cut (List.range m) i ord left ∧ plainSl y7 = true ∧ plainSl y8 = true) (sRg1_small (by simp [bodyP, bodyI, startE, startI, sSeq, sRet, sAsg, sExp, sIfS, sNx, sV, sB, sC, PD.s2, toT, sTr, truth, bne_dec, sChain, sAnd, sOr, sNot, sIf, tAnd', tOr', tNot', sNil, sCons, sCall, allD, sN, allR, PD.res, sTup, sLst, sFr, gN, gT, gsNil, gsCons, sIsi, tyName, isSub, sOrE, sM1, sM1T, ST.fAdd_int, fSub, fLe, fLt, fGt, fGe, eq_int, ne_int, cont?, setCont, List.replicate, fLen, sOwn, sApp, En]) (by omega)) ⟨r, [], List.range m, x7, x8, rfl, hr, Cut.zero List.nodup_range, h7, h8⟩ ?_
    rintro i d ρ hd ⟨r1, ord, left, y7, y8, rfl, hr1, C, k7, k8⟩
    rw [List.getElem?_map, Option.map_eq_some_iff] at hd
    obtain ⟨i', h1, rfl⟩ := hd
    obtain ⟨hi, h2⟩ := List.getElem?_eq_some_iff.mp h1
    rw [List.getElem_range] at h2
    rw [List.length_range] at hi
    subst h2
    have hll := C.lenl
    rw [List.length_range] at hll
    obtain ⟨one, r2, e1, hx, hr2⟩ := pick (f := iN) hr1 (by omega : 0 < left.length) (by omega)
    have C2 := C.next hx
    have e2 : c3__law_map (En r2 a n m x4 x5 x6 (.dat (iN i)) (.dat (iN one)) (.dat (lN left)) (.dat (lN ord)) .un .un .un .un) = some ((left.filter fun y => !decide (y = one)).map iN, En r2 a n m x4 x5 x6 (.dat (iN i)) (.dat (iN one)) (.dat (lN left)) (.dat (lN ord)) .un .un .un .un) := by
      refine sComp_on left iN iN _ (by simp [bodyP, bodyI, startE, startI, sSeq, sRet, sAsg, sExp, sIfS, sNx, sV, sB, sC, PD.s2, toT, sTr, truth, bne_dec, sChain, sAnd, sOr, sNot, sIf, tAnd', tOr', tNot', sNil, sCons, sCall, allD, sN, allR, PD.res, sTup, sLst, sFr, gN, gT, gsNil, gsCons, sIsi, tyName, isSub, sOrE, sM1, sM1T, ST.fAdd_int, fSub, fLe, fLt, fGt, fGe, eq_int, ne_int, cont?, setCont, List.replicate, fLen, sOwn, sApp, sSq, En]) rfl (by omega) rfl fun y hy => ⟨_, rfl, rfl, ?_, ?_⟩
      · simp [bodyP, bodyI, startE, startI, sSeq, sRet, sAsg, sExp, sIfS, sNx, sV, sB, sC, PD.s2, toT, sTr, truth, bne_dec, sChain, sAnd, sOr, sNot, sIf, tAnd', tOr', tNot', sNil, sCons, sCall, allD, sN, allR, PD.res, sTup, sLst, sFr, gN, gT, gsNil, gsCons, sIsi, tyName, isSub, sOrE, sM1, sM1T, ST.fAdd_int, fSub, fLe, fLt, fGt, fGe, eq_int, ne_int, cont?, setCont, List.replicate, fLen, sOwn, sApp, En, wipeE]
        omega
      · simp [bodyP, bodyI, startE, startI, sSeq, sRet, sAsg, sExp, sIfS, sNx, sV, sB, sC, PD.s2, toT, sTr, truth, bne_dec, sChain, sAnd, sOr, sNot, sIf, tAnd', tOr', tNot', sNil, sCons, sCall, allD, sN, allR, PD.res, sTup, sLst, sFr, gN, gT, gsNil, gsCons, sIsi, tyName, isSub, sOrE, sM1, sM1T, ST.fAdd_int, fSub, fLe, fLt, fGt, fGe, eq_int, ne_int, cont?, setCont, List.replicate, fLen, sOwn, sApp, En, wipeE]
    have q : fAdd (.list (ord.map iN)) (.list [iN one]) = some (lN (ord ++ [one])) := fAdd_list (by have := C.len; simp; omega) (by simp)
    refine ⟨En r1 a n m x4 x5 x6 (.dat (iN i)) y8 (.dat (lN left)) (.dat (lN ord)) .un .un .un .un, .nx, En r2 a n m x4 x5 x6 (.dat (iN i)) (.dat (iN one)) (.dat (lN (left.filter fun y => !decide (y = one)))) (.dat (lN (ord ++ [one]))) .un .un .un .un, rfl, ?_, .inl rfl, r2, _, _, _, _, rfl, hr2, C2, rfl, rfl⟩
    obtain ⟨L, hL⟩ : ∃ L, L = left.map iN := ⟨_, rfl⟩
    obtain ⟨M, hM⟩ : ∃ M, M = (left.filter fun y => !decide (y = one)).map iN := ⟨_, rfl⟩
    obtain ⟨S, hS⟩ : ∃ S, S = ord.map iN := ⟨_, rfl⟩
    obtain ⟨S', hS'⟩ : ∃ S', S' = (ord ++ [one]).map iN := ⟨_, rfl⟩
    unfold lN at q e2 ⊢
    rw [← hM, ← hL, ← hS] at e2
    rw [← hS, ← hS'] at q
    rw [← hL] at e1
    rw [← hM, ← hL, ← hS, ← hS']
    unfold En at e2 ⊢
    unfold b3__law_map
    simp [bodyP, bodyI, startE, startI, sSeq, sRet, sAsg, sExp, sIfS, sNx, sV, sB, sC, PD.s2, toT, sTr, truth, bne_dec, sChain, sAnd, sOr, sNot, sIf, tAnd', tOr', tNot', sNil, sCons, sCall, allD, sN, allR, PD.res, sTup, sLst, sFr, gN, gT, gsNil, gsCons, sIsi, tyName, isSub, sOrE, sM1, sM1T, ST.fAdd_int, fSub, fLe, fLt, fGt, fGe, eq_int, ne_int, cont?, setCont, List.replicate, fLen, sOwn, sApp, sCallI, e1, e2, q, sPar, putDs]
  obtain ⟨ρ', e, r', ord, left, y7, y8, rfl, h1, h2, h3, h4⟩ := this
  refine ⟨r', ord, left, y7, y8, e, h1, ?_, h3, h4⟩
  simpa using h2
end ST
namespace ST
open PySem PD
theorem nodup_leG {α : Type} [DecidableEq α] : ∀ {a b : List α}, a.Nodup → (∀ k ∈ a, k ∈ b) → a.length ≤ b.length
  | [], _, _, _ => Nat.zero_le _
  | x :: r, b, h1, h2 => by
    have hx : x ∈ b := h2 x (by simp)
    obtain ⟨n1, n2⟩ := List.nodup_cons.mp h1
    have := nodup_leG (b := b.erase x) n2 fun k hk => by
      have e : k ≠ x := fun z => n1 (by rw [← z]; exact hk)
      exact (List.mem_erase_of_ne e).mpr (h2 k (by simp [hk]))
    rw [List.length_erase_of_mem hx] at this
    have : 0 < b.length := List.length_pos_of_mem hx
    simp
    omega
def cutB (cs : List (Nat × Nat)) (n t : Nat) : Bool := decide ((t / n, t % n) ∈ cs)
theorem cut_count {a n k : Nat} {cs left : List (Nat × Nat)} (hn : 0 < n) (C : Cut (prs a n) k cs left) : ((List.range (a * n)).filter (cutB cs n)).length = k := by
  rw [← C.len]
  have inj : ((((List.range (a * n)).filter (cutB cs n)).map fun t => (t / n, t % n))).Nodup := by
    refine List.Pairwise.map _ (fun x y h z => h ?_) (List.Pairwise.filter _ List.nodup_range)
    have h1 := congrArg Prod.fst z
    have h2 := congrArg Prod.snd z
    simp only at h1 h2
    rw [← Nat.div_add_mod x n, ← Nat.div_add_mod y n, h1, h2]
  apply Nat.le_antisymm
  · have := nodup_leG inj (b := cs) fun p hp => by
      obtain ⟨t, ht, rfl⟩ := List.mem_map.mp hp
      exact of_decide_eq_true (List.mem_filter.mp ht).2
    simpa using this
  · have := nodup_leG C.nd (b := ((List.range (a * n)).filter (cutB cs n)).map fun t => (t / n, t % n)) fun p hp => by
      have q := C.sub p hp
      unfold prs at q
      obtain ⟨i, hi, q⟩ := List.mem_flatMap.mp q
      obtain ⟨j, hj, rfl⟩ := List.mem_map.mp q
      have hi := List.mem_range.mp hi
      have hj := List.mem_range.mp hj
      have e1 : (i * n + j) / n = i := by rw [Nat.mul_comm, Nat.mul_add_div hn, Nat.div_eq_of_lt hj, Nat.add_zero]
      have e2 : (i * n + j) % n = j := by rw [Nat.mul_comm, Nat.mul_add_mod, Nat.mod_eq_of_lt hj]
      refine List.mem_map.mpr ⟨i * n + j, List.mem_filter.mpr ⟨List.mem_range.mpr ?_, ?_⟩, by rw [e1, e2]⟩
      · have : (i + 1) * n ≤ a * n := Nat.mul_le_mul_right n hi
        rw [Nat.add_mul] at this
        omega
      · unfold cutB
        rw [e1, e2]
        exact decide_eq_true hp
    simpa using this
theorem cut_mono {n t u : Nat} {cs : List (Nat × Nat)} (h : t ≤ u) : ((List.range t).filter (cutB cs n)).length ≤ ((List.range u).filter (cutB cs n)).length :=
  (List.Sublist.filter _ (List.range_sublist.mpr h)).length_le
theorem ca_app {cells : List Nat} {v x : Nat} : ca (cells ++ [v]) x = if x < cells.length then ca cells x else if x = cells.length then v else 0 := by
  unfold ca
  rw [List.getD_eq_getElem?_getD, List.getD_eq_getElem?_getD]
  by_cases h : x < cells.length
  · rw [if_pos h, List.getElem?_append_left h]
  · rw [if_neg h, List.getElem?_append_right (by omega)]
    by_cases h2 : x = cells.length
    · simp [h2]
    · rw [if_neg h2, List.getElem?_eq_none (by simp; omega)]
      rfl
/-- a map half made: t places of its arms done -/
structure Bld (n : Nat) (ord : List Nat) (cs : List (Nat × Nat)) (t : Nat) (cells : List Nat) (used : Nat) : Prop where
  len : cells.length = t + 1
  us : used = 1 + ((List.range t).filter (cutB cs n)).length
  zero : ca cells 0 = ca ord 0
  old : ∀ x, x ≤ t → ∃ j, j < used ∧ ca cells x = ca ord j
  all : ∀ j, j < used → ∃ x, x ≤ t ∧ ca cells x = ca ord j
  cr : ∀ s, s < t → (cutB cs n s = true ↔ ¬ ca cells (s + 1) = ca cells (inner n (s + 1)))
theorem Bld.start (n : Nat) (ord : List Nat) (cs : List (Nat × Nat)) : Bld n ord cs 0 [ca ord 0] 1 :=
  ⟨rfl, rfl, rfl, fun x hx => ⟨0, by omega, by rw [show x = 0 by omega]; rfl⟩, fun j hj => ⟨0, by omega, by rw [show j = 0 by omega]; rfl⟩, fun s hs => by omega⟩
theorem filter_succ (p : Nat → Bool) (t : Nat) : ((List.range (t + 1)).filter p).length = ((List.range t).filter p).length + if p t then 1 else 0 := by
  rw [List.range_succ, List.filter_append, List.length_append]
  cases h : p t <;> simp [h]
theorem Bld.next {n t used : Nat} {ord cells : List Nat} {cs : List (Nat × Nat)} (B : Bld n ord cs t cells used) (nd : ord.Nodup) (v used' : Nat)
    (h : if cutB cs n t = true then used < ord.length ∧ v = ca ord used ∧ used' = used + 1 else v = ca cells (inner n (t + 1)) ∧ used' = used) : Bld n ord cs (t + 1) (cells ++ [v]) used' := by
  have it : inner n (t + 1) < t + 1 := inner_lt (Nat.succ_pos t)
  have old : ∀ x, x ≤ t → ca (cells ++ [v]) x = ca cells x := fun x hx => by rw [ca_app, if_pos (by rw [B.len]; omega)]
  have new : ca (cells ++ [v]) (t + 1) = v := by rw [ca_app, if_neg (by rw [B.len]; omega), if_pos B.len.symm]
  have dist : ∀ j k, j < ord.length → k < ord.length → ca ord j = ca ord k → j = k := fun j k hj hk e => by
    have e1 := ca_some hj
    have e2 := ca_some hk
    rw [e] at e1
    exact (List.getElem?_inj hj nd).mp (e1.trans e2.symm)
  by_cases hc : cutB cs n t = true
  · rw [if_pos hc] at h
    obtain ⟨hu, hv, hu'⟩ := h
    subst hv hu'
    refine ⟨by simp [B.len], by rw [filter_succ, if_pos hc, B.us]; omega, by rw [old 0 (by omega)]; exact B.zero, fun x hx => ?_, fun j hj => ?_, fun s hs => ?_⟩
    · by_cases hx' : x ≤ t
      · obtain ⟨j, h1, h2⟩ := B.old x hx'
        exact ⟨j, by omega, by rw [old x hx', h2]⟩
      · exact ⟨used, by omega, by rw [show x = t + 1 by omega, new]⟩
    · by_cases hj' : j < used
      · obtain ⟨x, h1, h2⟩ := B.all j hj'
        exact ⟨x, by omega, by rw [old x h1, h2]⟩
      · exact ⟨t + 1, by omega, by rw [new, show j = used by omega]⟩
    · by_cases hs' : s < t
      · rw [old (s + 1) (by omega), old (inner n (s + 1)) (by have := inner_lt (n := n) (Nat.succ_pos s); simp at this; omega)]
        exact B.cr s hs'
      · have e : s = t := by omega
        subst e
        rw [new, old _ (by omega)]
        refine ⟨fun _ z => ?_, fun _ => hc⟩
        obtain ⟨j, h1, h2⟩ := B.old (inner n (s + 1)) (by omega)
        rw [h2] at z
        have := dist used j hu (by omega) z
        omega
  · rw [if_neg hc] at h
    obtain ⟨hv, hu'⟩ := h
    subst hu'
    refine ⟨by simp [B.len], by rw [filter_succ, if_neg hc, B.us]; omega, by rw [old 0 (by omega)]; exact B.zero, fun x hx => ?_, fun j hj => ?_, fun s hs => ?_⟩
    · by_cases hx' : x ≤ t
      · obtain ⟨j, h1, h2⟩ := B.old x hx'
        exact ⟨j, h1, by rw [old x hx', h2]⟩
      · obtain ⟨j, h1, h2⟩ := B.old (inner n (t + 1)) (by omega)
        exact ⟨j, h1, by rw [show x = t + 1 by omega, new, hv, h2]⟩
    · obtain ⟨x, h1, h2⟩ := B.all j hj
      exact ⟨x, by omega, by rw [old x h1, h2]⟩
    · by_cases hs' : s < t
      · rw [old (s + 1) (by omega), old (inner n (s + 1)) (by have := inner_lt (n := n) (Nat.succ_pos s); simp at this; omega)]
        exact B.cr s hs'
      · have e : s = t := by omega
        subst e
        rw [new, old _ (by omega)]
        exact ⟨fun z => absurd z hc, fun z => absurd hv z⟩
theorem Bld.valid {a n m used : Nat} {ord cells left : List Nat} {cs cl : List (Nat × Nat)} (ha : 3 ≤ a ∧ a ≤ 4) (hn : 1 ≤ n ∧ n ≤ 4) (hm : 2 ≤ m ∧ m ≤ n + 1) (C : Cut (prs a n) (m - 1) cs cl) (O : Cut (List.range m) m ord left) (B : Bld n ord cs (a * n) cells used) : Valid a n m cells := by
  have cc := cut_count (by omega) C
  have hu : used = m := by rw [B.us, cc]; omega
  have ol : ∀ j, j < m → ca ord j < m := fun j hj => by
    have := O.sub _ (ca_mem (by rw [O.len]; exact hj))
    exact List.mem_range.mp this
  have at_ : ∀ v ∈ cells, ∃ x, x ≤ a * n ∧ ca cells x = v := fun v hv => by
    obtain ⟨j, hj, e⟩ := List.getElem_of_mem hv
    have := ca_some hj
    rw [List.getElem?_eq_getElem hj] at this
    exact ⟨j, by have := B.len; omega, by rw [← e]; exact (Option.some.inj this).symm⟩
  refine ⟨ha, hn, hm, by rw [B.len]; omega, fun v hv => ?_, fun v hv => ?_, ?_⟩
  · obtain ⟨x, hx, e⟩ := at_ v hv
    obtain ⟨j, h1, h2⟩ := B.old x hx
    rw [← e, h2]
    exact ol j (by omega)
  · have : v ∈ ord := by
      refine Classical.byContradiction fun z => ?_
      have q := nodup_leN (a := v :: ord) (b := List.range m) (List.nodup_cons.mpr ⟨z, O.nd⟩) fun k hk => by
        rcases List.mem_cons.mp hk with rfl | hk
        · exact List.mem_range.mpr hv
        · exact O.sub k hk
      simp [O.len] at q
      omega
    obtain ⟨j, hj, e⟩ := List.getElem_of_mem this
    have ej := ca_some hj
    rw [List.getElem?_eq_getElem hj] at ej
    obtain ⟨x, h1, h2⟩ := B.all j (by rw [O.len] at hj; omega)
    rw [← e, Option.some.inj ej, ← h2]
    exact ca_mem (by rw [B.len]; omega)
  · have : crs n cells = (List.range (a * n)).filter (cutB cs n) := by
      unfold crs
      rw [B.len, Nat.add_sub_cancel]
      apply List.filter_congr
      intro s hs
      have := B.cr s (List.mem_range.mp hs)
      by_cases h : cutB cs n s = true
      · rw [h]
        exact decide_eq_true (this.mp h)
      · rw [Bool.not_eq_true] at h
        rw [h]
        exact decide_eq_false fun z => by rw [this.mpr z] at h; cases h
    rw [this, cc]
    omega
end ST
namespace ST
open PySem PD
def Em (r : List PyData) (a n m : Nat) (x4 : Sl) (cs : List (Nat × Nat)) (x6 x7 x8 x9 : Sl) (ord cells : List Nat) (used : Nat) (x13 x14 : Sl) : Ev :=
  [.io r, .dat (iN a), .dat (iN n), .dat (iN m), x4, .dat (.list (cs.map pD)), x6, x7, x8, x9, .dat (lN ord), .own (cells.map iN), .dat (iN used), x13, x14, .un, .un]
theorem cutB_at {cs : List (Nat × Nat)} {n i j : Nat} (hj : j < n) : cutB cs n (i * n + j) = decide ((i, j) ∈ cs) := by
  unfold cutB
  rw [show (i * n + j) / n = i by rw [Nat.mul_comm, Nat.mul_add_div (by omega), Nat.div_eq_of_lt hj, Nat.add_zero], show (i * n + j) % n = j by rw [Nat.mul_comm, Nat.mul_add_mod, Nat.mod_eq_of_lt hj]]
theorem inner_at {n i j : Nat} (hj : j < n) : inner n (i * n + j + 1) = if j = 0 then 0 else i * n + j := by
  unfold inner
  rw [Nat.add_sub_cancel, show (i * n + j) % n = j by rw [Nat.mul_comm, Nat.mul_add_mod, Nat.mod_eq_of_lt hj]]
theorem ph4a {r : List PyData} {a n m i used l : Nat} {x4 x7 x8 x9 x14 : Sl} {cs : List (Nat × Nat)} {ord cells : List Nat} (hi : i < a) (ha : a ≤ 4) (hn : 1 ≤ n ∧ n ≤ 4) (nd : ord.Nodup) (ol : ord.length = m) (hm : m ≤ 5) (lim : 1 + ((List.range (a * n)).filter (cutB cs n)).length ≤ m)
    (B : Bld n ord cs (i * n) cells used) (hl : l = ca cells 0) :
    ∃ cells' used' y13 y14, l4__law_map (Em r a n m x4 cs (.dat (iN i)) x7 x8 x9 ord cells used (.dat (iN l)) x14) = some (.nx, Em r a n m x4 cs (.dat (iN i)) x7 x8 x9 ord cells' used' y13 y14) ∧ Bld n ord cs ((i + 1) * n) cells' used' := by
  have hin : (i + 1) * n ≤ a * n := Nat.mul_le_mul_right n hi
  have han : a * n ≤ 16 := Nat.mul_le_mul ha hn.2
  rw [Nat.add_mul, Nat.one_mul] at hin
  have : ∃ ρ', l4__law_map (Em r a n m x4 cs (.dat (iN i)) x7 x8 x9 ord cells used (.dat (iN l)) x14) = some (.nx, ρ') ∧ ∃ cells' used' l' y14, ρ' = Em r a n m x4 cs (.dat (iN i)) x7 x8 x9 ord cells' used' (.dat (iN l')) y14 ∧ Bld n ord cs (i * n + ((List.range n).map iN).length) cells' used' ∧ (((List.range n).map iN).length < n → l' = ca cells' (inner n (i * n + ((List.range n).map iN).length + 1))) := by
    refine sFor_inv (items := (List.range n).map iN) (ρ1 := Em r a n m x4 cs (.dat (iN i)) x7 x8 x9 ord cells used (.dat (iN l)) x14) (fun j ρ => ∃ cells' used' l' y14, ρ = Em r a n m x4 cs (.dat (iN i)) x7 x8 x9 ord cells' used' (.dat (iN l')) y14 ∧ Bld n ord cs (i * n + j) cells' used' ∧ (j < n → l' = ca cells' (inner n (i * n + j + 1)))) (sRg1_small (by simp [bodyP, bodyI, startE, startI, sSeq, sRet, sAsg, sExp, sIfS, sNx, sV, sB, sC, PD.s2, toT, sTr, truth, bne_dec, sChain, sAnd, sOr, sNot, sIf, tAnd', tOr', tNot', sNil, sCons, sCall, allD, sN, allR, PD.res, sTup, sLst, sFr, gN, gT, gsNil, gsCons, sIsi, tyName, isSub, sOrE, sM1, sM1T, ST.fAdd_int, fSub, fLe, fLt, fGt, fGe, eq_int, ne_int, cont?, setCont, List.replicate, fLen, sOwn, sApp, Em]) (by omega)) ⟨cells, used, l, x14, rfl, B, fun h => by rw [inner_at h, if_pos rfl, hl]⟩ ?_
    rintro j d ρ hd ⟨cells1, used1, l1, y14, rfl, B1, hl1⟩
    rw [List.getElem?_map, Option.map_eq_some_iff] at hd
    obtain ⟨j', h1, rfl⟩ := hd
    obtain ⟨hj, h2⟩ := List.getElem?_eq_some_iff.mp h1
    rw [List.getElem_range] at h2
    rw [List.length_range] at hj
    subst h2
    have hl1 := hl1 hj
    have mono := cut_mono (n := n) (cs := cs) (show i * n + j + 1 ≤ a * n by omega)
    rw [filter_succ] at mono
    have hus := B1.us
    have hc := cutB_at (cs := cs) (i := i) hj
    have hin2 : fIn (pD (i, j)) (.list (cs.map pD)) = some (.bool (decide ((i, j) ∈ cs))) := in_lP (i, j) cs
    have step : ∀ v used', Bld n ord cs (i * n + j + 1) (cells1 ++ [v]) used' → (j + 1 < n → v = ca (cells1 ++ [v]) (inner n (i * n + (j + 1) + 1))) := fun v used' B2 h => by
      rw [inner_at h, if_neg (by omega), ca_app, if_neg (by rw [B1.len]; omega), if_pos (by rw [B1.len]; omega)]
    have hlen : cells1.length < 1000 := by rw [B1.len]; omega
    obtain ⟨L, hL⟩ : ∃ L, L = cs.map pD := ⟨_, rfl⟩
    obtain ⟨S, hS⟩ : ∃ S, S = cells1.map iN := ⟨_, rfl⟩
    have hSl : S.length < 1000000 := by rw [hS, List.length_map]; omega
    rw [← hL] at hin2
    by_cases h : (i, j) ∈ cs
    · rw [decide_eq_true h] at hc hin2
      rw [hc, if_pos rfl] at mono
      have hu : used1 < ord.length := by omega
      have q := (ix_map (f := iN) (ca_some hu)).1
      have B2 := B1.next nd (ca ord used1) (used1 + 1) (by rw [hc, if_pos rfl]; exact ⟨hu, rfl, rfl⟩)
      refine ⟨Em r a n m x4 cs (.dat (iN i)) x7 x8 x9 ord cells1 used1 (.dat (iN l1)) (.dat (iN j)), .nx, Em r a n m x4 cs (.dat (iN i)) x7 x8 x9 ord (cells1 ++ [ca ord used1]) (used1 + 1) (.dat (iN (ca ord used1))) (.dat (iN j)), rfl, ?_, .inl rfl, _, _, _, _, rfl, B2, step _ _ B2⟩
      unfold Em b4__law_map
      rw [List.map_append, ← hL, ← hS]
      obtain ⟨O, hO⟩ : ∃ O, O = lN ord := ⟨_, rfl⟩
      have q : fIx O (iN used1) = some (iN (ca ord used1)) := by rw [hO]; exact q
      rw [← hO]
      simp [bodyP, bodyI, startE, startI, sSeq, sRet, sAsg, sExp, sIfS, sNx, sV, sB, sC, PD.s2, toT, sTr, truth, bne_dec, sChain, sAnd, sOr, sNot, sIf, tAnd', tOr', tNot', sNil, sCons, sCall, allD, sN, allR, PD.res, sTup, sLst, sFr, gN, gT, gsNil, gsCons, sIsi, tyName, isSub, sOrE, sM1, sM1T, ST.fAdd_int, fSub, fLe, fLt, fGt, fGe, eq_int, ne_int, cont?, setCont, List.replicate, fLen, sOwn, sApp, hin2, q, sPar, putDs, hSl]
    · rw [decide_eq_false h] at hc hin2
      have B2 := B1.next nd l1 used1 (by rw [hc, if_neg (by simp)]; exact ⟨hl1, rfl⟩)
      refine ⟨Em r a n m x4 cs (.dat (iN i)) x7 x8 x9 ord cells1 used1 (.dat (iN l1)) (.dat (iN j)), .nx, Em r a n m x4 cs (.dat (iN i)) x7 x8 x9 ord (cells1 ++ [l1]) used1 (.dat (iN l1)) (.dat (iN j)), rfl, ?_, .inl rfl, _, _, _, _, rfl, B2, step _ _ B2⟩
      unfold Em b4__law_map
      rw [List.map_append, ← hL, ← hS]
      simp [bodyP, bodyI, startE, startI, sSeq, sRet, sAsg, sExp, sIfS, sNx, sV, sB, sC, PD.s2, toT, sTr, truth, bne_dec, sChain, sAnd, sOr, sNot, sIf, tAnd', tOr', tNot', sNil, sCons, sCall, allD, sN, allR, PD.res, sTup, sLst, sFr, gN, gT, gsNil, gsCons, sIsi, tyName, isSub, sOrE, sM1, sM1T, ST.fAdd_int, fSub, fLe, fLt, fGt, fGe, eq_int, ne_int, cont?, setCont, List.replicate, fLen, sOwn, sApp, hin2, hSl]
  obtain ⟨ρ', e, cells', used', l', y14, rfl, h2, _⟩ := this
  refine ⟨cells', used', _, y14, e, ?_⟩
  rw [Nat.add_mul, Nat.one_mul]
  simpa using h2
theorem ph4 {r : List PyData} {a n m : Nat} {x4 x6 x7 x8 x9 x13 x14 : Sl} {cs : List (Nat × Nat)} {ord : List Nat} (ha : 3 ≤ a ∧ a ≤ 4) (hn : 1 ≤ n ∧ n ≤ 4) (nd : ord.Nodup) (ol : ord.length = m) (hm : 2 ≤ m ∧ m ≤ 5) (lim : 1 + ((List.range (a * n)).filter (cutB cs n)).length ≤ m) :
    ∃ cells used y6 y13 y14, l5__law_map (Em r a n m x4 cs x6 x7 x8 x9 ord [ca ord 0] 1 x13 x14) = some (.nx, Em r a n m x4 cs y6 x7 x8 x9 ord cells used y13 y14) ∧ Bld n ord cs (a * n) cells used := by
  have : ∃ ρ', l5__law_map (Em r a n m x4 cs x6 x7 x8 x9 ord [ca ord 0] 1 x13 x14) = some (.nx, ρ') ∧ ∃ cells used y6 y13 y14, ρ' = Em r a n m x4 cs y6 x7 x8 x9 ord cells used y13 y14 ∧ Bld n ord cs (((List.range a).map iN).length * n) cells used := by
    refine sFor_inv (items := (List.range a).map iN) (ρ1 := Em r a n m x4 cs x6 x7 x8 x9 ord [ca ord 0] 1 x13 x14) (fun i ρ => ∃ cells used y6 y13 y14, ρ = Em r a n m x4 cs y6 x7 x8 x9 ord cells used y13 y14 ∧ Bld n ord cs (i * n) cells used) (sRg1_small (by simp [bodyP, bodyI, startE, startI, sSeq, sRet, sAsg, sExp, sIfS, sNx, sV, sB, sC, PD.s2, toT, sTr, truth, bne_dec, sChain, sAnd, sOr, sNot, sIf, tAnd', tOr', tNot', sNil, sCons, sCall, allD, sN, allR, PD.res, sTup, sLst, sFr, gN, gT, gsNil, gsCons, sIsi, tyName, isSub, sOrE, sM1, sM1T, ST.fAdd_int, fSub, fLe, fLt, fGt, fGe, eq_int, ne_int, cont?, setCont, List.replicate, fLen, sOwn, sApp, Em]) (by omega)) ⟨_, _, _, _, _, rfl, by rw [Nat.zero_mul]; exact Bld.start n ord cs⟩ ?_
    rintro i d ρ hd ⟨cells1, used1, y6, y13, y14, rfl, B1⟩
    rw [List.getElem?_map, Option.map_eq_some_iff] at hd
    obtain ⟨i', h1, rfl⟩ := hd
    obtain ⟨hi, h2⟩ := List.getElem?_eq_some_iff.mp h1
    rw [List.getElem_range] at h2
    rw [List.length_range] at hi
    subst h2
    obtain ⟨cells', used', z13, z14, e, B2⟩ := ph4a (r := r) (x4 := x4) (x7 := x7) (x8 := x8) (x9 := x9) (x14 := y14) (l := ca ord 0) hi ha.2 hn nd ol hm.2 lim B1 B1.zero.symm
    refine ⟨Em r a n m x4 cs (.dat (iN i)) x7 x8 x9 ord cells1 used1 y13 y14, .nx, Em r a n m x4 cs (.dat (iN i)) x7 x8 x9 ord cells' used' z13 z14, rfl, ?_, .inl rfl, cells', used', .dat (iN i), z13, z14, rfl, B2⟩
    have q : fIx (lN ord) (.int 0) = some (iN (ca ord 0)) := (ix_map (f := iN) (ca_some (show 0 < ord.length by omega))).1
    obtain ⟨O, hO⟩ : ∃ O, O = lN ord := ⟨_, rfl⟩
    unfold Em at e ⊢
    rw [← hO] at e q ⊢
    unfold b5__law_map
    simp [bodyP, bodyI, startE, startI, sSeq, sRet, sAsg, sExp, sIfS, sNx, sV, sB, sC, PD.s2, toT, sTr, truth, bne_dec, sChain, sAnd, sOr, sNot, sIf, tAnd', tOr', tNot', sNil, sCons, sCall, allD, sN, allR, PD.res, sTup, sLst, sFr, gN, gT, gsNil, gsCons, sIsi, tyName, isSub, sOrE, sM1, sM1T, ST.fAdd_int, fSub, fLe, fLt, fGt, fGe, eq_int, ne_int, cont?, setCont, List.replicate, fLen, sOwn, sApp, q, e]
  obtain ⟨ρ', e, cells, used, y6, y13, y14, rfl, h⟩ := this
  exact ⟨cells, used, y6, y13, y14, e, by simpa using h⟩
end ST
namespace ST
open PySem PD
theorem law_map {ns : List Int} {r : List PyData} {a n m : Nat} (ha : 3 ≤ a ∧ a ≤ 4) (hn : 1 ≤ n ∧ n ≤ 4) (hm : 2 ≤ m ∧ m ≤ n + 1) (hr : RowI ns r) :
    ∃ cells r', p__law_map r [iN a, iN n, iN m] = some (ch a cells, r') ∧ Valid a n m cells ∧ RowI ns r' := by
  obtain ⟨x6, e1, h6⟩ := ph1 (r := r) (m := m) ha.2 hn.2
  obtain ⟨r2, cs, left, x7, x8, e2, hr2, C, h7, h8⟩ := ph2 (x6 := x6) ha hn hm hr
  obtain ⟨r3, ord, left3, y7, y8, e3, hr3, O, k7, k8⟩ := ph3 (a := a) (n := n) (x4 := .dat (.list (left.map pD))) (x5 := .dat (.list (cs.map pD))) (x6 := x6) (m := m) ⟨hm.1, by omega⟩ hr2 h7 h8
  have cc := cut_count (by omega) C
  obtain ⟨cells, used, y6, y13, y14, e4, B⟩ := ph4 (r := r3) (x4 := .dat (.list (left.map pD))) (x6 := x6) (x7 := y7) (x8 := y8) (x9 := .dat (lN left3)) (x13 := .un) (x14 := .un) (cs := cs) (ord := ord) ha hn O.nd O.len ⟨hm.1, by omega⟩ (by rw [cc]; omega)
  have V := B.valid ha hn hm C O
  refine ⟨cells, r3, ?_, V, hr3⟩
  have q : fIx (lN ord) (.int 0) = some (iN (ca ord 0)) := (ix_map (f := iN) (ca_some (show 0 < ord.length by rw [O.len]; omega))).1
  have rg : sLstRg (sR1 (sV 3)) (En r2 a n m (.dat (.list (left.map pD))) (.dat (.list (cs.map pD))) x6 x7 x8 .un .un .un .un .un .un) = some ((List.range m).map iN, En r2 a n m (.dat (.list (left.map pD))) (.dat (.list (cs.map pD))) x6 x7 x8 .un .un .un .un .un .un) := by
    have : rgOkB 0 (m : Int) = true := decide_eq_true ⟨by decide, by omega⟩
    simp [bodyP, bodyI, startE, startI, sSeq, sRet, sAsg, sExp, sIfS, sNx, sV, sB, sC, PD.s2, toT, sTr, truth, bne_dec, sChain, sAnd, sOr, sNot, sIf, tAnd', tOr', tNot', sNil, sCons, sCall, allD, sN, allR, PD.res, sTup, sLst, sFr, gN, gT, gsNil, gsCons, sIsi, tyName, isSub, sOrE, sM1, sM1T, ST.fAdd_int, fSub, fLe, fLt, fGt, fGe, eq_int, ne_int, cont?, setCont, List.replicate, fLen, sOwn, sApp, En, sLstRg, sR1, this, rangeD]
  obtain ⟨P1, hP1⟩ : ∃ P1, P1 = (prs a n).map pD := ⟨_, rfl⟩
  obtain ⟨L, hL⟩ : ∃ L, L = left.map pD := ⟨_, rfl⟩
  obtain ⟨S, hS⟩ : ∃ S, S = cs.map pD := ⟨_, rfl⟩
  obtain ⟨Rm, hRm⟩ : ∃ Rm, Rm = (List.range m).map iN := ⟨_, rfl⟩
  obtain ⟨O', hO'⟩ : ∃ O', O' = ord.map iN := ⟨_, rfl⟩
  obtain ⟨L3, hL3⟩ : ∃ L3, L3 = left3.map iN := ⟨_, rfl⟩
  obtain ⟨Cs, hCs⟩ : ∃ Cs, Cs = cells.map iN := ⟨_, rfl⟩
  unfold lN at e3 e4 q
  show p__law_map r [iN a, iN n, iN m] = some (.tuple [iN a, .tuple (cells.map iN)], r3)
  unfold Em at e4
  unfold lN at e4
  unfold En at e1 e2 e3 rg
  rw [← hP1] at e1 e2
  rw [← hL, ← hS] at e2 e3 rg
  rw [← hRm] at e3 rg
  rw [← hO', ← hL3] at e3 e4
  rw [← hL, ← hS, ← hCs] at e4
  rw [← hO'] at q
  rw [← hCs]
  unfold p__law_map g__law_map
  simp [bodyP, bodyI, startE, startI, sSeq, sRet, sAsg, sExp, sIfS, sNx, sV, sB, sC, PD.s2, toT, sTr, truth, bne_dec, sChain, sAnd, sOr, sNot, sIf, tAnd', tOr', tNot', sNil, sCons, sCall, allD, sN, allR, PD.res, sTup, sLst, sFr, gN, gT, gsNil, gsCons, sIsi, tyName, isSub, sOrE, sM1, sM1T, ST.fAdd_int, fSub, fLe, fLt, fGt, fGe, eq_int, ne_int, cont?, setCont, List.replicate, fLen, sOwn, sApp, e1, e2, rg, e3, q, sPar, putDs, sParO, sLst]
  rw [show iN 1 = PyData.int 1 from rfl] at e4
  simp only [List.map_cons, List.map_nil] at e4
  simp [bodyP, bodyI, startE, startI, sSeq, sRet, sAsg, sExp, sIfS, sNx, sV, sB, sC, PD.s2, toT, sTr, truth, bne_dec, sChain, sAnd, sOr, sNot, sIf, tAnd', tOr', tNot', sNil, sCons, sCall, allD, sN, allR, PD.res, sTup, sLst, sFr, gN, gT, gsNil, gsCons, sIsi, tyName, isSub, sOrE, sM1, sM1T, ST.fAdd_int, fSub, fLe, fLt, fGt, fGe, eq_int, ne_int, cont?, setCont, List.replicate, fLen, sOwn, sApp, e4, fTupOf]
end ST
namespace ST
open PySem PD
def chkNear (a n c : Nat) : Bool := match l2__law_near [.dat (iN a), .dat (iN n), .dat (iN c), .own [], .un, .un, .un, .un] with
  | some (.nx, ρ) => match (ρ[3]? : Option Sl) with
    | some (.own ds) => sortOk ds && match intsOf ds with
      | some ns => ns.all (fun z => decide (0 ≤ z) && decide (z.toNat ∈ nbr a n c)) && (nbr a n c).all (fun p => decide ((p : Int) ∈ ns)) && decide (ns.length < 100 ∧ ns.Nodup)
      | none => false
    | _ => false
  | _ => false
theorem chk_near : ∀ a ∈ [3, 4], ∀ n ∈ [1, 2, 3, 4], ∀ c ∈ List.range (1 + a * n), chkNear a n c = true := by decide +kernel
theorem nats_of : ∀ {xs : List PyData}, (∀ d ∈ xs, ∃ p : Nat, d = iN p) → ∃ L : List Nat, xs = L.map iN
  | [], _ => ⟨[], rfl⟩
  | x :: r, h => by
    obtain ⟨p, rfl⟩ := h x (by simp)
    obtain ⟨L, hL⟩ := nats_of (xs := r) fun d hd => h d (by simp [hd])
    exact ⟨p :: L, by rw [hL]; rfl⟩
theorem iN_inj {p q : Nat} (h : iN p = iN q) : p = q := by
  have := PyData.int.inj h
  omega
theorem sortD_pw (ds : List PyData) : (sortD ds).Pairwise fun a b => W.dataLe (β := PyData) false id a b = true :=
  List.pairwise_mergeSort (fun a b c h1 h2 => (W.sortLe_total (PyProof.Rows.listOrd PyProof.Rows.itemOrd) false fun b : PyData => W.keyToks (id b)).trans a b c h1 h2) (fun a b => by
    rw [Bool.or_eq_true]
    exact (W.sortLe_total (PyProof.Rows.listOrd PyProof.Rows.itemOrd) false fun b : PyData => W.keyToks (id b)).total a b) ds
theorem le_nat {x y : Nat} (h : W.dataLe (β := PyData) false id (iN x) (iN y) = true) : x ≤ y := by
  have h2 : (!PyProof.Rows.lexLt PyProof.Rows.itemOrd [Sum.inl (y : Int)] [Sum.inl (x : Int)]) = true := h
  have e : PyProof.Rows.lexLt PyProof.Rows.itemOrd [Sum.inl (y : Int)] [Sum.inl (x : Int)] = decide ((y : Int) < (x : Int)) := by
    by_cases h : (y : Int) < (x : Int)
    · simp [PyProof.Rows.lexLt, PyProof.Rows.itemLt, h]
    · by_cases h3 : (x : Int) < (y : Int)
      · simp [PyProof.Rows.lexLt, PyProof.Rows.itemLt, h, h3]
      · have : (x : Int) = y := by omega
        simp [PyProof.Rows.lexLt, PyProof.Rows.itemLt, this]
  rw [e] at h2
  simp at h2
  omega
theorem law_near2 {a n c : Nat} (ha : a ∈ [3, 4]) (hn : n ∈ [1, 2, 3, 4]) (hc : c ∈ List.range (1 + a * n)) : ∃ L : List Nat, p__law_near [iN a, iN n, iN c] = some (lN L) ∧ (∀ p, p ∈ L ↔ p ∈ nbr a n c) ∧ L.length < 100 ∧ L.Nodup ∧ L.Pairwise (· ≤ ·) := by
  have h := chk_near a ha n hn c hc
  unfold chkNear at h
  split at h
  · rename_i ρ e1
    split at h
    · rename_i ds e2
      rw [Bool.and_eq_true] at h
      obtain ⟨hs, h⟩ := h
      split at h
      · rename_i ns e3
        simp only [Bool.and_eq_true, List.all_eq_true, decide_eq_true_eq] at h
        obtain ⟨⟨h1, h2⟩, h3, h4⟩ := h
        have ed := intsOf_eq e3
        have perm : (sortD ds).Perm ds := List.mergeSort_perm _ _
        obtain ⟨L, hL⟩ := nats_of (xs := sortD ds) fun d hd => by
          have := perm.mem_iff.mp hd
          rw [ed] at this
          obtain ⟨z, hz, rfl⟩ := List.mem_map.mp this
          exact ⟨z.toNat, by have := (h1 z hz).1; show PyData.int z = PyData.int _; congr 1; omega⟩
        have hmem : ∀ p, p ∈ L ↔ iN p ∈ ds := fun p => by
          rw [← perm.mem_iff, hL]
          exact ⟨fun h => List.mem_map.mpr ⟨p, h, rfl⟩, fun h => by
            obtain ⟨q, hq, e⟩ := List.mem_map.mp h
            rw [← iN_inj e]
            exact hq⟩
        have hlen : L.length < 100 := by
          have q := perm.length_eq
          rw [hL, List.length_map, ed, List.length_map] at q
          omega
        have hnd : L.Nodup := by
          have q : (L.map iN).Nodup := by
            rw [← hL]
            refine perm.nodup_iff.mpr ?_
            rw [ed]
            exact List.Pairwise.map _ (fun x y h z => h (PyData.int.inj z)) h4
          exact List.Pairwise.of_map (S := fun x y => ¬ x = y) iN (fun x y h z => h (by rw [z])) q
        have hpw : L.Pairwise (· ≤ ·) := by
          have q := sortD_pw ds
          rw [hL] at q
          exact (List.pairwise_map.mp q).imp fun h => le_nat h
        refine ⟨L, ?_, fun p => ?_, hlen, hnd, hpw⟩
        · have e4 : fSorted [.list ds] = some (L.map iN) := by
            show (if sortOk ds then some (sortD ds) else none) = _
            rw [if_pos hs, hL]
          unfold p__law_near g__law_near
          simp [bodyP, bodyI, startE, startI, sSeq, sRet, sAsg, sExp, sIfS, sNx, sV, sB, sC, PD.s2, toT, sTr, truth, bne_dec, sChain, sAnd, sOr, sNot, sIf, tAnd', tOr', tNot', sNil, sCons, sCall, allD, sN, allR, PD.res, sTup, sLst, sFr, gN, gT, gsNil, gsCons, sIsi, tyName, isSub, sOrE, sM1, sM1T, ST.fAdd_int, fSub, fLe, fLt, fGt, fGe, eq_int, ne_int, cont?, setCont, List.replicate, fLen, sOwn, sApp, sLst, e1, sNF, e2, e4]
        · rw [hmem, ed]
          constructor
          · intro h
            obtain ⟨z, hz, e⟩ := List.mem_map.mp h
            have := PyData.int.inj e
            have q := (h1 z hz).2
            rw [this] at q
            simpa using q
          · intro h
            exact List.mem_map.mpr ⟨(p : Int), h2 p h, rfl⟩
      · cases h
    · cases h
  · cases h
theorem law_near {a n c : Nat} (ha : a ∈ [3, 4]) (hn : n ∈ [1, 2, 3, 4]) (hc : c ∈ List.range (1 + a * n)) : ∃ L : List Nat, p__law_near [iN a, iN n, iN c] = some (lN L) ∧ (∀ p, p ∈ L ↔ p ∈ nbr a n c) ∧ L.length < 100 ∧ L.Nodup := by
  obtain ⟨L, h1, h2, h3, h4, _⟩ := law_near2 ha hn hc
  exact ⟨L, h1, h2, h3, h4⟩
end ST
namespace ST
open PySem PD
/-- what the search for hanging cells has found -/
structure Seen (a n : Nat) (S found : List Nat) : Prop where
  nd : found.Nodup
  sub : ∀ x ∈ found, x ∈ S
  reach : ∀ side : Nat → Bool, (∀ x ∈ S, ∀ y ∈ S, y ∈ nbr a n x → side x = side y) → ∀ x ∈ found, side x = side (S.headD 0)
def Eh (a n : Nat) (S seen walk : List Nat) (x5 x6 : Sl) : Ev := [.dat (iN a), .dat (iN n), .dat (lN S), .dat (lN seen), .dat (lN walk), x5, x6, .un]
theorem hangs_walk {a n : Nat} {S seen walk : List Nat} {x6 : Sl} (ha : a ∈ [3, 4]) (hn : n ∈ [1, 2, 3, 4]) (hS : ∀ x ∈ S, x ∈ List.range (1 + a * n)) (hSl : S.length ≤ 100) (H : Seen a n S seen) (hw : ∀ x ∈ walk, x ∈ seen) :
    ∃ more y6, l1__law_hangs (Eh a n S seen walk (.dat (lN [])) x6) = some (.nx, Eh a n S seen walk (.dat (lN more)) y6) ∧ Seen a n S more ∧ (∀ x ∈ more, x ∉ seen) ∧ (∀ x ∈ walk, ∀ y ∈ S, y ∈ nbr a n x → y ∈ seen ∨ y ∈ more) := by
  have : ∃ ρ', l1__law_hangs (Eh a n S seen walk (.dat (lN [])) x6) = some (.nx, ρ') ∧ ∃ more y6, ρ' = Eh a n S seen walk (.dat (lN more)) y6 ∧ Seen a n S more ∧ (∀ x ∈ more, x ∉ seen) ∧ (∀ (j x : Nat), j < (walk.map iN).length → walk[j]? = some x → ∀ y ∈ S, y ∈ nbr a n x → y ∈ seen ∨ y ∈ more) := by
    refine sFor_inv (items := walk.map iN) (ρ1 := Eh a n S seen walk (.dat (lN [])) x6) (fun i ρ => ∃ more y6, ρ = Eh a n S seen walk (.dat (lN more)) y6 ∧ Seen a n S more ∧ (∀ x ∈ more, x ∉ seen) ∧ (∀ (j x : Nat), j < i → walk[j]? = some x → ∀ y ∈ S, y ∈ nbr a n x → y ∈ seen ∨ y ∈ more)) (by simp [bodyP, bodyI, startE, startI, sSeq, sRet, sAsg, sExp, sIfS, sNx, sV, sB, sC, PD.s2, toT, sTr, truth, bne_dec, sChain, sAnd, sOr, sNot, sIf, tAnd', tOr', tNot', sNil, sCons, sCall, allD, sN, allR, PD.res, sTup, sLst, sFr, gN, gT, gsNil, gsCons, sIsi, tyName, isSub, sOrE, sM1, sM1T, ST.fAdd_int, fSub, fLe, fLt, fGt, fGe, eq_int, ne_int, cont?, setCont, List.replicate, fLen, sOwn, sApp, Eh, sSq]) ⟨[], x6, rfl, ⟨List.nodup_nil, fun _ h => (by cases h), fun _ _ _ h => (by cases h)⟩, fun _ h => (by cases h), fun _ _ h => absurd h (Nat.not_lt_zero _)⟩ ?_
    rintro i d ρ hd ⟨more, y6, rfl, M, dis, dn⟩
    rw [List.getElem?_map, Option.map_eq_some_iff] at hd
    obtain ⟨cell, h1, rfl⟩ := hd
    have hcw := List.mem_of_getElem? h1
    have hcS := H.sub cell (hw cell hcw)
    obtain ⟨L, e1, hmem, hlen, hnd⟩ := law_near ha hn (hS cell hcS)
    let p : Nat → Bool := fun x => decide (x ∈ S) && (!decide (x ∈ seen) && !decide (x ∈ more))
    have e2 : c1__law_hangs (Eh a n S seen walk (.dat (lN more)) (.dat (iN cell))) = some ((L.filter p).map iN, Eh a n S seen walk (.dat (lN more)) (.dat (iN cell))) := by
      refine sComp_on L iN iN p (by simp [bodyP, bodyI, startE, startI, sSeq, sRet, sAsg, sExp, sIfS, sNx, sV, sB, sC, PD.s2, toT, sTr, truth, bne_dec, sChain, sAnd, sOr, sNot, sIf, tAnd', tOr', tNot', sNil, sCons, sCall, allD, sN, allR, PD.res, sTup, sLst, sFr, gN, gT, gsNil, gsCons, sIsi, tyName, isSub, sOrE, sM1, sM1T, ST.fAdd_int, fSub, fLe, fLt, fGt, fGe, eq_int, ne_int, cont?, setCont, List.replicate, fLen, sOwn, sApp, Eh, e1, sSq]) rfl (by omega) rfl fun y hy => ⟨_, rfl, rfl, ?_, ?_⟩
      · obtain ⟨Sl, hSl'⟩ : ∃ Z, Z = lN S := ⟨_, rfl⟩
        obtain ⟨Se, hSe⟩ : ∃ Z, Z = lN seen := ⟨_, rfl⟩
        obtain ⟨Mo, hMo⟩ : ∃ Z, Z = lN more := ⟨_, rfl⟩
        have q1 := in_lN y S
        have q2 := notIn_lN y seen
        have q3 := notIn_lN y more
        rw [← hSl'] at q1
        rw [← hSe] at q2
        rw [← hMo] at q3
        unfold Eh
        rw [← hSl', ← hSe, ← hMo]
        show _ = some (decide (y ∈ S) && (!decide (y ∈ seen) && !decide (y ∈ more)), _)
        by_cases k1 : y ∈ S
        · by_cases k2 : y ∈ seen
          · simp [bodyP, bodyI, startE, startI, sSeq, sRet, sAsg, sExp, sIfS, sNx, sV, sB, sC, PD.s2, toT, sTr, truth, bne_dec, sChain, sAnd, sOr, sNot, sIf, tAnd', tOr', tNot', sNil, sCons, sCall, allD, sN, allR, PD.res, sTup, sLst, sFr, gN, gT, gsNil, gsCons, sIsi, tyName, isSub, sOrE, sM1, sM1T, ST.fAdd_int, fSub, fLe, fLt, fGt, fGe, eq_int, ne_int, cont?, setCont, List.replicate, fLen, sOwn, sApp, wipeE, q1, q2, q3, k1, k2]
          · simp [bodyP, bodyI, startE, startI, sSeq, sRet, sAsg, sExp, sIfS, sNx, sV, sB, sC, PD.s2, toT, sTr, truth, bne_dec, sChain, sAnd, sOr, sNot, sIf, tAnd', tOr', tNot', sNil, sCons, sCall, allD, sN, allR, PD.res, sTup, sLst, sFr, gN, gT, gsNil, gsCons, sIsi, tyName, isSub, sOrE, sM1, sM1T, ST.fAdd_int, fSub, fLe, fLt, fGt, fGe, eq_int, ne_int, cont?, setCont, List.replicate, fLen, sOwn, sApp, wipeE, q1, q2, q3, k1, k2]
        · simp [bodyP, bodyI, startE, startI, sSeq, sRet, sAsg, sExp, sIfS, sNx, sV, sB, sC, PD.s2, toT, sTr, truth, bne_dec, sChain, sAnd, sOr, sNot, sIf, tAnd', tOr', tNot', sNil, sCons, sCall, allD, sN, allR, PD.res, sTup, sLst, sFr, gN, gT, gsNil, gsCons, sIsi, tyName, isSub, sOrE, sM1, sM1T, ST.fAdd_int, fSub, fLe, fLt, fGt, fGe, eq_int, ne_int, cont?, setCont, List.replicate, fLen, sOwn, sApp, wipeE, q1, q2, q3, k1]
      · simp [bodyP, bodyI, startE, startI, sSeq, sRet, sAsg, sExp, sIfS, sNx, sV, sB, sC, PD.s2, toT, sTr, truth, bne_dec, sChain, sAnd, sOr, sNot, sIf, tAnd', tOr', tNot', sNil, sCons, sCall, allD, sN, allR, PD.res, sTup, sLst, sFr, gN, gT, gsNil, gsCons, sIsi, tyName, isSub, sOrE, sM1, sM1T, ST.fAdd_int, fSub, fLe, fLt, fGt, fGe, eq_int, ne_int, cont?, setCont, List.replicate, fLen, sOwn, sApp, Eh, wipeE]
    have fm : ∀ x, x ∈ L.filter p ↔ x ∈ nbr a n cell ∧ x ∈ S ∧ x ∉ seen ∧ x ∉ more := fun x => by
      rw [List.mem_filter, hmem]
      simp [p]
    have M2 : Seen a n S (more ++ L.filter p) := by
      refine ⟨?_, fun x hx => ?_, fun side hside x hx => ?_⟩
      · rw [List.nodup_append]
        exact ⟨M.nd, List.Pairwise.filter _ hnd, fun x hx y hy z => ((fm y).mp hy).2.2.2 (by rw [← z]; exact hx)⟩
      · rcases List.mem_append.mp hx with q | q
        · exact M.sub x q
        · exact ((fm x).mp q).2.1
      · rcases List.mem_append.mp hx with q | q
        · exact M.reach side hside x q
        · have k := (fm x).mp q
          rw [← hside cell hcS x k.2.1 k.1]
          exact H.reach side hside cell (hw cell hcw)
    have dis2 : ∀ x ∈ more ++ L.filter p, x ∉ seen := fun x hx => by
      rcases List.mem_append.mp hx with q | q
      · exact dis x q
      · exact ((fm x).mp q).2.2.1
    have dn2 : ∀ (j x : Nat), j < i + 1 → walk[j]? = some x → ∀ y ∈ S, y ∈ nbr a n x → y ∈ seen ∨ y ∈ more ++ L.filter p := fun j x hj hx y hy hn => by
      by_cases hji : j < i
      · rcases dn j x hji hx y hy hn with z | z
        · exact .inl z
        · exact .inr (List.mem_append_left _ z)
      · have : j = i := by omega
        subst this
        rw [h1] at hx
        cases hx
        by_cases k1 : y ∈ seen
        · exact .inl k1
        · by_cases k2 : y ∈ more
          · exact .inr (List.mem_append_left _ k2)
          · exact .inr (List.mem_append_right _ ((fm y).mpr ⟨hn, hy, k1, k2⟩))
    have ml : more.length ≤ 100 := Nat.le_trans (nodup_leN M.nd M.sub) hSl
    have q : fAdd (lN more) (.list ((L.filter p).map iN)) = some (lN (more ++ L.filter p)) := fAdd_list (by have := List.length_filter_le p L; simp; omega) (by simp)
    refine ⟨Eh a n S seen walk (.dat (lN more)) (.dat (iN cell)), .nx, Eh a n S seen walk (.dat (lN (more ++ L.filter p))) (.dat (iN cell)), rfl, ?_, .inl rfl, _, _, rfl, M2, dis2, dn2⟩
    obtain ⟨Mo, hMo⟩ : ∃ Z, Z = lN more := ⟨_, rfl⟩
    obtain ⟨Mn, hMn⟩ : ∃ Z, Z = lN (more ++ L.filter p) := ⟨_, rfl⟩
    obtain ⟨F, hF⟩ : ∃ Z, Z = (L.filter p).map iN := ⟨_, rfl⟩
    unfold Eh at e2 ⊢
    rw [← hMo, ← hF] at e2 q
    rw [← hMn] at q
    rw [← hMo, ← hMn]
    unfold b1__law_hangs
    simp [bodyP, bodyI, startE, startI, sSeq, sRet, sAsg, sExp, sIfS, sNx, sV, sB, sC, PD.s2, toT, sTr, truth, bne_dec, sChain, sAnd, sOr, sNot, sIf, tAnd', tOr', tNot', sNil, sCons, sCall, allD, sN, allR, PD.res, sTup, sLst, sFr, gN, gT, gsNil, gsCons, sIsi, tyName, isSub, sOrE, sM1, sM1T, ST.fAdd_int, fSub, fLe, fLt, fGt, fGe, eq_int, ne_int, cont?, setCont, List.replicate, fLen, sOwn, sApp, e2, q]
  obtain ⟨ρ', e, more, y6, rfl, h1, h2, h3⟩ := this
  refine ⟨more, y6, e, h1, h2, fun x hx y hy hn => ?_⟩
  obtain ⟨j, hj, e2⟩ := List.getElem_of_mem hx
  exact h3 j x (by rw [List.length_map]; exact hj) (by rw [List.getElem?_eq_getElem hj, e2]) y hy hn
end ST
namespace ST
open PySem PD
theorem ne_nil (L : List Nat) : fNe (lN L) (.list []) = some (.bool (!decide (L = []))) := ne_toD (α := List Nat) L []
/-- all that touches what is found is found, but for what is still to be walked -/
def Clo (a n : Nat) (S seen walk : List Nat) : Prop := ∀ x ∈ seen, x ∉ walk → ∀ y ∈ S, y ∈ nbr a n x → y ∈ seen
theorem hangs_while {a n : Nat} {S : List Nat} (ha : a ∈ [3, 4]) (hn : n ∈ [1, 2, 3, 4]) (hS : ∀ x ∈ S, x ∈ List.range (1 + a * n)) (hSl : S.length ≤ 100) : ∀ (k : Nat) (seen walk : List Nat) (x5 x6 : Sl), Seen a n S seen → Clo a n S seen walk → (∀ x ∈ walk, x ∈ seen) → (if walk = [] then 1 else S.length - seen.length + 2) ≤ k →
    ∃ seen' walk' y5 y6, loopW (toT (s2 fNe (sV 4) (sFr (sLst sNil)))) b2__law_hangs k (Eh a n S seen walk x5 x6) = some (.nx, Eh a n S seen' walk' y5 y6) ∧ Seen a n S seen' ∧ Clo a n S seen' [] ∧ (∀ x ∈ seen, x ∈ seen')
  | 0, seen, walk, _, _, _, _, _, hk => by split at hk <;> omega
  | k + 1, seen, walk, x5, x6, H, Cl, hw, hk => by
    obtain ⟨W, hW⟩ : ∃ Z, Z = lN walk := ⟨_, rfl⟩
    have q := ne_nil walk
    rw [← hW] at q
    by_cases h : walk = []
    · refine ⟨seen, walk, x5, x6, ?_, H, by rw [h] at Cl; exact Cl, fun _ hx => hx⟩
      have t : toT (s2 fNe (sV 4) (sFr (sLst sNil))) (Eh a n S seen walk x5 x6) = some (false, Eh a n S seen walk x5 x6) := by
        unfold Eh
        rw [← hW]
        simp [bodyP, bodyI, startE, startI, sSeq, sRet, sAsg, sExp, sIfS, sNx, sV, sB, sC, PD.s2, toT, sTr, truth, bne_dec, sChain, sAnd, sOr, sNot, sIf, tAnd', tOr', tNot', sNil, sCons, sCall, allD, sN, allR, PD.res, sTup, sLst, sFr, gN, gT, gsNil, gsCons, sIsi, tyName, isSub, sOrE, sM1, sM1T, ST.fAdd_int, fSub, fLe, fLt, fGt, fGe, eq_int, ne_int, cont?, setCont, List.replicate, fLen, sOwn, sApp, sLst, q, h]
      unfold loopW
      rw [t]
    · rw [if_neg h] at hk
      have t : toT (s2 fNe (sV 4) (sFr (sLst sNil))) (Eh a n S seen walk x5 x6) = some (true, Eh a n S seen walk x5 x6) := by
        unfold Eh
        rw [← hW]
        simp [bodyP, bodyI, startE, startI, sSeq, sRet, sAsg, sExp, sIfS, sNx, sV, sB, sC, PD.s2, toT, sTr, truth, bne_dec, sChain, sAnd, sOr, sNot, sIf, tAnd', tOr', tNot', sNil, sCons, sCall, allD, sN, allR, PD.res, sTup, sLst, sFr, gN, gT, gsNil, gsCons, sIsi, tyName, isSub, sOrE, sM1, sM1T, ST.fAdd_int, fSub, fLe, fLt, fGt, fGe, eq_int, ne_int, cont?, setCont, List.replicate, fLen, sOwn, sApp, sLst, q, h]
      obtain ⟨more, y6, e, M, dis, near⟩ := hangs_walk (x6 := x6) ha hn hS hSl H hw
      have sl : seen.length ≤ 100 := Nat.le_trans (nodup_leN H.nd H.sub) hSl
      have ml : more.length ≤ 100 := Nat.le_trans (nodup_leN M.nd M.sub) hSl
      have H2 : Seen a n S (seen ++ more) := by
        refine ⟨?_, fun x hx => ?_, fun side hs x hx => ?_⟩
        · rw [List.nodup_append]
          exact ⟨H.nd, M.nd, fun x hx y hy z => dis y hy (by rw [← z]; exact hx)⟩
        · rcases List.mem_append.mp hx with w | w
          · exact H.sub x w
          · exact M.sub x w
        · rcases List.mem_append.mp hx with w | w
          · exact H.reach side hs x w
          · exact M.reach side hs x w
      have Cl2 : Clo a n S (seen ++ more) more := fun x hx hm y hy hnb => by
        have hs : x ∈ seen := by
          rcases List.mem_append.mp hx with w | w
          · exact w
          · exact absurd w hm
        by_cases hwk : x ∈ walk
        · rcases near x hwk y hy hnb with w | w
          · exact List.mem_append_left _ w
          · exact List.mem_append_right _ w
        · exact List.mem_append_left _ (Cl x hs hwk y hy hnb)
      have l2 := nodup_leN H2.nd H2.sub
      rw [List.length_append] at l2
      have qa : fAdd (lN seen) (lN more) = some (lN (seen ++ more)) := fAdd_list (by simp; omega) (by simp)
      have body : b2__law_hangs (Eh a n S seen walk x5 x6) = some (.nx, Eh a n S (seen ++ more) more (.dat (lN more)) y6) := by
        obtain ⟨Se, hSe⟩ : ∃ Z, Z = lN seen := ⟨_, rfl⟩
        obtain ⟨Mo, hMo⟩ : ∃ Z, Z = lN more := ⟨_, rfl⟩
        obtain ⟨Sm, hSm⟩ : ∃ Z, Z = lN (seen ++ more) := ⟨_, rfl⟩
        unfold Eh at e ⊢
        rw [← hSe, ← hMo] at e qa
        rw [← hSm] at qa
        rw [← hSe, ← hMo, ← hSm]
        rw [show lN [] = PyData.list [] from rfl] at e
        unfold b2__law_hangs
        simp [bodyP, bodyI, startE, startI, sSeq, sRet, sAsg, sExp, sIfS, sNx, sV, sB, sC, PD.s2, toT, sTr, truth, bne_dec, sChain, sAnd, sOr, sNot, sIf, tAnd', tOr', tNot', sNil, sCons, sCall, allD, sN, allR, PD.res, sTup, sLst, sFr, gN, gT, gsNil, gsCons, sIsi, tyName, isSub, sOrE, sM1, sM1T, ST.fAdd_int, fSub, fLe, fLt, fGt, fGe, eq_int, ne_int, cont?, setCont, List.replicate, fLen, sOwn, sApp, sLst, e, qa]
      obtain ⟨seen', walk', y5, z6, e2, H3, C3, S3⟩ := hangs_while ha hn hS hSl k (seen ++ more) more (.dat (lN more)) y6 H2 Cl2 (fun x hx => List.mem_append_right _ hx) (by
        by_cases hm : more = []
        · rw [if_pos hm]; omega
        · rw [if_neg hm, List.length_append]
          have : 0 < more.length := List.length_pos_iff.mpr hm
          omega)
      refine ⟨seen', walk', y5, z6, ?_, H3, C3, fun x hx => S3 x (List.mem_append_left _ hx)⟩
      unfold loopW
      rw [t]
      dsimp only
      rw [body]
      exact e2
theorem law_hangs2 {a n : Nat} {S : List Nat} (ha : a ∈ [3, 4]) (hn : n ∈ [1, 2, 3, 4]) (hS : ∀ x ∈ S, x ∈ List.range (1 + a * n)) (hSl : S.length ≤ 100) (ne : S ≠ []) :
    ∃ seen, p__law_hangs [iN a, iN n, lN S] = some (.bool (decide (seen.length = S.length))) ∧ Seen a n S seen ∧ Clo a n S seen [] ∧ S.headD 0 ∈ seen := by
  obtain ⟨h0, S', rfl⟩ := List.exists_cons_of_ne_nil ne
  have H0 : Seen a n (h0 :: S') [h0] := ⟨by simp, fun x hx => by simp at hx; simp [hx], fun side _ x hx => by simp at hx; rw [hx]; rfl⟩
  obtain ⟨seen, walk, y5, y6, e, H, Cl, S3⟩ := hangs_while ha hn hS hSl 100000 [h0] [h0] .un .un H0 (fun x hx hm => absurd hx hm) (fun x hx => hx) (by
    rw [if_neg (by simp)]
    have : (h0 :: S').length ≤ 100 := hSl
    omega)
  refine ⟨seen, ?_, H, Cl, S3 h0 (by simp)⟩
  have q := ne_nil (h0 :: S')
  have c1 : cutD ((h0 :: S').map iN) none (some 1) = [iN h0] := by
    have := cut_hi ((h0 :: S').map iN) 1 (by simp)
    exact this
  obtain ⟨LS, hLS⟩ : ∃ Z, Z = (h0 :: S').map iN := ⟨_, rfl⟩
  have hl : LS.length = S'.length + 1 := by rw [hLS]; simp
  have e' : w1__law_hangs [.dat (iN a), .dat (iN n), .dat (.list LS), .dat (.list [iN h0]), .dat (.list [iN h0]), .un, .un, .un] = some (.nx, Eh a n (h0 :: S') seen walk y5 y6) := by
    rw [hLS]
    exact e
  have q' : fNe (.list LS) (.list []) = some (.bool true) := by
    rw [hLS]
    exact q
  rw [← hLS] at c1
  obtain ⟨W, hW⟩ : ∃ Z, Z = lN walk := ⟨_, rfl⟩
  obtain ⟨Se, hSe⟩ : ∃ Z, Z = seen.map iN := ⟨_, rfl⟩
  have hsl : Se.length = seen.length := by rw [hSe]; simp
  unfold Eh at e'
  unfold lN at e' hW
  rw [← hLS] at e'
  show p__law_hangs [iN a, iN n, .list ((h0 :: S').map iN)] = _
  rw [← hLS]
  rw [← hSe] at e'
  unfold p__law_hangs g__law_hangs
  simp [bodyP, bodyI, startE, startI, sSeq, sRet, sAsg, sExp, sIfS, sNx, sV, sB, sC, PD.s2, toT, sTr, truth, bne_dec, sChain, sAnd, sOr, sNot, sIf, tAnd', tOr', tNot', sNil, sCons, sCall, allD, sN, allR, PD.res, sTup, sLst, sFr, gN, gT, gsNil, gsCons, sIsi, tyName, isSub, sOrE, sM1, sM1T, ST.fAdd_int, fSub, fLe, fLt, fGt, fGe, eq_int, ne_int, cont?, setCont, List.replicate, fLen, sOwn, sApp, sSl, fSl, pNone, pSome, c1, e', sLst, q', hl, hsl]
  omega
theorem law_hangs {a n : Nat} {S : List Nat} (ha : a ∈ [3, 4]) (hn : n ∈ [1, 2, 3, 4]) (hS : ∀ x ∈ S, x ∈ List.range (1 + a * n)) (hSl : S.length ≤ 100) (ne : S ≠ []) :
    ∃ seen, p__law_hangs [iN a, iN n, lN S] = some (.bool (decide (seen.length = S.length))) ∧ Seen a n S seen := by
  obtain ⟨seen, e, H, _⟩ := law_hangs2 ha hn hS hSl ne
  exact ⟨seen, e, H⟩
end ST
namespace ST
open PySem PD
def side (n c p x : Nat) : Bool := if c = 0 then decide ((x - 1) / n = (p - 1) / n) else decide (c < x ∧ (x - 1) / n = (c - 1) / n)
theorem fin_side : ∀ a ∈ [3, 4], ∀ n ∈ [1, 2, 3, 4], ∀ c ∈ List.range (1 + a * n), ∀ p ∈ nbr a n c, (∀ x ∈ List.range (1 + a * n), x ≠ c → ∀ y ∈ nbr a n x, y ≠ c → side n c p x = side n c p y) ∧ ∀ q ∈ nbr a n c, p ≠ q → side n c p p ≠ side n c p q := by decide +kernel
theorem fin_out : ∀ a ∈ [3, 4], ∀ n ∈ [1, 2, 3, 4], ∀ y ∈ List.range (1 + a * n), y ≠ 0 → y ∈ nbr a n (inner n y) := by decide +kernel
theorem root_by (n : Nat) (cells : List Nat) (c : Nat) : ∃ r, r ≤ c ∧ isRoot n cells r ∧ ca cells r = ca cells c ∧ (r = c ∨ ∃ y, y ≤ c ∧ y ≠ 0 ∧ inner n y = r ∧ ca cells y = ca cells c) := by
  induction c using Nat.strongRecOn with
  | ind c ih =>
    by_cases h : isRoot n cells c
    · exact ⟨c, Nat.le_refl _, h, rfl, .inl rfl⟩
    · have h0 : c ≠ 0 := fun z => h (.inl z)
      have h1 : ca cells c = ca cells (inner n c) := Classical.byContradiction fun z => h (.inr z)
      have lt := inner_lt (n := n) (by omega : 0 < c)
      obtain ⟨r, k1, k2, k3, k4⟩ := ih _ lt
      refine ⟨r, by omega, k2, by rw [k3, h1], .inr ?_⟩
      rcases k4 with k4 | ⟨y, y1, y2, y3, y4⟩
      · exact ⟨c, Nat.le_refl _, h0, k4.symm, rfl⟩
      · exact ⟨y, by omega, y2, y3, by rw [y4, h1]⟩
section
variable {a n m : Nat} {cells : List Nat}
/-- what else is of the land of c -/
def restOf (cells : List Nat) (c : Nat) : List Nat := (List.range cells.length).filter fun x => decide (ca cells x = ca cells c) && !decide (x = c)
theorem Valid.sound (V : Valid a n m cells) {l c : Nat} {seen : List Nat} (hc : c < cells.length) (h1 : l ≠ ca cells c) (h2 : ∃ p ∈ nbr a n c, ca cells p = l) (h3 : restOf cells c ≠ []) (h4 : seen.length = (restOf cells c).length) (H : Seen a n (restOf cells c) seen) : canMk (nbr a n c) cells l c = true := by
  have mr : ∀ x, x ∈ restOf cells c ↔ x < cells.length ∧ ca cells x = ca cells c ∧ x ≠ c := fun x => by
    unfold restOf
    simp [List.mem_filter]
  have ndr : (restOf cells c).Nodup := List.Pairwise.filter _ List.nodup_range
  have full : ∀ x ∈ restOf cells c, x ∈ seen := fun x hx => by
    refine Classical.byContradiction fun z => ?_
    have := nodup_leN (a := x :: seen) (b := restOf cells c) (List.nodup_cons.mpr ⟨z, H.nd⟩) fun k hk => by
      rcases List.mem_cons.mp hk with rfl | hk
      · exact hx
      · exact H.sub k hk
    simp at this
    omega
  obtain ⟨e1, e2, e3⟩ := V.nbr_eq hc
  have lt := V.nbr_lt hc
  -- at least one
  have pos : 0 < (near cells (nbr a n c)).count (ca cells c) := by
    obtain ⟨x, hx⟩ := List.exists_mem_of_ne_nil _ h3
    obtain ⟨x1, x2, x3⟩ := (mr x).mp hx
    refine List.count_pos_iff.mpr ?_
    refine Classical.byContradiction fun none => ?_
    have no : ∀ p ∈ nbr a n c, ca cells p ≠ ca cells c := fun p hp z => none (List.mem_map.mpr ⟨p, hp, z⟩)
    have rc : isRoot n cells c := by
      by_cases h0 : c = 0
      · exact .inl h0
      · refine .inr fun z => ?_
        have : inner n c ∈ nbr a n c := by
          unfold nbr
          rw [if_neg h0]
          split <;> simp
        exact no _ this z.symm
    obtain ⟨r, k1, k2, k3, k4⟩ := root_by n cells x
    have er : r = c := V.unique (by omega) hc k2 rc (by rw [k3, x2])
    rcases k4 with k4 | ⟨y, y1, y2, y3, y4⟩
    · exact x3 (by rw [← k4, er])
    · have := fin_out a V.a_mem n V.n_mem y (V.c_mem (by omega)) y2
      rw [y3, er] at this
      exact no y this (by rw [y4, x2])
  -- at most one
  have one : (near cells (nbr a n c)).count (ca cells c) ≤ 1 := by
    refine count_one e3 fun p hp q hq ep eq => Classical.byContradiction fun pq => ?_
    obtain ⟨f1, f2⟩ := fin_side a V.a_mem n V.n_mem c (V.c_mem hc) p hp
    have hp' := (mr p).mpr ⟨lt p hp, ep, fun z => e2 (by rw [z] at hp; exact hp)⟩
    have hq' := (mr q).mpr ⟨lt q hq, eq, fun z => e2 (by rw [z] at hq; exact hq)⟩
    have cl : ∀ x ∈ restOf cells c, ∀ y ∈ restOf cells c, y ∈ nbr a n x → side n c p x = side n c p y := fun x hx y hy hn => f1 x (V.c_mem ((mr x).mp hx).1) ((mr x).mp hx).2.2 y hn ((mr y).mp hy).2.2
    have s1 := H.reach (side n c p) cl p (full p hp')
    have s2 := H.reach (side n c p) cl q (full q hq')
    exact f2 q hq pq (by rw [s1, s2])
  unfold canMk
  simp only [Bool.and_eq_true, decide_eq_true_eq]
  obtain ⟨p, hp, e⟩ := h2
  exact ⟨h1, List.mem_map.mpr ⟨p, hp, e⟩, by omega⟩
end
end ST
namespace ST
open PySem PD
section
variable {a n m : Nat} {cells : List Nat}
def Et (a n : Nat) (cells : List Nat) (T : List (Nat × Nat)) (x5 x6 x7 x8 : Sl) : Ev := [.dat (ch a cells), .dat (iN a), .dat (tN cells), .dat (iN n), .own (T.map tkD), x5, x6, x7, x8, .un]
/-- takings that can be made, not many -/
def Tk (a n m : Nat) (cells : List Nat) (T : List (Nat × Nat)) (k : Nat) : Prop := (∀ t ∈ T, t.1 < m ∧ t.2 < cells.length ∧ canMk (nbr a n t.2) cells t.1 t.2 = true) ∧ T.length ≤ k
theorem takings_in (V : Valid a n m cells) {l : Nat} {T : List (Nat × Nat)} {k : Nat} {x6 x7 x8 : Sl} (hl : l < m) (hT : Tk a n m cells T k) (hk : k < 900) :
    ∃ T' y6 y7 y8, l1__law_takings (Et a n cells T (.dat (iN l)) x6 x7 x8) = some (.nx, Et a n cells T' (.dat (iN l)) y6 y7 y8) ∧ Tk a n m cells T' (k + cells.length) := by
  have hlen := V.len_lt
  have : ∃ ρ', l1__law_takings (Et a n cells T (.dat (iN l)) x6 x7 x8) = some (.nx, ρ') ∧ ∃ T' y6 y7 y8, ρ' = Et a n cells T' (.dat (iN l)) y6 y7 y8 ∧ Tk a n m cells T' (k + ((List.range cells.length).map iN).length) := by
    refine sFor_inv (items := (List.range cells.length).map iN) (ρ1 := Et a n cells T (.dat (iN l)) x6 x7 x8) (fun i ρ => ∃ T' y6 y7 y8, ρ = Et a n cells T' (.dat (iN l)) y6 y7 y8 ∧ Tk a n m cells T' (k + i)) (sRg1_small (by simp [bodyP, bodyI, startE, startI, sSeq, sRet, sAsg, sExp, sIfS, sNx, sV, sB, sC, PD.s2, toT, sTr, truth, bne_dec, sChain, sAnd, sOr, sNot, sIf, tAnd', tOr', tNot', sNil, sCons, sCall, allD, sN, allR, PD.res, sTup, sLst, sFr, gN, gT, gsNil, gsCons, sIsi, tyName, isSub, sOrE, sM1, sM1T, ST.fAdd_int, fSub, fLe, fLt, fGt, fGe, eq_int, ne_int, cont?, setCont, List.replicate, fLen, sOwn, sApp, Et]) (by omega)) ⟨T, x6, x7, x8, rfl, hT⟩ ?_
    rintro i d ρ hd ⟨T1, y6, y7, y8, rfl, hT1⟩
    rw [List.getElem?_map, Option.map_eq_some_iff] at hd
    obtain ⟨c, h1, rfl⟩ := hd
    obtain ⟨hi, h2⟩ := List.getElem?_eq_some_iff.mp h1
    rw [List.getElem_range] at h2
    rw [List.length_range] at hi
    subst h2
    have hc : i < cells.length := hi
    have q0 := (ix_map (f := iN) (ca_some hc)).2
    obtain ⟨L, e1, hmem, hll, hnd⟩ := law_near V.a_mem V.n_mem (V.c_mem hc)
    obtain ⟨Tm, hTm⟩ : ∃ Z, Z = T1.map tkD := ⟨_, rfl⟩
    have hTl : Tm.length < 1000000 := by rw [hTm, List.length_map]; have := hT1.2; omega
    obtain ⟨C, hC⟩ : ∃ Z, Z = tN cells := ⟨_, rfl⟩
    obtain ⟨Ch, hCh⟩ : ∃ Z, Z = ch a cells := ⟨_, rfl⟩
    have hlenC : fLen [C] = some (iN cells.length) := by rw [hC]; show some (PyData.int _) = _; simp
    have ixC : ∀ x, x < cells.length → fIx C (iN x) = some (iN (ca cells x)) := fun x hx => by rw [hC]; exact (ix_map (f := iN) (ca_some hx)).2
    have skip : Tk a n m cells T1 (k + (i + 1)) := ⟨hT1.1, by have := hT1.2; omega⟩
    by_cases ho : l = ca cells i
    · refine ⟨Et a n cells T1 (.dat (iN l)) (.dat (iN i)) y7 y8, .nx, Et a n cells T1 (.dat (iN l)) (.dat (iN i)) (.dat (iN (ca cells i))) y8, rfl, ?_, .inl rfl, _, _, _, _, rfl, skip⟩
      unfold Et b1__law_takings
      rw [← hC, ← hTm, ← hCh]
      simp [bodyP, bodyI, startE, startI, sSeq, sRet, sAsg, sExp, sIfS, sNx, sV, sB, sC, PD.s2, toT, sTr, truth, bne_dec, sChain, sAnd, sOr, sNot, sIf, tAnd', tOr', tNot', sNil, sCons, sCall, allD, sN, allR, PD.res, sTup, sLst, sFr, gN, gT, gsNil, gsCons, sIsi, tyName, isSub, sOrE, sM1, sM1T, ST.fAdd_int, fSub, fLe, fLt, fGt, fGe, eq_int, ne_int, cont?, setCont, List.replicate, fLen, sOwn, sApp, ixC i hc, ho]
    · have ho' : ¬ ((ca cells i : Nat) : Int) = (l : Nat) := by omega
      have c1 : c1__law_takings [.dat Ch, .dat (iN a), .dat C, .dat (iN n), .own Tm, .dat (iN l), .dat (iN i), .dat (iN (ca cells i)), y8, .un] = some ((L.filter fun x => decide (ca cells x = l)).map iN, [.dat Ch, .dat (iN a), .dat C, .dat (iN n), .own Tm, .dat (iN l), .dat (iN i), .dat (iN (ca cells i)), y8, .un]) := by
        refine sComp_on L iN iN _ (by simp [bodyP, bodyI, startE, startI, sSeq, sRet, sAsg, sExp, sIfS, sNx, sV, sB, sC, PD.s2, toT, sTr, truth, bne_dec, sChain, sAnd, sOr, sNot, sIf, tAnd', tOr', tNot', sNil, sCons, sCall, allD, sN, allR, PD.res, sTup, sLst, sFr, gN, gT, gsNil, gsCons, sIsi, tyName, isSub, sOrE, sM1, sM1T, ST.fAdd_int, fSub, fLe, fLt, fGt, fGe, eq_int, ne_int, cont?, setCont, List.replicate, fLen, sOwn, sApp, e1, sSq]) rfl (by omega) rfl fun y hy => ⟨_, rfl, rfl, ?_, ?_⟩
        · simp [bodyP, bodyI, startE, startI, sSeq, sRet, sAsg, sExp, sIfS, sNx, sV, sB, sC, PD.s2, toT, sTr, truth, bne_dec, sChain, sAnd, sOr, sNot, sIf, tAnd', tOr', tNot', sNil, sCons, sCall, allD, sN, allR, PD.res, sTup, sLst, sFr, gN, gT, gsNil, gsCons, sIsi, tyName, isSub, sOrE, sM1, sM1T, ST.fAdd_int, fSub, fLe, fLt, fGt, fGe, eq_int, ne_int, cont?, setCont, List.replicate, fLen, sOwn, sApp, wipeE, ixC y (V.nbr_lt hc y ((hmem y).mp hy))]
          omega
        · simp [bodyP, bodyI, startE, startI, sSeq, sRet, sAsg, sExp, sIfS, sNx, sV, sB, sC, PD.s2, toT, sTr, truth, bne_dec, sChain, sAnd, sOr, sNot, sIf, tAnd', tOr', tNot', sNil, sCons, sCall, allD, sN, allR, PD.res, sTup, sLst, sFr, gN, gT, gsNil, gsCons, sIsi, tyName, isSub, sOrE, sM1, sM1T, ST.fAdd_int, fSub, fLe, fLt, fGt, fGe, eq_int, ne_int, cont?, setCont, List.replicate, fLen, sOwn, sApp, wipeE]
      have qn := ne_nil (L.filter fun x => decide (ca cells x = l))
      obtain ⟨Lf, hLf⟩ : ∃ Z, Z = (L.filter fun x => decide (ca cells x = l)).map iN := ⟨_, rfl⟩
      rw [show lN (L.filter fun x => decide (ca cells x = l)) = PyData.list Lf from by rw [hLf]] at qn
      rw [← hLf] at c1
      by_cases hn : L.filter (fun x => decide (ca cells x = l)) = []
      · rw [decide_eq_true hn] at qn
        refine ⟨Et a n cells T1 (.dat (iN l)) (.dat (iN i)) y7 y8, .nx, Et a n cells T1 (.dat (iN l)) (.dat (iN i)) (.dat (iN (ca cells i))) y8, rfl, ?_, .inl rfl, _, _, _, _, rfl, skip⟩
        unfold Et b1__law_takings
        rw [← hC, ← hTm, ← hCh]
        simp [bodyP, bodyI, startE, startI, sSeq, sRet, sAsg, sExp, sIfS, sNx, sV, sB, sC, PD.s2, toT, sTr, truth, bne_dec, sChain, sAnd, sOr, sNot, sIf, tAnd', tOr', tNot', sNil, sCons, sCall, allD, sN, allR, PD.res, sTup, sLst, sFr, gN, gT, gsNil, gsCons, sIsi, tyName, isSub, sOrE, sM1, sM1T, ST.fAdd_int, fSub, fLe, fLt, fGt, fGe, eq_int, ne_int, cont?, setCont, List.replicate, fLen, sOwn, sApp, ixC i hc, ho', c1, qn, sLst]
      · rw [decide_eq_false hn] at qn
        obtain ⟨p, hp⟩ := List.exists_mem_of_ne_nil _ hn
        have hp1 := (hmem p).mp (List.mem_filter.mp hp).1
        have hp2 := of_decide_eq_true (List.mem_filter.mp hp).2
        have c2 : c2__law_takings [.dat Ch, .dat (iN a), .dat C, .dat (iN n), .own Tm, .dat (iN l), .dat (iN i), .dat (iN (ca cells i)), y8, .un] = some ((restOf cells i).map iN, [.dat Ch, .dat (iN a), .dat C, .dat (iN n), .own Tm, .dat (iN l), .dat (iN i), .dat (iN (ca cells i)), y8, .un]) := by
          refine sComp_on (List.range cells.length) iN iN _ (sRg1_small (by have := hlenC; rw [hC]; simp [bodyP, bodyI, startE, startI, sSeq, sRet, sAsg, sExp, sIfS, sNx, sV, sB, sC, PD.s2, toT, sTr, truth, bne_dec, sChain, sAnd, sOr, sNot, sIf, tAnd', tOr', tNot', sNil, sCons, sCall, allD, sN, allR, PD.res, sTup, sLst, sFr, gN, gT, gsNil, gsCons, sIsi, tyName, isSub, sOrE, sM1, sM1T, ST.fAdd_int, fSub, fLe, fLt, fGt, fGe, eq_int, ne_int, cont?, setCont, List.replicate, fLen, sOwn, sApp]) (by omega)) rfl (by simp; omega) rfl fun y hy => ⟨_, rfl, rfl, ?_, ?_⟩
          · have hy := List.mem_range.mp hy
            by_cases k1 : ca cells y = ca cells i
            · simp [bodyP, bodyI, startE, startI, sSeq, sRet, sAsg, sExp, sIfS, sNx, sV, sB, sC, PD.s2, toT, sTr, truth, bne_dec, sChain, sAnd, sOr, sNot, sIf, tAnd', tOr', tNot', sNil, sCons, sCall, allD, sN, allR, PD.res, sTup, sLst, sFr, gN, gT, gsNil, gsCons, sIsi, tyName, isSub, sOrE, sM1, sM1T, ST.fAdd_int, fSub, fLe, fLt, fGt, fGe, eq_int, ne_int, cont?, setCont, List.replicate, fLen, sOwn, sApp, wipeE, ixC y hy, k1]
              omega
            · have k1' : ¬ ((ca cells y : Nat) : Int) = (ca cells i : Nat) := by omega
              simp [bodyP, bodyI, startE, startI, sSeq, sRet, sAsg, sExp, sIfS, sNx, sV, sB, sC, PD.s2, toT, sTr, truth, bne_dec, sChain, sAnd, sOr, sNot, sIf, tAnd', tOr', tNot', sNil, sCons, sCall, allD, sN, allR, PD.res, sTup, sLst, sFr, gN, gT, gsNil, gsCons, sIsi, tyName, isSub, sOrE, sM1, sM1T, ST.fAdd_int, fSub, fLe, fLt, fGt, fGe, eq_int, ne_int, cont?, setCont, List.replicate, fLen, sOwn, sApp, wipeE, ixC y hy, k1, k1']
          · simp [bodyP, bodyI, startE, startI, sSeq, sRet, sAsg, sExp, sIfS, sNx, sV, sB, sC, PD.s2, toT, sTr, truth, bne_dec, sChain, sAnd, sOr, sNot, sIf, tAnd', tOr', tNot', sNil, sCons, sCall, allD, sN, allR, PD.res, sTup, sLst, sFr, gN, gT, gsNil, gsCons, sIsi, tyName, isSub, sOrE, sM1, sM1T, ST.fAdd_int, fSub, fLe, fLt, fGt, fGe, eq_int, ne_int, cont?, setCont, List.replicate, fLen, sOwn, sApp, wipeE]
        have rl : (restOf cells i).length ≤ 100 := by
          have := List.length_filter_le (fun x => decide (ca cells x = ca cells i) && !decide (x = i)) (List.range cells.length)
          rw [List.length_range] at this
          exact Nat.le_trans this (by omega)
        have qr := ne_nil (restOf cells i)
        obtain ⟨Rs, hRs⟩ : ∃ Z, Z = (restOf cells i).map iN := ⟨_, rfl⟩
        rw [show lN (restOf cells i) = PyData.list Rs from by rw [hRs]] at qr
        rw [← hRs] at c2
        by_cases hr : restOf cells i = []
        · rw [decide_eq_true hr] at qr
          refine ⟨Et a n cells T1 (.dat (iN l)) (.dat (iN i)) y7 y8, .nx, Et a n cells T1 (.dat (iN l)) (.dat (iN i)) (.dat (iN (ca cells i))) (.dat (.list Rs)), rfl, ?_, .inl rfl, _, _, _, _, rfl, skip⟩
          unfold Et b1__law_takings
          rw [← hC, ← hTm, ← hCh]
          simp [bodyP, bodyI, startE, startI, sSeq, sRet, sAsg, sExp, sIfS, sNx, sV, sB, sC, PD.s2, toT, sTr, truth, bne_dec, sChain, sAnd, sOr, sNot, sIf, tAnd', tOr', tNot', sNil, sCons, sCall, allD, sN, allR, PD.res, sTup, sLst, sFr, gN, gT, gsNil, gsCons, sIsi, tyName, isSub, sOrE, sM1, sM1T, ST.fAdd_int, fSub, fLe, fLt, fGt, fGe, eq_int, ne_int, cont?, setCont, List.replicate, fLen, sOwn, sApp, ixC i hc, ho', c1, qn, sLst, c2, qr]
        · rw [decide_eq_false hr] at qr
          obtain ⟨seen, e3, H⟩ := law_hangs V.a_mem V.n_mem (S := restOf cells i) (fun x hx => by
            have := (List.mem_filter.mp hx).1
            rw [← V.len]
            exact this) rl hr
          rw [show lN (restOf cells i) = PyData.list Rs from by rw [hRs]] at e3
          by_cases hs : seen.length = (restOf cells i).length
          · rw [decide_eq_true hs] at e3
            have ok := V.sound hc ho ⟨p, hp1, hp2⟩ hr hs H
            have next : Tk a n m cells (T1 ++ [(l, i)]) (k + (i + 1)) := by
              refine ⟨fun t ht => ?_, by have := hT1.2; simp; omega⟩
              rcases List.mem_append.mp ht with w | w
              · exact hT1.1 t w
              · simp at w
                rw [w]
                exact ⟨hl, hc, ok⟩
            refine ⟨Et a n cells T1 (.dat (iN l)) (.dat (iN i)) y7 y8, .nx, Et a n cells (T1 ++ [(l, i)]) (.dat (iN l)) (.dat (iN i)) (.dat (iN (ca cells i))) (.dat (.list Rs)), rfl, ?_, .inl rfl, _, _, _, _, rfl, next⟩
            unfold Et b1__law_takings
            rw [List.map_append, ← hC, ← hTm, ← hCh]
            simp [bodyP, bodyI, startE, startI, sSeq, sRet, sAsg, sExp, sIfS, sNx, sV, sB, sC, PD.s2, toT, sTr, truth, bne_dec, sChain, sAnd, sOr, sNot, sIf, tAnd', tOr', tNot', sNil, sCons, sCall, allD, sN, allR, PD.res, sTup, sLst, sFr, gN, gT, gsNil, gsCons, sIsi, tyName, isSub, sOrE, sM1, sM1T, ST.fAdd_int, fSub, fLe, fLt, fGt, fGe, eq_int, ne_int, cont?, setCont, List.replicate, fLen, sOwn, sApp, ixC i hc, ho', c1, qn, sLst, c2, qr, e3, hTl]
          · rw [decide_eq_false hs] at e3
            refine ⟨Et a n cells T1 (.dat (iN l)) (.dat (iN i)) y7 y8, .nx, Et a n cells T1 (.dat (iN l)) (.dat (iN i)) (.dat (iN (ca cells i))) (.dat (.list Rs)), rfl, ?_, .inl rfl, _, _, _, _, rfl, skip⟩
            unfold Et b1__law_takings
            rw [← hC, ← hTm, ← hCh]
            simp [bodyP, bodyI, startE, startI, sSeq, sRet, sAsg, sExp, sIfS, sNx, sV, sB, sC, PD.s2, toT, sTr, truth, bne_dec, sChain, sAnd, sOr, sNot, sIf, tAnd', tOr', tNot', sNil, sCons, sCall, allD, sN, allR, PD.res, sTup, sLst, sFr, gN, gT, gsNil, gsCons, sIsi, tyName, isSub, sOrE, sM1, sM1T, ST.fAdd_int, fSub, fLe, fLt, fGt, fGe, eq_int, ne_int, cont?, setCont, List.replicate, fLen, sOwn, sApp, ixC i hc, ho', c1, qn, sLst, c2, qr, e3]
  obtain ⟨ρ', e, T', y6, y7, y8, rfl, h⟩ := this
  exact ⟨T', y6, y7, y8, e, by simpa using h⟩
end
end ST
namespace ST
open PySem PD
section
variable {a n m : Nat} {cells : List Nat}
theorem law_takings (V : Valid a n m cells) : ∃ T, p__law_takings [ch a cells] = some (.list (T.map tkD)) ∧ Tk a n m cells T 100 := by
  have hlen := V.len_lt
  have hm := V.hm
  have hn := V.hn
  have ha := V.ha
  have ne : cells ≠ [] := fun z => by rw [z] at hlen; simp at hlen
  have rg : sRg1 (sCons (s2 fAdd (sN fMax (sCons (sV 2) sNil)) (sC (.int 1))) sNil) (Et a n cells [] .un .un .un .un) = some ((List.range m).map iN, Et a n cells [] .un .un .un .un) := by
    have hmx : ((PD.maxN cells : Nat) : Int) + 1 = (m : Nat) := by rw [V.maxN]; omega
    refine sRg1_int (z := (PD.maxN cells : Nat) + 1) (by simp [bodyP, bodyI, startE, startI, sSeq, sRet, sAsg, sExp, sIfS, sNx, sV, sB, sC, PD.s2, toT, sTr, truth, bne_dec, sChain, sAnd, sOr, sNot, sIf, tAnd', tOr', tNot', sNil, sCons, sCall, allD, sN, allR, PD.res, sTup, sLst, sFr, gN, gT, gsNil, gsCons, sIsi, tyName, isSub, sOrE, sM1, sM1T, ST.fAdd_int, fSub, fLe, fLt, fGt, fGe, eq_int, ne_int, cont?, setCont, List.replicate, fLen, sOwn, sApp, Et, fMax_tN ne]) hmx (by omega)
  have : ∃ ρ', l2__law_takings (Et a n cells [] .un .un .un .un) = some (.nx, ρ') ∧ ∃ T' y5 y6 y7 y8, ρ' = Et a n cells T' y5 y6 y7 y8 ∧ Tk a n m cells T' (((List.range m).map iN).length * cells.length) := by
    refine sFor_inv (items := (List.range m).map iN) (ρ1 := Et a n cells [] .un .un .un .un) (fun i ρ => ∃ T' y5 y6 y7 y8, ρ = Et a n cells T' y5 y6 y7 y8 ∧ Tk a n m cells T' (i * cells.length)) rg ⟨[], _, _, _, _, rfl, fun _ h => (by cases h), by simp⟩ ?_
    rintro i d ρ hd ⟨T1, y5, y6, y7, y8, rfl, hT1⟩
    rw [List.getElem?_map, Option.map_eq_some_iff] at hd
    obtain ⟨i', h1, rfl⟩ := hd
    obtain ⟨hi, h2⟩ := List.getElem?_eq_some_iff.mp h1
    rw [List.getElem_range] at h2
    rw [List.length_range] at hi
    subst h2
    have bound : i * cells.length ≤ 5 * 17 := Nat.mul_le_mul (by omega) hlen.2
    obtain ⟨T2, z6, z7, z8, e, h⟩ := takings_in (x6 := y6) (x7 := y7) (x8 := y8) V hi hT1 (by omega)
    refine ⟨Et a n cells T1 (.dat (iN i)) y6 y7 y8, .nx, Et a n cells T2 (.dat (iN i)) z6 z7 z8, rfl, ?_, .inl rfl, _, _, _, _, _, rfl, by rw [Nat.add_mul, Nat.one_mul]; exact h⟩
    unfold b2__law_takings
    simp [bodyP, bodyI, startE, startI, sSeq, sRet, sAsg, sExp, sIfS, sNx, sV, sB, sC, PD.s2, toT, sTr, truth, bne_dec, sChain, sAnd, sOr, sNot, sIf, tAnd', tOr', tNot', sNil, sCons, sCall, allD, sN, allR, PD.res, sTup, sLst, sFr, gN, gT, gsNil, gsCons, sIsi, tyName, isSub, sOrE, sM1, sM1T, ST.fAdd_int, fSub, fLe, fLt, fGt, fGe, eq_int, ne_int, cont?, setCont, List.replicate, fLen, sOwn, sApp, e]
  obtain ⟨ρ', e, T', y5, y6, y7, y8, rfl, h⟩ := this
  have bound : m * cells.length ≤ 5 * 17 := Nat.mul_le_mul (by omega) hlen.2
  refine ⟨T', ?_, h.1, Nat.le_trans h.2 (by simp; omega)⟩
  have d1 := fDiv_small ((cells.length - 1 : Nat) : Int) (a : Int) (by omega)
  have d2 : (((cells.length - 1 : Nat) : Int) / (a : Int)) = (n : Nat) := by rw [← Int.natCast_ediv, V.div]
  rw [d2] at d1
  obtain ⟨Tm, hTm⟩ : ∃ Z, Z = T'.map tkD := ⟨_, rfl⟩
  unfold Et at e
  rw [← hTm] at e ⊢
  simp only [List.map_nil] at e
  unfold p__law_takings g__law_takings
  simp [bodyP, bodyI, startE, startI, sSeq, sRet, sAsg, sExp, sIfS, sNx, sV, sB, sC, PD.s2, toT, sTr, truth, bne_dec, sChain, sAnd, sOr, sNot, sIf, tAnd', tOr', tNot', sNil, sCons, sCall, allD, sN, allR, PD.res, sTup, sLst, sFr, gN, gT, gsNil, gsCons, sIsi, tyName, isSub, sOrE, sM1, sM1T, ST.fAdd_int, fSub, fLe, fLt, fGt, fGe, eq_int, ne_int, cont?, setCont, List.replicate, fLen, sOwn, sApp, sParQ, cast_pred hlen.1, d1, sLst, e]
theorem cur_zero (row : List (Nat × Nat)) : cur cells row 0 = cells := rfl
theorem cur_app {row : List (Nat × Nat)} {t : Nat × Nat} {i : Nat} (h : i ≤ row.length) : cur cells (row ++ [t]) i = cur cells row i := by
  unfold cur
  rw [List.take_append_of_le_length h]
theorem RowOk.valid (V : Valid a n m cells) {row : List (Nat × Nat)} (h : RowOk a n m cells row) : ∀ i, i ≤ row.length → Valid a n m (cur cells row i)
  | 0, _ => V
  | i + 1, hi => by
    have ih := RowOk.valid V h i (by omega)
    have ht : row[i]? = some row[i] := List.getElem?_eq_getElem (by omega)
    obtain ⟨k1, k2, k3⟩ := h i _ ht
    rw [cur_succ ht]
    exact ih.step (by rw [cur_len]; exact k2) k3
theorem RowOk.app {row : List (Nat × Nat)} {t : Nat × Nat} (h : RowOk a n m cells row) (ht : t.1 < m ∧ t.2 < cells.length ∧ canMk (nbr a n t.2) (cur cells row row.length) t.1 t.2 = true) : RowOk a n m cells (row ++ [t]) := by
  intro i u hu
  by_cases hi : i < row.length
  · rw [List.getElem?_append_left hi] at hu
    rw [cur_app (by omega)]
    exact h i u hu
  · rw [List.getElem?_append_right (by omega)] at hu
    by_cases h0 : i = row.length
    · subst h0
      simp at hu
      subst hu
      rw [cur_app (Nat.le_refl _)]
      exact ht
    · rw [List.getElem?_eq_none (by simp; omega)] at hu
      cases hu
theorem cur_last {row : List (Nat × Nat)} {t : Nat × Nat} : cur cells (row ++ [t]) (row ++ [t]).length = step (cur cells row row.length) t := by
  rw [List.length_append, List.length_singleton, cur_succ (t := t) (by simp), cur_app (Nat.le_refl _)]
def Ew (r : List PyData) (a : Nat) (cells : List Nat) (k : Nat) (steps : List (Nat × Nat)) (x4 x5 : Sl) : Ev := [.io r, .dat (ch a (cur cells steps steps.length)), .dat (iN k), .own (steps.map tkD), x4, x5]
theorem law_walk {ns : List Int} {r : List PyData} {k : Nat} (V : Valid a n m cells) (hr : RowI ns r) (hk : k ≤ 40) : ∃ steps r', p__law_walk r [ch a cells, iN k] = some (.tuple [.tuple (steps.map tkD), ch a (cur cells steps steps.length)], r') ∧ RowOk a n m cells steps ∧ steps.length ≤ k ∧ RowI ns r' := by
  have hlen := V.len_lt
  have : ∃ ρ', l1__law_walk (Ew r a cells k [] .un .un) = some (.nx, ρ') ∧ ∃ steps r' y4 y5, ρ' = Ew r' a cells k steps y4 y5 ∧ RowOk a n m cells steps ∧ steps.length ≤ ((List.range k).map iN).length ∧ RowI ns r' := by
    refine sFor_inv (items := (List.range k).map iN) (ρ1 := Ew r a cells k [] .un .un) (fun i ρ => ∃ steps r' y4 y5, ρ = Ew r' a cells k steps y4 y5 ∧ RowOk a n m cells steps ∧ steps.length ≤ i ∧ RowI ns r') (sRg1_small (by simp [bodyP, bodyI, startE, startI, sSeq, sRet, sAsg, sExp, sIfS, sNx, sV, sB, sC, PD.s2, toT, sTr, truth, bne_dec, sChain, sAnd, sOr, sNot, sIf, tAnd', tOr', tNot', sNil, sCons, sCall, allD, sN, allR, PD.res, sTup, sLst, sFr, gN, gT, gsNil, gsCons, sIsi, tyName, isSub, sOrE, sM1, sM1T, ST.fAdd_int, fSub, fLe, fLt, fGt, fGe, eq_int, ne_int, cont?, setCont, List.replicate, fLen, sOwn, sApp, Ew]) (by omega)) ⟨[], r, .un, .un, rfl, fun i t h => (by simp at h), Nat.le_refl _, hr⟩ ?_
    rintro i d ρ hd ⟨steps, r1, y4, y5, rfl, hS, hl, hr1⟩
    rw [List.getElem?_map, Option.map_eq_some_iff] at hd
    obtain ⟨i', h1, rfl⟩ := hd
    obtain ⟨hi, h2⟩ := List.getElem?_eq_some_iff.mp h1
    rw [List.getElem_range] at h2
    rw [List.length_range] at hi
    subst h2
    have Vc := hS.valid V steps.length (Nat.le_refl _)
    obtain ⟨T, e1, hT, hTl⟩ := law_takings Vc
    have qn : fNe (.list (T.map tkD)) (.list []) = some (.bool (!decide (T = []))) := ne_toD (α := List (Nat × Nat)) T []
    obtain ⟨Cc, hCc⟩ : ∃ Z, Z = ch a (cur cells steps steps.length) := ⟨_, rfl⟩
    obtain ⟨St, hSt⟩ : ∃ Z, Z = steps.map tkD := ⟨_, rfl⟩
    have hStl : St.length < 1000000 := by rw [hSt, List.length_map]; omega
    by_cases hz : T = []
    · subst hz
      refine ⟨Ew r1 a cells k steps (.dat (iN i)) y5, .nx, Ew r1 a cells k steps (.dat (iN i)) (.dat (.list [])), rfl, ?_, .inl rfl, steps, r1, _, _, rfl, hS, by omega, hr1⟩
      have qe : fNe (.list []) (.list []) = some (.bool false) := qn
      unfold Ew b1__law_walk
      rw [← hCc] at e1 ⊢
      rw [← hSt]
      simp only [List.map_nil] at e1
      simp [bodyP, bodyI, startE, startI, sSeq, sRet, sAsg, sExp, sIfS, sNx, sV, sB, sC, PD.s2, toT, sTr, truth, bne_dec, sChain, sAnd, sOr, sNot, sIf, tAnd', tOr', tNot', sNil, sCons, sCall, allD, sN, allR, PD.res, sTup, sLst, sFr, gN, gT, gsNil, gsCons, sIsi, tyName, isSub, sOrE, sM1, sM1T, ST.fAdd_int, fSub, fLe, fLt, fGt, fGe, eq_int, ne_int, cont?, setCont, List.replicate, fLen, sOwn, sApp, e1, sLst, qe]
    · obtain ⟨t, r2, e2, ht, hr2⟩ := pick (f := tkD) hr1 (List.length_pos_iff.mpr hz) (by omega)
      obtain ⟨k1, k2, k3⟩ := hT t ht
      rw [cur_len] at k2
      have hS2 := hS.app ⟨k1, k2, k3⟩
      have e3 := behind (a := a) (cells := cur cells steps steps.length) (t := t) (by rw [cur_len]; exact k2) (by rw [cur_len]; omega)
      rw [← cur_last] at e3
      rw [decide_eq_false hz] at qn
      have eix : fIx (.list (St ++ [tkD t])) (.int (-1)) = some (tkD t) := by
        unfold fIx
        simp [L2.atI, L2.ixN]
        rw [if_pos (by omega), show (-1 + ((St.length : Int) + 1)).toNat = St.length by omega]
        simp
      refine ⟨Ew r1 a cells k steps (.dat (iN i)) y5, .nx, Ew r2 a cells k (steps ++ [t]) (.dat (iN i)) (.dat (.list (T.map tkD))), rfl, ?_, .inl rfl, _, _, _, _, rfl, hS2, by simp; omega, hr2⟩
      obtain ⟨Tm, hTm⟩ : ∃ Z, Z = T.map tkD := ⟨_, rfl⟩
      obtain ⟨Cn, hCn⟩ : ∃ Z, Z = ch a (cur cells (steps ++ [t]) (steps ++ [t]).length) := ⟨_, rfl⟩
      obtain ⟨D, hD⟩ : ∃ Z, Z = tkD t := ⟨_, rfl⟩
      unfold Ew b1__law_walk
      rw [← hTm] at e1 e2 qn
      rw [← hCn] at e3
      rw [← hD] at e2 e3 eix
      rw [List.map_append, List.map_singleton, ← hTm, ← hCn, ← hSt, ← hD]
      rw [← hCc] at e1 e3 ⊢
      simp [bodyP, bodyI, startE, startI, sSeq, sRet, sAsg, sExp, sIfS, sNx, sV, sB, sC, PD.s2, toT, sTr, truth, bne_dec, sChain, sAnd, sOr, sNot, sIf, tAnd', tOr', tNot', sNil, sCons, sCall, allD, sN, allR, PD.res, sTup, sLst, sFr, gN, gT, gsNil, gsCons, sIsi, tyName, isSub, sOrE, sM1, sM1T, ST.fAdd_int, fSub, fLe, fLt, fGt, fGe, eq_int, ne_int, cont?, setCont, List.replicate, fLen, sOwn, sApp, e1, sLst, qn, sCallI, e2, hStl, eix, e3]
  obtain ⟨ρ', e, steps, r', y4, y5, rfl, h1, h2, h3⟩ := this
  refine ⟨steps, r', ?_, h1, by simpa using h2, h3⟩
  obtain ⟨St, hSt⟩ : ∃ Z, Z = steps.map tkD := ⟨_, rfl⟩
  obtain ⟨Cc, hCc⟩ : ∃ Z, Z = ch a (cur cells steps steps.length) := ⟨_, rfl⟩
  have e' : l1__law_walk [.io r, .dat (ch a cells), .dat (iN k), .own [], .un, .un] = some (.nx, [.io r', .dat Cc, .dat (iN k), .own St, y4, y5]) := by
    rw [hSt, hCc]
    exact e
  rw [← hSt, ← hCc]
  unfold p__law_walk g__law_walk
  simp [bodyP, bodyI, startE, startI, sSeq, sRet, sAsg, sExp, sIfS, sNx, sV, sB, sC, PD.s2, toT, sTr, truth, bne_dec, sChain, sAnd, sOr, sNot, sIf, tAnd', tOr', tNot', sNil, sCons, sCall, allD, sN, allR, PD.res, sTup, sLst, sFr, gN, gT, gsNil, gsCons, sIsi, tyName, isSub, sOrE, sM1, sM1T, ST.fAdd_int, fSub, fLe, fLt, fGt, fGe, eq_int, ne_int, cont?, setCont, List.replicate, fLen, sOwn, sApp, sLst, e', fTupOf]
end
end ST
namespace ST
open PySem PD
theorem alike_pair (s t : Nat × Nat) : W.alike (tkD s) (tkD t) = true := by
  simp [W.alike, W.alikeAll]
theorem depth_pair (t : Nat × Nat) : (tkD t).depth ≤ 32 := by
  have := PySem.W.Datum.depth_le (α := Nat × Nat) t
  exact Nat.le_trans this (by decide)
theorem sortOk_pairs (T : List (Nat × Nat)) : sortOk (T.map tkD) = true := by
  unfold sortOk
  simp only [Bool.and_eq_true, Bool.or_eq_true, List.all_eq_true, decide_eq_true_eq]
  refine ⟨⟨fun d hd e he => ?_, .inl fun d hd => ?_⟩, fun d hd => ?_⟩
  · obtain ⟨s, _, rfl⟩ := List.mem_map.mp hd
    obtain ⟨t, _, rfl⟩ := List.mem_map.mp he
    exact alike_pair s t
  · obtain ⟨s, _, rfl⟩ := List.mem_map.mp hd
    rfl
  · obtain ⟨s, _, rfl⟩ := List.mem_map.mp hd
    exact depth_pair s
/-- a permutation of such data is such data -/
theorem perm_map {α : Type} {f : α → PyData} : ∀ {xs : List PyData} {T : List α}, xs.Perm (T.map f) → ∃ T' : List α, xs = T'.map f ∧ T'.Perm T := by
  intro xs T h
  generalize hy : T.map f = ys at h
  induction h generalizing T with
  | nil => exact ⟨[], rfl, by cases T with
    | nil => exact .nil
    | cons _ _ => cases hy⟩
  | cons x p ih =>
    cases T with
    | nil => cases hy
    | cons t T =>
      rw [List.map_cons, List.cons.injEq] at hy
      obtain ⟨T', e, q⟩ := ih hy.2
      exact ⟨t :: T', by rw [List.map_cons, hy.1, e], .cons t q⟩
  | swap x y l =>
    match T, hy with
    | [], hy => cases hy
    | [_], hy => simp at hy
    | s :: t :: T, hy =>
      simp only [List.map_cons, List.cons.injEq] at hy
      obtain ⟨h1, h2, h3⟩ := hy
      exact ⟨t :: s :: T, by simp [h1, h2, h3], .swap s t T⟩
  | trans p q ih1 ih2 =>
    obtain ⟨T1, e1, q1⟩ := ih2 hy
    obtain ⟨T2, e2, q2⟩ := ih1 e1.symm
    exact ⟨T2, e2, q2.trans q1⟩
theorem sorted_pairs (T : List (Nat × Nat)) : ∃ T' : List (Nat × Nat), fSorted [.list (T.map tkD)] = some (T'.map tkD) ∧ T'.Perm T := by
  have perm : (sortD (T.map tkD)).Perm (T.map tkD) := List.mergeSort_perm _ _
  obtain ⟨T', e, p⟩ := perm_map perm
  refine ⟨T', ?_, p⟩
  show (if sortOk (T.map tkD) then some (sortD (T.map tkD)) else none) = _
  rw [if_pos (sortOk_pairs T), e]
section
variable {a n m : Nat} {cells : List Nat}
/-- the takings of one cell -/
def cellT (a n : Nat) (cells : List Nat) (c : Nat) : List (Nat × Nat) := if (near cells (nbr a n c)).count (ca cells c) = 1 then ((near cells (nbr a n c)).filter fun l => !decide (l = ca cells c)).map fun l => (l, c) else []
def rdy (a n : Nat) (cells : List Nat) (i : Nat) : List (Nat × Nat) := (List.range i).flatMap (cellT a n cells)
theorem rdy_succ (i : Nat) : rdy a n cells (i + 1) = rdy a n cells i ++ cellT a n cells i := by
  unfold rdy
  rw [List.range_succ, List.flatMap_append]
  simp
theorem nbr_len4 (V : Valid a n m cells) (c : Nat) : (nbr a n c).length ≤ 4 := by
  have := V.ha
  unfold nbr
  split
  · simp; omega
  · split <;> simp
theorem cellT_len (V : Valid a n m cells) (c : Nat) : (cellT a n cells c).length ≤ 4 := by
  unfold cellT
  split
  · rw [List.length_map]
    refine Nat.le_trans (List.length_filter_le _ _) ?_
    unfold near
    rw [List.length_map]
    exact nbr_len4 V c
  · simp
theorem rdy_len (V : Valid a n m cells) (i : Nat) : (rdy a n cells i).length ≤ 4 * i := by
  induction i with
  | zero => simp [rdy]
  | succ i ih =>
    rw [rdy_succ, List.length_append]
    have := cellT_len V i
    omega
theorem ready (V : Valid a n m cells) : ∃ T : List (Nat × Nat), p_ready_takings [.list ((tabN a n cells.length).map tN), tN cells] = some (.list (T.map tkD)) ∧ T.Perm (rdy a n cells cells.length) := by
  have hlen := V.len_lt
  obtain ⟨Tb, hTb⟩ : ∃ Z : PyData, Z = .list ((tabN a n cells.length).map tN) := ⟨_, rfl⟩
  obtain ⟨C, hC⟩ : ∃ Z, Z = tN cells := ⟨_, rfl⟩
  have ixC : ∀ x, x < cells.length → fIx C (iN x) = some (iN (ca cells x)) := fun x hx => by rw [hC]; exact (ix_map (f := iN) (ca_some hx)).2
  let st : Nat → Sl → Sl → Sl → Sl → Ev := fun i x3 x4 x5 x6 => [.dat Tb, .dat C, .own ((rdy a n cells i).map tkD), x3, x4, x5, x6, .un, .un]
  have tl : (tabN a n cells.length).length = cells.length := by unfold tabN; simp
  have : ∃ ρ', l1_ready_takings (st 0 .un .un .un .un) = some (.nx, ρ') ∧ ∃ x3 x4 x5 x6, ρ' = st (enumD ((tabN a n cells.length).map tN)).length x3 x4 x5 x6 := by
    refine sFor_inv (items := enumD ((tabN a n cells.length).map tN)) (ρ1 := st 0 .un .un .un .un) (fun i ρ => ∃ x3 x4 x5 x6, ρ = st i x3 x4 x5 x6) (by subst hTb; rfl) ⟨_, _, _, _, rfl⟩ ?_
    rintro i d ρ hd ⟨x3, x4, x5, x6, rfl⟩
    obtain ⟨d', h1, rfl⟩ := enumD_at hd
    rw [List.getElem?_map, Option.map_eq_some_iff] at h1
    obtain ⟨ps, h2, rfl⟩ := h1
    have hi : i < cells.length := by
      have := (List.getElem?_eq_some_iff.mp h2).1
      omega
    have eps : nbr a n i = ps := by
      unfold tabN at h2
      rw [List.getElem?_map, List.getElem?_range hi] at h2
      exact Option.some.inj h2
    subst eps
    have hl4 := nbr_len4 V i
    obtain ⟨Rd, hRd⟩ : ∃ Z, Z = (rdy a n cells i).map tkD := ⟨_, rfl⟩
    have hRl : Rd.length ≤ 100 := by rw [hRd, List.length_map]; have := rdy_len V i; omega
    have c1 : c1_ready_takings [.dat Tb, .dat C, .own Rd, .dat (.int (i : Nat)), .dat (tN (nbr a n i)), x5, x6, .un, .un] = some ((nbr a n i).map fun p => iN (ca cells p), [.dat Tb, .dat C, .own Rd, .dat (.int (i : Nat)), .dat (tN (nbr a n i)), x5, x6, .un, .un]) := by
      refine sComp_all (nbr a n i) iN _ (by simp [bodyP, bodyI, startE, startI, sSeq, sRet, sAsg, sExp, sIfS, sNx, sV, sB, sC, PD.s2, toT, sTr, truth, bne_dec, sChain, sAnd, sOr, sNot, sIf, tAnd', tOr', tNot', sNil, sCons, sCall, allD, sN, allR, PD.res, sTup, sLst, sFr, gN, gT, gsNil, gsCons, sIsi, tyName, isSub, sOrE, sM1, sM1T, ST.fAdd_int, fSub, fLe, fLt, fGt, fGe, eq_int, ne_int, cont?, setCont, List.replicate, fLen, sOwn, sApp, sSq]) rfl (by omega) rfl fun p hp => ⟨_, rfl, rfl, ?_⟩
      simp [bodyP, bodyI, startE, startI, sSeq, sRet, sAsg, sExp, sIfS, sNx, sV, sB, sC, PD.s2, toT, sTr, truth, bne_dec, sChain, sAnd, sOr, sNot, sIf, tAnd', tOr', tNot', sNil, sCons, sCall, allD, sN, allR, PD.res, sTup, sLst, sFr, gN, gT, gsNil, gsCons, sIsi, tyName, isSub, sOrE, sM1, sM1T, ST.fAdd_int, fSub, fLe, fLt, fGt, fGe, eq_int, ne_int, cont?, setCont, List.replicate, fLen, sOwn, sApp, wipeE, ixC p (V.nbr_lt hi p hp)]
    have en : (nbr a n i).map (fun p => iN (ca cells p)) = (near cells (nbr a n i)).map iN := by unfold near; rw [List.map_map]; rfl
    rw [en] at c1
    have q := can_lose (ca cells i) (near cells (nbr a n i))
    have nl : (near cells (nbr a n i)).length ≤ 4 := by unfold near; rw [List.length_map]; exact hl4
    obtain ⟨Nr, hNr⟩ : ∃ Z, Z = (near cells (nbr a n i)).map iN := ⟨_, rfl⟩
    have hc : cellT a n cells i = if (near cells (nbr a n i)).count (ca cells i) = 1 then ((near cells (nbr a n i)).filter fun l => !decide (l = ca cells i)).map fun l => (l, i) else [] := rfl
    unfold lN at q
    by_cases h : (near cells (nbr a n i)).count (ca cells i) = 1
    · rw [if_pos h] at hc
      have c2 : c2_ready_takings [.dat Tb, .dat C, .own Rd, .dat (.int (i : Nat)), .dat (tN (nbr a n i)), .dat (.list Nr), .dat (iN (ca cells i)), .un, .un] = some (((near cells (nbr a n i)).filter fun l => !decide (l = ca cells i)).map fun l => tkD (l, i), [.dat Tb, .dat C, .own Rd, .dat (.int (i : Nat)), .dat (tN (nbr a n i)), .dat (.list Nr), .dat (iN (ca cells i)), .un, .un]) := by
        refine sComp_on (near cells (nbr a n i)) iN _ _ (by rw [hNr]; simp [bodyP, bodyI, startE, startI, sSeq, sRet, sAsg, sExp, sIfS, sNx, sV, sB, sC, PD.s2, toT, sTr, truth, bne_dec, sChain, sAnd, sOr, sNot, sIf, tAnd', tOr', tNot', sNil, sCons, sCall, allD, sN, allR, PD.res, sTup, sLst, sFr, gN, gT, gsNil, gsCons, sIsi, tyName, isSub, sOrE, sM1, sM1T, ST.fAdd_int, fSub, fLe, fLt, fGt, fGe, eq_int, ne_int, cont?, setCont, List.replicate, fLen, sOwn, sApp, sSq]) rfl (by omega) rfl fun y hy => ⟨_, rfl, rfl, ?_, ?_⟩
        · simp [bodyP, bodyI, startE, startI, sSeq, sRet, sAsg, sExp, sIfS, sNx, sV, sB, sC, PD.s2, toT, sTr, truth, bne_dec, sChain, sAnd, sOr, sNot, sIf, tAnd', tOr', tNot', sNil, sCons, sCall, allD, sN, allR, PD.res, sTup, sLst, sFr, gN, gT, gsNil, gsCons, sIsi, tyName, isSub, sOrE, sM1, sM1T, ST.fAdd_int, fSub, fLe, fLt, fGt, fGe, eq_int, ne_int, cont?, setCont, List.replicate, fLen, sOwn, sApp, wipeE]
          omega
        · simp [bodyP, bodyI, startE, startI, sSeq, sRet, sAsg, sExp, sIfS, sNx, sV, sB, sC, PD.s2, toT, sTr, truth, bne_dec, sChain, sAnd, sOr, sNot, sIf, tAnd', tOr', tNot', sNil, sCons, sCall, allD, sN, allR, PD.res, sTup, sLst, sFr, gN, gT, gsNil, gsCons, sIsi, tyName, isSub, sOrE, sM1, sM1T, ST.fAdd_int, fSub, fLe, fLt, fGt, fGe, eq_int, ne_int, cont?, setCont, List.replicate, fLen, sOwn, sApp, wipeE]
      have e2 : ((near cells (nbr a n i)).filter fun l => !decide (l = ca cells i)).map (fun l => tkD (l, i)) = (cellT a n cells i).map tkD := by
        rw [hc, List.map_map]
        rfl
      rw [e2] at c2
      obtain ⟨X, hX⟩ : ∃ Z, Z = (cellT a n cells i).map tkD := ⟨_, rfl⟩
      have hXl : X.length ≤ 4 := by rw [hX, List.length_map]; exact cellT_len V i
      rw [← hX] at c2
      rw [← hNr] at c1 q
      rw [decide_eq_true h] at q
      refine ⟨[.dat Tb, .dat C, .own Rd, .dat (.int (i : Nat)), .dat (tN (nbr a n i)), x5, x6, .un, .un], .nx, st (i + 1) (.dat (.int (i : Nat))) (.dat (tN (nbr a n i))) (.dat (.list Nr)) (.dat (iN (ca cells i))), by rw [hRd]; rfl, ?_, .inl rfl, _, _, _, _, rfl⟩
      show b1_ready_takings _ = some (Fl.nx, [.dat Tb, .dat C, .own ((rdy a n cells (i + 1)).map tkD), .dat (.int (i : Nat)), .dat (tN (nbr a n i)), .dat (.list Nr), .dat (iN (ca cells i)), .un, .un])
      rw [rdy_succ, List.map_append, ← hRd, ← hX]
      have lim : Rd.length + X.length ≤ 1000000 := by omega
      unfold b1_ready_takings
      simp [bodyP, bodyI, startE, startI, sSeq, sRet, sAsg, sExp, sIfS, sNx, sV, sB, sC, PD.s2, toT, sTr, truth, bne_dec, sChain, sAnd, sOr, sNot, sIf, tAnd', tOr', tNot', sNil, sCons, sCall, allD, sN, allR, PD.res, sTup, sLst, sFr, gN, gT, gsNil, gsCons, sIsi, tyName, isSub, sOrE, sM1, sM1T, ST.fAdd_int, fSub, fLe, fLt, fGt, fGe, eq_int, ne_int, cont?, setCont, List.replicate, fLen, sOwn, sApp, c1, ixC i hi, q, sExt, c2, lim]
    · rw [if_neg h] at hc
      rw [← hNr] at c1 q
      rw [decide_eq_false h] at q
      refine ⟨[.dat Tb, .dat C, .own Rd, .dat (.int (i : Nat)), .dat (tN (nbr a n i)), x5, x6, .un, .un], .nx, st (i + 1) (.dat (.int (i : Nat))) (.dat (tN (nbr a n i))) (.dat (.list Nr)) (.dat (iN (ca cells i))), by rw [hRd]; rfl, ?_, .inl rfl, _, _, _, _, rfl⟩
      show b1_ready_takings _ = some (Fl.nx, [.dat Tb, .dat C, .own ((rdy a n cells (i + 1)).map tkD), .dat (.int (i : Nat)), .dat (tN (nbr a n i)), .dat (.list Nr), .dat (iN (ca cells i)), .un, .un])
      rw [rdy_succ, hc, List.append_nil, ← hRd]
      unfold b1_ready_takings
      simp [bodyP, bodyI, startE, startI, sSeq, sRet, sAsg, sExp, sIfS, sNx, sV, sB, sC, PD.s2, toT, sTr, truth, bne_dec, sChain, sAnd, sOr, sNot, sIf, tAnd', tOr', tNot', sNil, sCons, sCall, allD, sN, allR, PD.res, sTup, sLst, sFr, gN, gT, gsNil, gsCons, sIsi, tyName, isSub, sOrE, sM1, sM1T, ST.fAdd_int, fSub, fLe, fLt, fGt, fGe, eq_int, ne_int, cont?, setCont, List.replicate, fLen, sOwn, sApp, c1, ixC i hi, q]
  obtain ⟨ρ', e, x3, x4, x5, x6, rfl⟩ := this
  obtain ⟨T, e2, p⟩ := sorted_pairs (rdy a n cells cells.length)
  refine ⟨T, ?_, p⟩
  obtain ⟨Rd, hRd⟩ : ∃ Z, Z = (rdy a n cells cells.length).map tkD := ⟨_, rfl⟩
  have e' : l1_ready_takings [.dat Tb, .dat C, .own [], .un, .un, .un, .un, .un, .un] = some (.nx, [.dat Tb, .dat C, .own Rd, x3, x4, x5, x6, .un, .un]) := by
    rw [hRd]
    have := e
    rw [enumD_len, List.length_map, tl] at this
    exact this
  rw [← hRd] at e2
  rw [← hTb, ← hC]
  unfold p_ready_takings g_ready_takings
  simp [bodyP, bodyI, startE, startI, sSeq, sRet, sAsg, sExp, sIfS, sNx, sV, sB, sC, PD.s2, toT, sTr, truth, bne_dec, sChain, sAnd, sOr, sNot, sIf, tAnd', tOr', tNot', sNil, sCons, sCall, allD, sN, allR, PD.res, sTup, sLst, sFr, gN, gT, gsNil, gsCons, sIsi, tyName, isSub, sOrE, sM1, sM1T, ST.fAdd_int, fSub, fLe, fLt, fGt, fGe, eq_int, ne_int, cont?, setCont, List.replicate, fLen, sOwn, sApp, sLst, e', sNF, e2]
theorem takings (V : Valid a n m cells) : ∃ T : List (Nat × Nat), p_takings [ch a cells] = some (.tuple (T.map tkD)) ∧ T.Perm (rdy a n cells cells.length) := by
  obtain ⟨T, e, p⟩ := ready V
  refine ⟨T, ?_, p⟩
  have ht := V.table
  unfold p_takings g_takings
  simp [bodyP, bodyI, startE, startI, sSeq, sRet, sAsg, sExp, sIfS, sNx, sV, sB, sC, PD.s2, toT, sTr, truth, bne_dec, sChain, sAnd, sOr, sNot, sIf, tAnd', tOr', tNot', sNil, sCons, sCall, allD, sN, allR, PD.res, sTup, sLst, sFr, gN, gT, gsNil, gsCons, sIsi, tyName, isSub, sOrE, sM1, sM1T, ST.fAdd_int, fSub, fLe, fLt, fGt, fGe, eq_int, ne_int, cont?, setCont, List.replicate, fLen, sOwn, sApp, V.check, ht, ix1, e, fTupOf]
end
end ST
namespace ST
open PySem PD
section
variable {a n m : Nat} {cells : List Nat}
def b2n (b : Bool) : Nat := if b then 1 else 0
/-- in how many ways a border moves -/
def mv (a n : Nat) (cells : List Nat) (t : Nat × Nat) : Nat := b2n (canMk (nbr a n t.2) cells (ca cells t.1) t.2) + b2n (canMk (nbr a n t.1) cells (ca cells t.2) t.1)
end
end ST
namespace ST
open PySem PD
section
variable {a n m : Nat} {cells : List Nat}
theorem rdy_ok (V : Valid a n m cells) {t : Nat × Nat} (h : t ∈ rdy a n cells cells.length) : t.1 < m ∧ t.2 < cells.length ∧ canMk (nbr a n t.2) cells t.1 t.2 = true := by
  unfold rdy at h
  obtain ⟨c, hc, h⟩ := List.mem_flatMap.mp h
  have hc := List.mem_range.mp hc
  unfold cellT at h
  split at h
  · rename_i h1
    obtain ⟨l, hl, rfl⟩ := List.mem_map.mp h
    obtain ⟨l1, l2⟩ := List.mem_filter.mp hl
    have l2 : ¬ l = ca cells c := by simpa using l2
    refine ⟨?_, hc, ?_⟩
    · obtain ⟨p, hp, e⟩ := List.mem_map.mp l1
      show l < m
      rw [← e]
      exact V.lt _ (ca_mem (V.nbr_lt hc p hp))
    · unfold canMk
      simp only [Bool.and_eq_true, decide_eq_true_eq]
      exact ⟨l2, l1, h1⟩
  · cases h
end
end ST
namespace ST
open PySem PD
section
variable {a n m : Nat} {cells : List Nat}
theorem cur_cons {t : Nat × Nat} {r : List (Nat × Nat)} {j : Nat} : cur cells (t :: r) (j + 1) = cur (step cells t) r j := rfl
theorem RowOk.cons {t : Nat × Nat} {r : List (Nat × Nat)} (h : t.1 < m ∧ t.2 < cells.length ∧ canMk (nbr a n t.2) cells t.1 t.2 = true) (hr : RowOk a n m (step cells t) r) : RowOk a n m cells (t :: r) := by
  intro i u hu
  cases i with
  | zero =>
    cases hu
    exact h
  | succ i =>
    have := hr i u hu
    rw [cur_cons]
    exact ⟨this.1, by have := this.2.1; unfold step at this; rwa [List.length_set] at this, this.2.2⟩
theorem RowOk.append : ∀ {s r : List (Nat × Nat)} {cells : List Nat}, RowOk a n m cells s → RowOk a n m (cur cells s s.length) r → RowOk a n m cells (s ++ r) ∧ cur cells (s ++ r) (s ++ r).length = cur (cur cells s s.length) r r.length
  | [], r, cells, _, h => ⟨h, rfl⟩
  | t :: s, r, cells, h1, h2 => by
    have h0 := h1 0 t rfl
    have hs : RowOk a n m (step cells t) s := fun i u hu => by
      have := h1 (i + 1) u hu
      rw [cur_cons] at this
      exact ⟨this.1, by unfold step; rw [List.length_set]; exact this.2.1, this.2.2⟩
    obtain ⟨k1, k2⟩ := RowOk.append hs h2
    exact ⟨RowOk.cons h0 k1, k2⟩
def undoAt (cells : List Nat) (row : List (Nat × Nat)) (i : Nat) : Nat × Nat := (ca (cur cells row i) (row.getD i (0, 0)).2, (row.getD i (0, 0)).2)
def bk (cells : List Nat) (row : List (Nat × Nat)) : Nat → List (Nat × Nat)
  | 0 => []
  | i + 1 => undoAt cells row i :: bk cells row i
end
end ST
namespace ST
open PySem PD
end ST
namespace ST
open PySem PD
theorem fCountT_nat (ns : List Nat) (k : Nat) : fCountT (tN ns) (iN k) = some (iN (ns.count k)) := by
  show (match intsOf (ns.map iN) with | some ns => some (PyData.int (ns.count (k : Int) : Nat)) | none => none) = _
  rw [intsOf_nat]
  show some (PyData.int _) = _
  rw [count_nat]
theorem cut_mid (xs : List PyData) (lo hi : Nat) (h : lo ≤ hi) (h2 : hi ≤ xs.length) : cutD xs (some (lo : Int)) (some (hi : Int)) = (xs.drop lo).take (hi - lo) := by
  unfold cutD
  rw [HT.sIx_nat, HT.sIx_nat, Nat.min_eq_left h2, Nat.min_eq_left (by omega)]
section
variable {a n m : Nat} {cells : List Nat}
/-- the cells of an arm -/
def armOf (n : Nat) (cells : List Nat) (k : Nat) : List Nat := (cells.drop (1 + k * n)).take n
theorem armOf_len (V : Valid a n m cells) {k : Nat} (hk : k < a) : (armOf n cells k).length = n := by
  have h := V.len
  have : (k + 1) * n ≤ a * n := Nat.mul_le_mul_right n hk
  rw [Nat.add_mul] at this
  unfold armOf
  rw [List.length_take, List.length_drop]
  omega
theorem armOf_get (V : Valid a n m cells) {k j : Nat} (hk : k < a) (hj : j < n) : (armOf n cells k)[j]? = some (ca cells (1 + k * n + j)) := by
  have h := V.len
  have : (k + 1) * n ≤ a * n := Nat.mul_le_mul_right n hk
  rw [Nat.add_mul] at this
  unfold armOf
  rw [List.getElem?_take_of_lt hj, List.getElem?_drop]
  exact ca_some (by omega)
theorem arm_rows (V : Valid a n m cells) : p_arm_rows [ch a cells] = some (.list ((List.range a).map fun k => tN (armOf n cells k))) := by
  have hlen := V.len_lt
  have ha := V.ha
  have hn := V.hn
  have hL := V.len
  have el : p_length_of [ch a cells] = some (iN n) := by
    rw [← V.div]
    exact length_of hlen.1 (by omega) (by omega)
  obtain ⟨C, hC⟩ : ∃ Z, Z = cells.map iN := ⟨_, rfl⟩
  have hCl : C.length = cells.length := by rw [hC, List.length_map]
  have hch : ch a cells = .tuple [iN a, .tuple C] := by rw [hC]
  rw [hch] at el ⊢
  have c1 : c1_arm_rows [.dat (.tuple [iN a, .tuple C]), .dat (iN a), .dat (.tuple C), .dat (iN n), .un] = some ((List.range a).map (fun k => tN (armOf n cells k)), [.dat (.tuple [iN a, .tuple C]), .dat (iN a), .dat (.tuple C), .dat (iN n), .un]) := by
    refine sComp_all (List.range a) iN _ (sRg1_small (by simp [bodyP, bodyI, startE, startI, sSeq, sRet, sAsg, sExp, sIfS, sNx, sV, sB, sC, PD.s2, toT, sTr, truth, bne_dec, sChain, sAnd, sOr, sNot, sIf, tAnd', tOr', tNot', sNil, sCons, sCall, allD, sN, allR, PD.res, sTup, sLst, sFr, gN, gT, gsNil, gsCons, sIsi, tyName, isSub, sOrE, sM1, sM1T, ST.fAdd_int, fSub, fLe, fLt, fGt, fGe, eq_int, ne_int, cont?, setCont, List.replicate, fLen, sOwn, sApp]) (by omega)) rfl (by simp; omega) rfl fun k hk => ⟨_, rfl, rfl, ?_⟩
    have hk := List.mem_range.mp hk
    have b1 : (k + 1) * n ≤ a * n := Nat.mul_le_mul_right n hk
    rw [Nat.add_mul] at b1
    obtain ⟨lo, hlo⟩ : ∃ z, z = 1 + k * n := ⟨_, rfl⟩
    obtain ⟨hi, hhi⟩ : ∃ z, z = 1 + k * n + n := ⟨_, rfl⟩
    have e1 : (1 : Int) + (k : Int) * (n : Int) = (lo : Int) := by rw [hlo]; simp
    have e2 : (1 : Int) + ((k : Int) + 1) * (n : Int) = (hi : Int) := by
      rw [hhi, Int.add_mul, ← Int.natCast_mul]
      omega
    have m1 := fMul_small (k : Int) (n : Int) (by omega)
    have m2 := fMul_small ((k : Int) + 1) (n : Int) (by omega)
    have cm := cut_mid C lo hi (by omega) (by rw [hCl]; omega)
    have cc : (C.drop lo).take (hi - lo) = (armOf n cells k).map iN := by
      unfold armOf
      rw [hC, hhi, hlo, Nat.add_sub_cancel_left, ← List.map_drop, ← List.map_take]
    rw [cc] at cm
    obtain ⟨A, hA⟩ : ∃ Z, Z = (armOf n cells k).map iN := ⟨_, rfl⟩
    show _ = some (Ob.d (PyData.tuple ((armOf n cells k).map iN)), _)
    rw [← hA] at cm ⊢
    simp [bodyP, bodyI, startE, startI, sSeq, sRet, sAsg, sExp, sIfS, sNx, sV, sB, sC, PD.s2, toT, sTr, truth, bne_dec, sChain, sAnd, sOr, sNot, sIf, tAnd', tOr', tNot', sNil, sCons, sCall, allD, sN, allR, PD.res, sTup, sLst, sFr, gN, gT, gsNil, gsCons, sIsi, tyName, isSub, sOrE, sM1, sM1T, ST.fAdd_int, fSub, fLe, fLt, fGt, fGe, eq_int, ne_int, cont?, setCont, List.replicate, fLen, sOwn, sApp, wipeE, sSl, fSl, pSome, m1, m2, e1, e2, cm]
  unfold p_arm_rows g_arm_rows
  simp [bodyP, bodyI, startE, startI, sSeq, sRet, sAsg, sExp, sIfS, sNx, sV, sB, sC, PD.s2, toT, sTr, truth, bne_dec, sChain, sAnd, sOr, sNot, sIf, tAnd', tOr', tNot', sNil, sCons, sCall, allD, sN, allR, PD.res, sTup, sLst, sFr, gN, gT, gsNil, gsCons, sIsi, tyName, isSub, sOrE, sM1, sM1T, ST.fAdd_int, fSub, fLe, fLt, fGt, fGe, eq_int, ne_int, cont?, setCont, List.replicate, fLen, sOwn, sApp, el, c1]
end
end ST
namespace ST
open PySem PD
/-- the lands that one meets, each that is not the one before -/
def met (b : Nat) : List Nat → List Nat
  | [] => []
  | x :: r => if x = b then met x r else x :: met x r
/-- the last one, b ahead of all -/
def lastOf (b : Nat) : List Nat → Nat
  | [] => b
  | x :: r => lastOf x r
theorem lastOf_app (b : Nat) (x : Nat) : ∀ r : List Nat, lastOf b (r ++ [x]) = x
  | [] => rfl
  | y :: r => lastOf_app y x r
theorem met_app (b x : Nat) (r : List Nat) : met b (r ++ [x]) = met b r ++ (if x = lastOf b r then [] else [x]) := by
  induction r generalizing b with
  | nil =>
    show (if x = b then [] else [x]) = _
    rfl
  | cons y r ih =>
    show (if y = b then met y (r ++ [x]) else y :: met y (r ++ [x])) = (if y = b then met y r else y :: met y r) ++ (if x = lastOf y r then [] else [x])
    rw [ih y]
    split <;> simp
theorem met_len (r : List Nat) : ∀ b : Nat, (met b r).length ≤ r.length := by
  induction r with
  | nil => intro b; exact Nat.le_refl _
  | cons y r ih =>
    intro b
    show (if y = b then met y r else y :: met y r).length ≤ _
    have := ih y
    split <;> simp <;> omega
theorem take_succ_get {xs : List Nat} {i x : Nat} (h : xs[i]? = some x) : xs.take (i + 1) = xs.take i ++ [x] := by
  rw [List.take_add_one, h]
  rfl
theorem lands_met (b : Nat) (row : List Nat) (hl : row.length < 1000) : p_lands_met [iN b, tN row] = some (tN (met b row)) := by
  obtain ⟨R, hR⟩ : ∃ Z, Z = row.map iN := ⟨_, rfl⟩
  have hRl : R.length = row.length := by rw [hR, List.length_map]
  let st : Nat → Sl → Ev := fun i x => [.dat (iN b), .dat (.tuple R), .own ((met b (row.take i)).map iN), .dat (iN (lastOf b (row.take i))), x]
  have loop : ∃ ρ', l1_lands_met (st 0 .un) = some (.nx, ρ') ∧ ∃ x, ρ' = st R.length x := by
    refine sFor_inv (items := R) (ρ1 := st 0 .un) (fun i ρ => ∃ x, ρ = st i x) rfl ⟨_, rfl⟩ ?_
    rintro i d ρ hd ⟨x, rfl⟩
    rw [hR, List.getElem?_map, Option.map_eq_some_iff] at hd
    obtain ⟨v, h1, rfl⟩ := hd
    have hi := (List.getElem?_eq_some_iff.mp h1).1
    have e1 : met b (row.take (i + 1)) = met b (row.take i) ++ (if v = lastOf b (row.take i) then [] else [v]) := by rw [take_succ_get h1, met_app]
    have e2 : lastOf b (row.take (i + 1)) = v := by rw [take_succ_get h1, lastOf_app]
    refine ⟨[.dat (iN b), .dat (.tuple R), .own ((met b (row.take i)).map iN), .dat (iN (lastOf b (row.take i))), .dat (iN v)], .nx, st (i + 1) (.dat (iN v)), rfl, ?_, .inl rfl, _, rfl⟩
    show b1_lands_met _ = some (.nx, [.dat (iN b), .dat (.tuple R), .own ((met b (row.take (i + 1))).map iN), .dat (iN (lastOf b (row.take (i + 1)))), .dat (iN v)])
    rw [e1, e2]
    have hO : ((met b (row.take i)).map iN).length < 1000000 := by
      rw [List.length_map]
      have := met_len (row.take i) b
      have : (row.take i).length ≤ row.length := by rw [List.length_take]; omega
      omega
    rw [List.map_append]
    obtain ⟨O, hO2⟩ : ∃ Z, Z = (met b (row.take i)).map iN := ⟨_, rfl⟩
    rw [← hO2] at hO ⊢
    generalize lastOf b (row.take i) = w
    unfold b1_lands_met
    by_cases hv : v = w
    · subst hv
      simp [bodyP, bodyI, startE, startI, sSeq, sRet, sAsg, sExp, sIfS, sNx, sV, sB, sC, PD.s2, toT, sTr, truth, bne_dec, sChain, sAnd, sOr, sNot, sIf, tAnd', tOr', tNot', sNil, sCons, sCall, allD, sN, allR, PD.res, sTup, sLst, sFr, gN, gT, gsNil, gsCons, sIsi, tyName, isSub, sOrE, sM1, sM1T, ST.fAdd_int, fSub, fLe, fLt, fGt, fGe, eq_int, ne_int, cont?, setCont, List.replicate, fLen, sOwn, sApp]
    · have hv' : ¬ (v : Int) = (w : Nat) := by omega
      simp [bodyP, bodyI, startE, startI, sSeq, sRet, sAsg, sExp, sIfS, sNx, sV, sB, sC, PD.s2, toT, sTr, truth, bne_dec, sChain, sAnd, sOr, sNot, sIf, tAnd', tOr', tNot', sNil, sCons, sCall, allD, sN, allR, PD.res, sTup, sLst, sFr, gN, gT, gsNil, gsCons, sIsi, tyName, isSub, sOrE, sM1, sM1T, ST.fAdd_int, fSub, fLe, fLt, fGt, fGe, eq_int, ne_int, cont?, setCont, List.replicate, fLen, sOwn, sApp, hv, hv', hO]
  obtain ⟨ρ', e, x, rfl⟩ := loop
  have et : row.take R.length = row := by rw [hRl, List.take_length]
  have e' : l1_lands_met [.dat (iN b), .dat (.tuple R), .own [], .dat (iN b), .un] = some (.nx, [.dat (iN b), .dat (.tuple R), .own ((met b row).map iN), .dat (iN (lastOf b row)), x]) := by
    have : st R.length x = [.dat (iN b), .dat (.tuple R), .own ((met b row).map iN), .dat (iN (lastOf b row)), x] := by
      show [Sl.dat (iN b), .dat (.tuple R), .own ((met b (row.take R.length)).map iN), .dat (iN (lastOf b (row.take R.length))), x] = _
      rw [et]
    rw [← this]
    exact e
  show p_lands_met [iN b, .tuple (row.map iN)] = some (.tuple ((met b row).map iN))
  rw [← hR]
  obtain ⟨O, hO⟩ : ∃ Z, Z = (met b row).map iN := ⟨_, rfl⟩
  rw [← hO] at e' ⊢
  unfold p_lands_met g_lands_met
  simp [bodyP, bodyI, startE, startI, sSeq, sRet, sAsg, sExp, sIfS, sNx, sV, sB, sC, PD.s2, toT, sTr, truth, bne_dec, sChain, sAnd, sOr, sNot, sIf, tAnd', tOr', tNot', sNil, sCons, sCall, allD, sN, allR, PD.res, sTup, sLst, sFr, gN, gT, gsNil, gsCons, sIsi, tyName, isSub, sOrE, sM1, sM1T, ST.fAdd_int, fSub, fLe, fLt, fGt, fGe, eq_int, ne_int, cont?, setCont, List.replicate, fLen, sOwn, sApp, sLst, e', fTupOf]
section
variable {a n m : Nat} {cells : List Nat}
theorem Valid.ix0 (V : Valid a n m cells) : fIx (tN cells) (.int 0) = some (iN (ca cells 0)) := (ix_map (f := iN) (ca_some V.len_lt.1)).2
/-- the lands along an arm -/
def ordOf (n : Nat) (cells : List Nat) (k : Nat) : List Nat := met (ca cells 0) (armOf n cells k)
def ords (a n : Nat) (cells : List Nat) : List (List Nat) := (List.range a).map (ordOf n cells)
theorem orders (V : Valid a n m cells) : p_orders [ch a cells] = some (.tuple ((ords a n cells).map tN)) := by
  have ha := V.ha
  have hn := V.hn
  have er := arm_rows V
  have h0 := V.ix0
  have hk := V.check
  obtain ⟨C, hC⟩ : ∃ Z, Z = tN cells := ⟨_, rfl⟩
  obtain ⟨Ch, hCh⟩ : ∃ Z, Z = ch a cells := ⟨_, rfl⟩
  have hix : fIx Ch (.int 1) = some C := by rw [hCh, hC]; rfl
  rw [← hCh] at er hk ⊢
  rw [← hC] at h0
  have e0 : (ords a n cells).map tN = (List.range a).map fun k => tN (ordOf n cells k) := by unfold ords; rw [List.map_map]; rfl
  rw [e0]
  obtain ⟨A, hA⟩ : ∃ Z, Z = (List.range a).map fun k => tN (armOf n cells k) := ⟨_, rfl⟩
  have c1 : c1_orders [.dat Ch, .un] = some ((List.range a).map (fun k => tN (ordOf n cells k)), [.dat Ch, .un]) := by
    refine sComp_all (List.range a) (fun k => tN (armOf n cells k)) _ (by rw [← hA] at er ⊢; simp [bodyP, bodyI, startE, startI, sSeq, sRet, sAsg, sExp, sIfS, sNx, sV, sB, sC, PD.s2, toT, sTr, truth, bne_dec, sChain, sAnd, sOr, sNot, sIf, tAnd', tOr', tNot', sNil, sCons, sCall, allD, sN, allR, PD.res, sTup, sLst, sFr, gN, gT, gsNil, gsCons, sIsi, tyName, isSub, sOrE, sM1, sM1T, ST.fAdd_int, fSub, fLe, fLt, fGt, fGe, eq_int, ne_int, cont?, setCont, List.replicate, fLen, sOwn, sApp, sSq, er]) rfl (by simp; omega) rfl fun k hk => ⟨_, rfl, rfl, ?_⟩
    have hk := List.mem_range.mp hk
    have lm := lands_met (ca cells 0) (armOf n cells k) (by rw [armOf_len V hk]; omega)
    obtain ⟨W, hW⟩ : ∃ Z, Z = tN (armOf n cells k) := ⟨_, rfl⟩
    rw [← hW] at lm ⊢
    obtain ⟨U, hU⟩ : ∃ Z, Z = tN (ordOf n cells k) := ⟨_, rfl⟩
    rw [← hU]
    have lm' : p_lands_met [iN (ca cells 0), W] = some U := by rw [hU]; exact lm
    simp [bodyP, bodyI, startE, startI, sSeq, sRet, sAsg, sExp, sIfS, sNx, sV, sB, sC, PD.s2, toT, sTr, truth, bne_dec, sChain, sAnd, sOr, sNot, sIf, tAnd', tOr', tNot', sNil, sCons, sCall, allD, sN, allR, PD.res, sTup, sLst, sFr, gN, gT, gsNil, gsCons, sIsi, tyName, isSub, sOrE, sM1, sM1T, ST.fAdd_int, fSub, fLe, fLt, fGt, fGe, eq_int, ne_int, cont?, setCont, List.replicate, fLen, sOwn, sApp, wipeE, hix, h0, lm']
  obtain ⟨Z, hZ⟩ : ∃ Z, Z = (List.range a).map (fun k => tN (ordOf n cells k)) := ⟨_, rfl⟩
  rw [← hZ] at c1 ⊢
  unfold p_orders g_orders
  simp [bodyP, bodyI, startE, startI, sSeq, sRet, sAsg, sExp, sIfS, sNx, sV, sB, sC, PD.s2, toT, sTr, truth, bne_dec, sChain, sAnd, sOr, sNot, sIf, tAnd', tOr', tNot', sNil, sCons, sCall, allD, sN, allR, PD.res, sTup, sLst, sFr, gN, gT, gsNil, gsCons, sIsi, tyName, isSub, sOrE, sM1, sM1T, ST.fAdd_int, fSub, fLe, fLt, fGt, fGe, eq_int, ne_int, cont?, setCont, List.replicate, fLen, sOwn, sApp, hk, c1, fTupOf]
theorem lands_on (V : Valid a n m cells) : p_lands_on [ch a cells] = some (tN ((ords a n cells).map List.length)) := by
  have ha := V.ha
  have eo := orders V
  obtain ⟨Ch, hCh⟩ : ∃ Z, Z = ch a cells := ⟨_, rfl⟩
  rw [← hCh] at eo ⊢
  obtain ⟨O, hO⟩ : ∃ Z, Z = (ords a n cells).map tN := ⟨_, rfl⟩
  have hl : (ords a n cells).length = a := by unfold ords; simp
  have c1 : c1_lands_on [.dat Ch, .un] = some ((ords a n cells).map (fun o => iN o.length), [.dat Ch, .un]) := by
    refine sComp_all (ords a n cells) tN _ (by rw [← hO] at eo ⊢; simp [bodyP, bodyI, startE, startI, sSeq, sRet, sAsg, sExp, sIfS, sNx, sV, sB, sC, PD.s2, toT, sTr, truth, bne_dec, sChain, sAnd, sOr, sNot, sIf, tAnd', tOr', tNot', sNil, sCons, sCall, allD, sN, allR, PD.res, sTup, sLst, sFr, gN, gT, gsNil, gsCons, sIsi, tyName, isSub, sOrE, sM1, sM1T, ST.fAdd_int, fSub, fLe, fLt, fGt, fGe, eq_int, ne_int, cont?, setCont, List.replicate, fLen, sOwn, sApp, sSq, eo]) rfl (by rw [hl]; omega) rfl fun o ho => ⟨_, rfl, rfl, ?_⟩
    simp [bodyP, bodyI, startE, startI, sSeq, sRet, sAsg, sExp, sIfS, sNx, sV, sB, sC, PD.s2, toT, sTr, truth, bne_dec, sChain, sAnd, sOr, sNot, sIf, tAnd', tOr', tNot', sNil, sCons, sCall, allD, sN, allR, PD.res, sTup, sLst, sFr, gN, gT, gsNil, gsCons, sIsi, tyName, isSub, sOrE, sM1, sM1T, ST.fAdd_int, fSub, fLe, fLt, fGt, fGe, eq_int, ne_int, cont?, setCont, List.replicate, fLen, sOwn, sApp, wipeE]
  have e : tN ((ords a n cells).map List.length) = .tuple ((ords a n cells).map (fun o => iN o.length)) := by
    show PyData.tuple _ = _
    rw [List.map_map]
    rfl
  rw [e]
  obtain ⟨Z, hZ⟩ : ∃ Z, Z = (ords a n cells).map (fun o => iN o.length) := ⟨_, rfl⟩
  rw [← hZ] at c1 ⊢
  unfold p_lands_on g_lands_on
  simp [bodyP, bodyI, startE, startI, sSeq, sRet, sAsg, sExp, sIfS, sNx, sV, sB, sC, PD.s2, toT, sTr, truth, bne_dec, sChain, sAnd, sOr, sNot, sIf, tAnd', tOr', tNot', sNil, sCons, sCall, allD, sN, allR, PD.res, sTup, sLst, sFr, gN, gT, gsNil, gsCons, sIsi, tyName, isSub, sOrE, sM1, sM1T, ST.fAdd_int, fSub, fLe, fLt, fGt, fGe, eq_int, ne_int, cont?, setCont, List.replicate, fLen, sOwn, sApp, c1, fTupOf]
/-- the number of bare arms -/
def bare (a n : Nat) (cells : List Nat) : Nat := ((ords a n cells).map List.length).count 0
theorem bare_arms (V : Valid a n m cells) : p_bare_arms [ch a cells] = some (iN (bare a n cells)) := by
  have e1 := lands_on V
  have e2 : fCountT (tN ((ords a n cells).map List.length)) (.int 0) = some (iN (bare a n cells)) := fCountT_nat _ 0
  obtain ⟨C, hC⟩ : ∃ Z, Z = ((ords a n cells).map List.length).map iN := ⟨_, rfl⟩
  change p_lands_on [ch a cells] = some (.tuple (((ords a n cells).map List.length).map iN)) at e1
  change fCountT (.tuple (((ords a n cells).map List.length).map iN)) (.int 0) = _ at e2
  rw [← hC] at e1 e2
  unfold p_bare_arms g_bare_arms
  simp [bodyP, bodyI, startE, startI, sSeq, sRet, sAsg, sExp, sIfS, sNx, sV, sB, sC, PD.s2, toT, sTr, truth, bne_dec, sChain, sAnd, sOr, sNot, sIf, tAnd', tOr', tNot', sNil, sCons, sCall, allD, sN, allR, PD.res, sTup, sLst, sFr, gN, gT, gsNil, gsCons, sIsi, tyName, isSub, sOrE, sM1, sM1T, ST.fAdd_int, fSub, fLe, fLt, fGt, fGe, eq_int, ne_int, cont?, setCont, List.replicate, fLen, sOwn, sApp, e1, e2]
theorem is_frozen (V : Valid a n m cells) : p_is_frozen [ch a cells] = some (.bool (decide (2 ≤ bare a n cells))) := by
  have e := bare_arms V
  unfold p_is_frozen g_is_frozen
  simp [bodyP, bodyI, startE, startI, sSeq, sRet, sAsg, sExp, sIfS, sNx, sV, sB, sC, PD.s2, toT, sTr, truth, bne_dec, sChain, sAnd, sOr, sNot, sIf, tAnd', tOr', tNot', sNil, sCons, sCall, allD, sN, allR, PD.res, sTup, sLst, sFr, gN, gT, gsNil, gsCons, sIsi, tyName, isSub, sOrE, sM1, sM1T, ST.fAdd_int, fSub, fLe, fLt, fGt, fGe, eq_int, ne_int, cont?, setCont, List.replicate, fLen, sOwn, sApp, e]
  omega
/-- the outermost cells' lands -/
def tips (a n : Nat) (cells : List Nat) : List Nat := (List.range a).map fun k => ca cells (1 + k * n + (n - 1))
theorem own_lands (V : Valid a n m cells) : p_own_lands [ch a cells] = some (if 2 ≤ bare a n cells then .none else tN (tips a n cells)) := by
  have ha := V.ha
  have hn := V.hn
  have er := arm_rows V
  have hk := V.check
  have hf := is_frozen V
  obtain ⟨Ch, hCh⟩ : ∃ Z, Z = ch a cells := ⟨_, rfl⟩
  rw [← hCh] at er hk hf ⊢
  by_cases hb : 2 ≤ bare a n cells
  · rw [if_pos hb]
    rw [decide_eq_true hb] at hf
    unfold p_own_lands g_own_lands
    simp [bodyP, bodyI, startE, startI, sSeq, sRet, sAsg, sExp, sIfS, sNx, sV, sB, sC, PD.s2, toT, sTr, truth, bne_dec, sChain, sAnd, sOr, sNot, sIf, tAnd', tOr', tNot', sNil, sCons, sCall, allD, sN, allR, PD.res, sTup, sLst, sFr, gN, gT, gsNil, gsCons, sIsi, tyName, isSub, sOrE, sM1, sM1T, ST.fAdd_int, fSub, fLe, fLt, fGt, fGe, eq_int, ne_int, cont?, setCont, List.replicate, fLen, sOwn, sApp, hk, hf]
  · rw [if_neg hb]
    rw [decide_eq_false hb] at hf
    have e0 : tN (tips a n cells) = .tuple ((List.range a).map fun k => iN (ca cells (1 + k * n + (n - 1)))) := by
      show PyData.tuple _ = _
      unfold tips
      rw [List.map_map]
      rfl
    rw [e0]
    obtain ⟨A, hA⟩ : ∃ Z, Z = (List.range a).map fun k => tN (armOf n cells k) := ⟨_, rfl⟩
    have c1 : c1_own_lands [.dat Ch, .un] = some ((List.range a).map (fun k => iN (ca cells (1 + k * n + (n - 1)))), [.dat Ch, .un]) := by
      refine sComp_all (List.range a) (fun k => tN (armOf n cells k)) _ (by rw [← hA] at er ⊢; simp [bodyP, bodyI, startE, startI, sSeq, sRet, sAsg, sExp, sIfS, sNx, sV, sB, sC, PD.s2, toT, sTr, truth, bne_dec, sChain, sAnd, sOr, sNot, sIf, tAnd', tOr', tNot', sNil, sCons, sCall, allD, sN, allR, PD.res, sTup, sLst, sFr, gN, gT, gsNil, gsCons, sIsi, tyName, isSub, sOrE, sM1, sM1T, ST.fAdd_int, fSub, fLe, fLt, fGt, fGe, eq_int, ne_int, cont?, setCont, List.replicate, fLen, sOwn, sApp, sSq, er]) rfl (by simp; omega) rfl fun k hk => ⟨_, rfl, rfl, ?_⟩
      have hk := List.mem_range.mp hk
      have q : fIx (tN (armOf n cells k)) (.int (-1)) = some (iN (ca cells (1 + k * n + (n - 1)))) := by
        refine (ix_end (k := n - 1) (by rw [List.length_map, armOf_len V hk]; omega) ?_).2
        rw [List.getElem?_map, armOf_get V hk (by omega)]
        rfl
      obtain ⟨W, hW⟩ : ∃ Z, Z = tN (armOf n cells k) := ⟨_, rfl⟩
      rw [← hW] at q ⊢
      simp [bodyP, bodyI, startE, startI, sSeq, sRet, sAsg, sExp, sIfS, sNx, sV, sB, sC, PD.s2, toT, sTr, truth, bne_dec, sChain, sAnd, sOr, sNot, sIf, tAnd', tOr', tNot', sNil, sCons, sCall, allD, sN, allR, PD.res, sTup, sLst, sFr, gN, gT, gsNil, gsCons, sIsi, tyName, isSub, sOrE, sM1, sM1T, ST.fAdd_int, fSub, fLe, fLt, fGt, fGe, eq_int, ne_int, cont?, setCont, List.replicate, fLen, sOwn, sApp, wipeE, q]
    obtain ⟨Z, hZ⟩ : ∃ Z, Z = (List.range a).map (fun k => iN (ca cells (1 + k * n + (n - 1)))) := ⟨_, rfl⟩
    rw [← hZ] at c1 ⊢
    unfold p_own_lands g_own_lands
    simp [bodyP, bodyI, startE, startI, sSeq, sRet, sAsg, sExp, sIfS, sNx, sV, sB, sC, PD.s2, toT, sTr, truth, bne_dec, sChain, sAnd, sOr, sNot, sIf, tAnd', tOr', tNot', sNil, sCons, sCall, allD, sN, allR, PD.res, sTup, sLst, sFr, gN, gT, gsNil, gsCons, sIsi, tyName, isSub, sOrE, sM1, sM1T, ST.fAdd_int, fSub, fLe, fLt, fGt, fGe, eq_int, ne_int, cont?, setCont, List.replicate, fLen, sOwn, sApp, hk, hf, c1, fTupOf]
end
end ST
namespace ST
open PySem PD
/-- a border that moves leaves the lands that one meets -/
theorem met_set {l L : Nat} (ne : l ≠ L) : ∀ (xs : List Nat) (b j p s : Nat), (b :: xs)[j]? = some p → xs[j]? = some L → xs[j + 1]? = some s → ((p = l ∧ s = L) ∨ (p = L ∧ s = l)) → met b (xs.set j l) = met b xs
  | [], b, j, p, s, _, h, _, _ => by simp at h
  | x :: r, b, 0, p, s, h0, h1, h2, h => by
    have e0 : b = p := by simpa using h0
    have e1 : x = L := by simpa using h1
    cases r with
    | nil => simp at h2
    | cons y r =>
      have e2 : y = s := by simpa using h2
      subst e0 e1 e2
      show met b (l :: y :: r) = met b (x :: y :: r)
      rcases h with ⟨h, h'⟩ | ⟨h, h'⟩
      · subst h h'
        simp [met, ne, Ne.symm ne]
      · subst h h'
        simp [met, ne, Ne.symm ne]
  | x :: r, b, j + 1, p, s, h0, h1, h2, h => by
    have ih := met_set ne r x j p s (by simpa using h0) (by simpa using h1) (by simpa using h2) h
    show met b (x :: r.set j l) = met b (x :: r)
    unfold met
    rw [ih]
theorem met_nil {b : Nat} : ∀ {r : List Nat}, met b r = [] → ∀ v ∈ r, v = b
  | [], _, v, hv => by cases hv
  | x :: r, h, v, hv => by
    unfold met at h
    split at h
    · rename_i e
      rcases List.mem_cons.mp hv with q | q
      · rw [q, e]
      · rw [← e]
        exact met_nil h v q
    · cases h
section
variable {a n m : Nat} {cells : List Nat}
theorem fin_place : ∀ a ∈ [3, 4], ∀ n ∈ [1, 2, 3, 4], ∀ c ∈ List.range (1 + a * n), c ≠ 0 → (c - 1) / n < a ∧ (c - 1) % n < n ∧ 1 + (c - 1) / n * n + (c - 1) % n = c ∧ (c % n = 0 ↔ (c - 1) % n = n - 1) ∧ inner n c = (if (c - 1) % n = 0 then 0 else c - 1) := by decide +kernel
/-- tips are never taken; next to other cells stand the one that takes and the one that loses -/
theorem Valid.mid (V : Valid a n m cells) {l c : Nat} (hc : c < cells.length) (h0 : c ≠ 0) (ok : canMk (nbr a n c) cells l c = true) :
    c % n ≠ 0 ∧ ((ca cells (inner n c) = l ∧ ca cells (c + 1) = ca cells c) ∨ (ca cells (inner n c) = ca cells c ∧ ca cells (c + 1) = l)) := by
  obtain ⟨h1, h2, h3⟩ := ok_iff ok
  unfold nbr near at h2 h3
  rw [if_neg h0] at h2 h3
  by_cases ht : c % n = 0
  · rw [if_pos ht] at h2 h3
    exfalso
    simp only [List.map_cons, List.map_nil, List.mem_singleton] at h2
    simp only [List.map_cons, List.map_nil] at h3
    rw [← h2, List.count_cons, List.count_nil] at h3
    have : (l == ca cells c) = false := by simpa using h1
    rw [this] at h3
    simp at h3
  · refine ⟨ht, ?_⟩
    rw [if_neg ht] at h2 h3
    simp only [List.map_cons, List.map_nil, List.mem_cons, List.not_mem_nil, or_false] at h2
    simp only [List.map_cons, List.map_nil, List.count_cons, List.count_nil] at h3
    rcases h2 with h2 | h2
    · left
      refine ⟨h2.symm, ?_⟩
      have : (ca cells (inner n c) == ca cells c) = false := by rw [← h2]; simpa using h1
      rw [this] at h3
      by_cases q : ca cells (c + 1) = ca cells c
      · exact q
      · have : (ca cells (c + 1) == ca cells c) = false := by simpa using q
        rw [this] at h3
        simp at h3
    · right
      refine ⟨?_, h2.symm⟩
      have : (ca cells (c + 1) == ca cells c) = false := by rw [← h2]; simpa using h1
      rw [this] at h3
      by_cases q : ca cells (inner n c) = ca cells c
      · exact q
      · have : (ca cells (inner n c) == ca cells c) = false := by simpa using q
        rw [this] at h3
        simp at h3
theorem armOf_set_other (V : Valid a n m cells) {k c l : Nat} (hk : k < a) (hn : 0 < n) (h : ¬ (1 + k * n ≤ c ∧ c < 1 + k * n + n)) : armOf n (cells.set c l) k = armOf n cells k := by
  unfold armOf
  by_cases h1 : c < 1 + k * n
  · rw [List.drop_set_of_lt h1]
  · rw [List.drop_set, if_neg (by omega), List.take_set_of_le (by omega)]
theorem armOf_set {k j l : Nat} : armOf n (cells.set (1 + k * n + j) l) k = (armOf n cells k).set j l := by
  unfold armOf
  rw [List.drop_set, if_neg (by omega), Nat.add_sub_cancel_left, List.take_set]
theorem Valid.ordOf_step (V : Valid a n m cells) {l c k : Nat} (hk : k < a) (hc : c < cells.length) (h0 : c ≠ 0) (ok : canMk (nbr a n c) cells l c = true) : ordOf n (cells.set c l) k = ordOf n cells k := by
  have hn := V.hn
  obtain ⟨ht, hs⟩ := V.mid hc h0 ok
  obtain ⟨h1, _, _⟩ := ok_iff ok
  unfold ordOf
  have e0 : ca (cells.set c l) 0 = ca cells 0 := by rw [ca_set hc, if_neg (Ne.symm h0)]
  rw [e0]
  by_cases hin : 1 + k * n ≤ c ∧ c < 1 + k * n + n
  · obtain ⟨j, hj⟩ : ∃ j, c = 1 + k * n + j := ⟨c - (1 + k * n), by omega⟩
    have jn : j < n := by omega
    obtain ⟨p1, p2, p3, p4, p5⟩ := fin_place a V.a_mem n V.n_mem c (V.c_mem hc) h0
    have ej : (c - 1) % n = j := by
      rw [hj, show 1 + k * n + j - 1 = j + n * k by rw [Nat.mul_comm]; omega, Nat.add_mul_mod_self_left, Nat.mod_eq_of_lt jn]
    have jn1 : j + 1 < n := by
      have : ¬ (c - 1) % n = n - 1 := fun z => ht (p4.mpr z)
      omega
    have g1 := armOf_get V hk jn
    have g2 := armOf_get V hk jn1
    rw [hj, armOf_set]
    rw [← hj] at g1
    refine met_set (L := ca cells c) h1 _ _ j (ca cells (inner n c)) (ca cells (c + 1)) ?_ g1 (by rw [g2]; congr 2; omega) hs
    rw [p5, ej]
    cases j with
    | zero => simp
    | succ j =>
      rw [List.getElem?_cons_succ, armOf_get V hk (by omega)]
      simp
      congr 1
      omega
  · rw [armOf_set_other V hk hn.1 hin]
theorem Valid.ords_step (V : Valid a n m cells) {l c : Nat} (hc : c < cells.length) (h0 : c ≠ 0) (ok : canMk (nbr a n c) cells l c = true) : ords a n (cells.set c l) = ords a n cells := by
  unfold ords
  exact List.map_congr_left fun k hk => V.ordOf_step (List.mem_range.mp hk) hc h0 ok
theorem bare_eq : bare a n cells = (List.range a).countP fun k => decide (ordOf n cells k = []) := by
  unfold bare ords
  rw [List.count, List.countP_map, List.countP_map]
  congr 1
  funext k
  show ((ordOf n cells k).length == 0) = decide (ordOf n cells k = [])
  cases ordOf n cells k <;> simp
/-- the hub can be taken with at most one bare arm -/
theorem Valid.bare_hub (V : Valid a n m cells) {l : Nat} (ok : canMk (nbr a n 0) cells l 0 = true) : bare a n cells ≤ 1 := by
  have hn := V.hn
  obtain ⟨_, _, h3⟩ := ok_iff ok
  unfold near nbr at h3
  rw [if_pos rfl, List.map_map, List.count, List.countP_map] at h3
  rw [bare_eq]
  refine Nat.le_trans (List.countP_mono_left fun k hk he => ?_) (Nat.le_of_eq h3)
  have hk := List.mem_range.mp hk
  have he : ordOf n cells k = [] := by simpa using he
  have g := armOf_get V hk (j := 0) (by omega)
  have := met_nil he _ (List.mem_of_getElem? g)
  simpa using this
theorem Valid.froz_step (V : Valid a n m cells) {l c : Nat} (hc : c < cells.length) (ok : canMk (nbr a n c) cells l c = true) (hf : 2 ≤ bare a n cells) :
    c ≠ 0 ∧ ords a n (cells.set c l) = ords a n cells ∧ 2 ≤ bare a n (cells.set c l) := by
  have h0 : c ≠ 0 := fun z => by
    subst z
    have := V.bare_hub ok
    omega
  have e := V.ords_step hc h0 ok
  refine ⟨h0, e, ?_⟩
  unfold bare at hf ⊢
  rw [e]
  exact hf
theorem Valid.froz_iff (V : Valid a n m cells) {l c : Nat} (hc : c < cells.length) (ok : canMk (nbr a n c) cells l c = true) : 2 ≤ bare a n (cells.set c l) ↔ 2 ≤ bare a n cells := by
  refine ⟨fun h => ?_, fun h => (V.froz_step hc ok h).2.2⟩
  obtain ⟨u1, u2⟩ := V.undo hc ok
  have := ((V.step hc ok).froz_step (c := c) (l := ca cells c) (by rw [List.length_set]; exact hc) u1 h).2.2
  rw [u2] at this
  exact this
theorem Valid.tips_step (V : Valid a n m cells) {l c : Nat} (hc : c < cells.length) (ok : canMk (nbr a n c) cells l c = true) : tips a n (cells.set c l) = tips a n cells := by
  have hn := V.hn
  unfold tips
  refine List.map_congr_left fun k hk => ?_
  rw [ca_set hc, if_neg]
  intro z
  have h0 : c ≠ 0 := by omega
  obtain ⟨ht, _⟩ := V.mid hc h0 ok
  apply ht
  rw [← z, show 1 + k * n + (n - 1) = n * (k + 1) by rw [Nat.mul_add, Nat.mul_comm]; omega]
  exact Nat.mul_mod_right n (k + 1)
/-- what a row keeps -/
structure Kept (a n : Nat) (c0 c1 : List Nat) : Prop where
  fr : 2 ≤ bare a n c1 ↔ 2 ≤ bare a n c0
  tp : tips a n c1 = tips a n c0
  od : 2 ≤ bare a n c0 → ca c1 0 = ca c0 0 ∧ ords a n c1 = ords a n c0
theorem Kept.refl (c0 : List Nat) : Kept a n c0 c0 := ⟨Iff.rfl, rfl, fun _ => ⟨rfl, rfl⟩⟩
theorem RowOk.kept (V : Valid a n m cells) {row : List (Nat × Nat)} (h : RowOk a n m cells row) {j : Nat} : ∀ d, j + d ≤ row.length → Kept a n (cur cells row j) (cur cells row (j + d))
  | 0, _ => Kept.refl _
  | d + 1, hi => by
    have ih := RowOk.kept V h (j := j) d (by omega)
    have ht : row[j + d]? = some row[j + d] := List.getElem?_eq_getElem (by omega)
    obtain ⟨k1, k2, k3⟩ := h (j + d) _ ht
    have Vi := h.valid V (j + d) (by omega)
    have k2' : (row[j + d]).2 < (cur cells row (j + d)).length := by rw [cur_len]; exact k2
    have e : cur cells row (j + (d + 1)) = (cur cells row (j + d)).set (row[j + d]).2 (row[j + d]).1 := cur_succ ht
    rw [e]
    refine ⟨(Vi.froz_iff k2' k3).trans ih.fr, (Vi.tips_step k2' k3).trans ih.tp, fun hf => ?_⟩
    obtain ⟨o1, o2⟩ := ih.od hf
    obtain ⟨z1, z2, _⟩ := Vi.froz_step k2' k3 (ih.fr.mpr hf)
    exact ⟨by rw [ca_set k2', if_neg (Ne.symm z1)]; exact o1, z2.trans o2⟩
end
end ST
namespace ST
open PySem PD PySem.W
/-- a map as data of Lean's types -/
theorem ch_toD (a : Nat) (c : List Nat) : ch a c = Datum.toD (((a, ⟨c⟩) : Nat × Tup Nat)) := rfl
theorem eq_ch (a : Nat) (c d : List Nat) : fEq (ch a c) (ch a d) = some (.bool (decide (c = d))) := by
  have := eq_toD (α := Nat × Tup Nat) (a, ⟨c⟩) (a, ⟨d⟩)
  rw [ch_toD, ch_toD, this]
  congr 2
  simp
theorem eq_tN (c d : List Nat) : fEq (tN c) (tN d) = some (.bool (decide (c = d))) := by
  have := eq_toD (α := Tup Nat) ⟨c⟩ ⟨d⟩
  have e : ∀ c : List Nat, tN c = Datum.toD (⟨c⟩ : Tup Nat) := fun _ => rfl
  rw [e c, e d, this]
  congr 2
  simp
theorem ne_tN (c d : List Nat) : fNe (tN c) (tN d) = some (.bool (!decide (c = d))) := by
  have := ne_toD (α := Tup Nat) ⟨c⟩ ⟨d⟩
  have e : ∀ c : List Nat, tN c = Datum.toD (⟨c⟩ : Tup Nat) := fun _ => rfl
  rw [e c, e d, this]
  congr 3
  simp
theorem ords_toD (o : List (List Nat)) : PyData.tuple (o.map tN) = Datum.toD (⟨o.map fun x => (⟨x⟩ : Tup Nat)⟩ : Tup (Tup Nat)) := by
  show PyData.tuple _ = PyData.tuple _
  rw [List.map_map]
  rfl
theorem eq_ords (o p : List (List Nat)) (h : o = p) : fEq (.tuple (o.map tN)) (.tuple (p.map tN)) = some (.bool true) := by
  subst h
  have := eq_toD (α := Tup (Tup Nat)) ⟨o.map fun x => (⟨x⟩ : Tup Nat)⟩ ⟨o.map fun x => (⟨x⟩ : Tup Nat)⟩
  rw [ords_toD, this]
  simp
section
variable {a n m : Nat} {c0 c1 : List Nat}
theorem is_like (V0 : Valid a n m c0) (V1 : Valid a n m c1) : p_is_like [ch a c0, ch a c1] = some (.bool true) := by
  have l0 := V0.len
  have l1 := V1.len
  have ne0 : c0 ≠ [] := fun z => by rw [z] at l0; simp at l0; omega
  have ne1 : c1 ≠ [] := fun z => by rw [z] at l1; simp at l1; omega
  have m0 : fMax [tN c0] = some (iN (m - 1)) := by rw [fMax_tN ne0, V0.maxN]
  have m1 : fMax [tN c1] = some (iN (m - 1)) := by rw [fMax_tN ne1, V1.maxN]
  have e : c0.length = c1.length := by rw [l0, l1]
  obtain ⟨C0, hC0⟩ : ∃ Z, Z = c0.map iN := ⟨_, rfl⟩
  obtain ⟨C1, hC1⟩ : ∃ Z, Z = c1.map iN := ⟨_, rfl⟩
  have k0 : C0.length = c0.length := by rw [hC0, List.length_map]
  have k1 : C1.length = c0.length := by rw [hC1, List.length_map, e]
  change fMax [.tuple (c0.map iN)] = _ at m0
  change fMax [.tuple (c1.map iN)] = _ at m1
  show p_is_like [.tuple [iN a, .tuple (c0.map iN)], .tuple [iN a, .tuple (c1.map iN)]] = _
  rw [← hC0] at m0 ⊢
  rw [← hC1] at m1 ⊢
  unfold p_is_like g_is_like
  simp [bodyP, bodyI, startE, startI, sSeq, sRet, sAsg, sExp, sIfS, sNx, sV, sB, sC, PD.s2, toT, sTr, truth, bne_dec, sChain, sAnd, sOr, sNot, sIf, tAnd', tOr', tNot', sNil, sCons, sCall, allD, sN, allR, PD.res, sTup, sLst, sFr, gN, gT, gsNil, gsCons, sIsi, tyName, isSub, sOrE, sM1, sM1T, ST.fAdd_int, fSub, fLe, fLt, fGt, fGe, eq_int, ne_int, cont?, setCont, List.replicate, fLen, sOwn, sApp, ix0, ix1, m0, m1, k0, k1]
theorem same_class (V0 : Valid a n m c0) (V1 : Valid a n m c1) (h : Kept a n c0 c1) : p_same_class [ch a c0, ch a c1] = some (.bool true) := by
  have q0 := V0.check
  have q1 := V1.check
  have ql := is_like V0 V1
  have f0 := is_frozen V0
  have w0 := own_lands V0
  have w1 := own_lands V1
  have o0 := orders V0
  have o1 := orders V1
  have h0 := V0.ix0
  have h1 := V1.ix0
  by_cases hf : 2 ≤ bare a n c0
  · obtain ⟨z1, z2⟩ := h.od hf
    rw [decide_eq_true hf] at f0
    rw [z2] at o1
    rw [z1] at h1
    have eo := eq_ords (ords a n c0) (ords a n c0) rfl
    obtain ⟨O, hO⟩ : ∃ Z, Z = (ords a n c0).map tN := ⟨_, rfl⟩
    rw [← hO] at o0 o1 eo
    obtain ⟨T0, hT0⟩ : ∃ Z, Z = tN c0 := ⟨_, rfl⟩
    obtain ⟨T1, hT1⟩ : ∃ Z, Z = tN c1 := ⟨_, rfl⟩
    have i0 : fIx (ch a c0) (.int 1) = some T0 := by rw [hT0]; rfl
    have i1 : fIx (ch a c1) (.int 1) = some T1 := by rw [hT1]; rfl
    rw [← hT0] at h0
    rw [← hT1] at h1
    obtain ⟨C0, hC0⟩ : ∃ Z, Z = ch a c0 := ⟨_, rfl⟩
    obtain ⟨C1, hC1⟩ : ∃ Z, Z = ch a c1 := ⟨_, rfl⟩
    rw [← hC0] at q0 ql f0 o0 i0 ⊢
    rw [← hC1] at q1 ql o1 i1 ⊢
    unfold p_same_class g_same_class
    simp [bodyP, bodyI, startE, startI, sSeq, sRet, sAsg, sExp, sIfS, sNx, sV, sB, sC, PD.s2, toT, sTr, truth, bne_dec, sChain, sAnd, sOr, sNot, sIf, tAnd', tOr', tNot', sNil, sCons, sCall, allD, sN, allR, PD.res, sTup, sLst, sFr, gN, gT, gsNil, gsCons, sIsi, tyName, isSub, sOrE, sM1, sM1T, ST.fAdd_int, fSub, fLe, fLt, fGt, fGe, eq_int, ne_int, cont?, setCont, List.replicate, fLen, sOwn, sApp, q0, q1, ql, f0, i0, i1, h0, h1, o0, o1, eo]
  · have hf1 : ¬ 2 ≤ bare a n c1 := fun z => hf (h.fr.mp z)
    rw [decide_eq_false hf] at f0
    rw [if_neg hf] at w0
    rw [if_neg hf1, h.tp] at w1
    have et := eq_tN (tips a n c0) (tips a n c0)
    rw [decide_eq_true rfl] at et
    obtain ⟨T, hT⟩ : ∃ Z, Z = tN (tips a n c0) := ⟨_, rfl⟩
    rw [← hT] at w0 w1 et
    obtain ⟨C0, hC0⟩ : ∃ Z, Z = ch a c0 := ⟨_, rfl⟩
    obtain ⟨C1, hC1⟩ : ∃ Z, Z = ch a c1 := ⟨_, rfl⟩
    rw [← hC0] at q0 ql f0 w0 ⊢
    rw [← hC1] at q1 ql w1 ⊢
    unfold p_same_class g_same_class
    simp [bodyP, bodyI, startE, startI, sSeq, sRet, sAsg, sExp, sIfS, sNx, sV, sB, sC, PD.s2, toT, sTr, truth, bne_dec, sChain, sAnd, sOr, sNot, sIf, tAnd', tOr', tNot', sNil, sCons, sCall, allD, sN, allR, PD.res, sTup, sLst, sFr, gN, gT, gsNil, gsCons, sIsi, tyName, isSub, sOrE, sM1, sM1T, ST.fAdd_int, fSub, fLe, fLt, fGt, fGe, eq_int, ne_int, cont?, setCont, List.replicate, fLen, sOwn, sApp, q0, q1, ql, f0, w0, w1, et]
end
end ST
namespace ST
open PySem PD PySem.W
section
variable {a n m : Nat} {cells : List Nat}
theorem cur_drop (row : List (Nat × Nat)) (i j : Nat) : cur (cur cells row i) (row.drop i) j = cur cells row (i + j) := by
  unfold cur
  rw [List.take_add, List.foldl_append]
theorem RowOk.drop {row : List (Nat × Nat)} (h : RowOk a n m cells row) (i : Nat) : RowOk a n m (cur cells row i) (row.drop i) := by
  intro j t ht
  rw [List.getElem?_drop] at ht
  obtain ⟨k1, k2, k3⟩ := h (i + j) t ht
  rw [cur_drop]
  exact ⟨k1, by rw [cur_len]; exact k2, k3⟩
end
end ST
namespace ST
open PySem PD PySem.W
end ST
namespace ST
open PySem PD PySem.W
end ST
namespace ST
open PySem PD
/-! ### lands that hang together, and their roots -/
theorem inner_lt' {n c : Nat} (h : c ≠ 0) : inner n c < c := inner_lt (by omega)
/-- the root of a cell -/
def rootF (n : Nat) (cells : List Nat) (c : Nat) : Nat := if h : c = 0 then 0 else if ca cells c ≠ ca cells (inner n c) then c else rootF n cells (inner n c)
termination_by c
decreasing_by exact inner_lt' h
theorem rootF_root {n : Nat} {cells : List Nat} {c : Nat} (h : isRoot n cells c) : rootF n cells c = c := by
  rw [rootF]
  rcases h with h | h
  · rw [dif_pos h, h]
  · split
    · rename_i z
      rw [z]
    · simp [h]
theorem rootF_in {n : Nat} {cells : List Nat} {c : Nat} (h0 : c ≠ 0) (h : ca cells c = ca cells (inner n c)) : rootF n cells c = rootF n cells (inner n c) := by
  rw [rootF, dif_neg h0, if_neg (by simpa using h)]
theorem rootF_spec (n : Nat) (cells : List Nat) (c : Nat) : rootF n cells c ≤ c ∧ isRoot n cells (rootF n cells c) ∧ ca cells (rootF n cells c) = ca cells c := by
  induction c using Nat.strongRecOn with
  | ind c ih =>
    by_cases h : isRoot n cells c
    · rw [rootF_root h]
      exact ⟨Nat.le_refl _, h, rfl⟩
    · have h0 : c ≠ 0 := fun z => h (.inl z)
      have h1 : ca cells c = ca cells (inner n c) := Classical.byContradiction fun z => h (.inr z)
      have lt := inner_lt' (n := n) h0
      obtain ⟨k1, k2, k3⟩ := ih _ lt
      rw [rootF_in h0 h1]
      exact ⟨by omega, k2, by rw [k3, h1]⟩
theorem nodup_map {f : Nat → Nat} : ∀ {l : List Nat}, l.Nodup → (∀ x ∈ l, ∀ y ∈ l, f x = f y → x = y) → (l.map f).Nodup
  | [], _, _ => List.nodup_nil
  | x :: r, h, inj => by
    obtain ⟨h1, h2⟩ := List.nodup_cons.mp h
    rw [List.map_cons]
    refine List.nodup_cons.mpr ⟨fun z => ?_, nodup_map h2 fun x hx y hy => inj x (by simp [hx]) y (by simp [hy])⟩
    obtain ⟨y, hy, e⟩ := List.mem_map.mp z
    have := inj y (by simp [hy]) x (by simp) e
    rw [this] at hy
    exact h1 hy
section
variable {a n : Nat} {cells : List Nat}
structure Shp (a n : Nat) (cells : List Nat) : Prop where
  ha : a ∈ [3, 4]
  hn : n ∈ [1, 2, 3, 4]
  len : cells.length = 1 + a * n
/-- one root, and no other -/
def One (n : Nat) (cells : List Nat) (v : Nat) : Prop := ∃ r, r < cells.length ∧ isRoot n cells r ∧ ca cells r = v ∧ ∀ r', r' < cells.length → isRoot n cells r' → ca cells r' = v → r' = r
/-- each land has one root: as many roots as lands, all of them there -/
theorem one_iff (P : Shp a n cells) {M : Nat} (lt : ∀ v ∈ cells, v < M) : (∀ v, v < M → One n cells v) ↔ ((∀ v, v < M → v ∈ cells) ∧ (crs n cells).length + 1 = M) := by
  have hl : (rts n cells).length = (crs n cells).length + 1 := by unfold rts; simp
  have pos : 0 < cells.length := by rw [P.len]; omega
  have rlt : ∀ r ∈ rts n cells, r < cells.length := fun r hr => by
    unfold rts at hr
    rcases List.mem_cons.mp hr with rfl | hr
    · exact pos
    · obtain ⟨i, hi, rfl⟩ := List.mem_map.mp hr
      have := List.mem_range.mp (List.mem_filter.mp hi).1
      omega
  have rnd : (rts n cells).Nodup := by
    unfold rts
    refine List.nodup_cons.mpr ⟨fun z => ?_, ?_⟩
    · obtain ⟨i, _, e⟩ := List.mem_map.mp z
      omega
    · exact List.Pairwise.map _ (fun x y (h : x ≠ y) => by omega) (List.Pairwise.filter _ List.nodup_range)
  have lab : ∀ r ∈ rts n cells, ca cells r < M := fun r hr => lt _ (ca_mem (rlt r hr))
  constructor
  · intro h
    refine ⟨fun v hv => ?_, ?_⟩
    · obtain ⟨r, hr, _, cr, _⟩ := h v hv
      rw [← cr]
      exact ca_mem hr
    · rw [← hl]
      have nd : ((rts n cells).map (ca cells)).Nodup := nodup_map rnd fun x hx y hy e => by
        obtain ⟨r, _, _, _, u⟩ := h (ca cells x) (lab x hx)
        rw [u x (rlt x hx) ((mem_rts (rlt x hx)).mp hx) rfl, u y (rlt y hy) ((mem_rts (rlt y hy)).mp hy) e.symm]
      have l1 := nodup_leN (b := List.range M) nd fun k hk => by
        obtain ⟨r, hr, rfl⟩ := List.mem_map.mp hk
        exact List.mem_range.mpr (lab r hr)
      have l2 := nodup_leN (a := List.range M) (b := (rts n cells).map (ca cells)) List.nodup_range fun v hv => by
        obtain ⟨r, hr, rr, cr, _⟩ := h v (List.mem_range.mp hv)
        exact List.mem_map.mpr ⟨r, (mem_rts hr).mpr rr, cr⟩
      simp at l1 l2
      omega
  · rintro ⟨h1, h2⟩ v hv
    have cover : ∀ v, v < M → v ∈ (rts n cells).map (ca cells) := fun v hv => by
      obtain ⟨i, hi, e⟩ := List.getElem_of_mem (h1 v hv)
      have ev : ca cells i = v := by
        have := ca_some hi
        rw [List.getElem?_eq_getElem hi] at this
        rw [← e]
        exact (Option.some.inj this).symm
      obtain ⟨k1, k2, k3⟩ := rootF_spec n cells i
      have kl : rootF n cells i < cells.length := by omega
      exact List.mem_map.mpr ⟨rootF n cells i, (mem_rts kl).mpr k2, by rw [k3, ev]⟩
    have nd := nodup_of_cover (L := (rts n cells).map (ca cells)) (m := M) (by rw [List.length_map, hl, h2]) cover
    obtain ⟨r, hr, cr⟩ := List.mem_map.mp (cover v hv)
    refine ⟨r, rlt r hr, (mem_rts (rlt r hr)).mp hr, cr, fun r' hr' rr' cr' => ?_⟩
    exact map_inj nd ((mem_rts hr').mpr rr') hr (by rw [cr', cr])
end
end ST
namespace ST
open PySem PD
end ST
namespace ST
open PySem PD PySem.W
/-! ### alike -/
/-! ### the same ascending list -/
theorem asc_eq : ∀ {xs ys : List Nat}, xs.Pairwise (· < ·) → ys.Pairwise (· < ·) → (∀ v, v ∈ xs ↔ v ∈ ys) → xs = ys
  | [], [], _, _, _ => rfl
  | [], y :: _, _, _, h => by have := (h y).mpr (by simp); cases this
  | x :: _, [], _, _, h => by have := (h x).mp (by simp); cases this
  | x :: r, y :: s, hx, hy, h => by
    rw [List.pairwise_cons] at hx hy
    have e : x = y := by
      rcases List.mem_cons.mp ((h x).mp (by simp)) with q | q
      · exact q
      · rcases List.mem_cons.mp ((h y).mpr (by simp)) with q2 | q2
        · exact q2.symm
        · have h1 := hy.1 x q
          have h2 := hx.1 y q2
          omega
    subst e
    congr 1
    refine asc_eq hx.2 hy.2 fun v => ?_
    constructor
    · intro hv
      rcases List.mem_cons.mp ((h v).mp (by simp [hv])) with q | q
      · have := hx.1 v hv
        omega
      · exact q
    · intro hv
      rcases List.mem_cons.mp ((h v).mpr (by simp [hv])) with q | q
      · have := hy.1 v hv
        omega
      · exact q
/-! ### cells, lands, arms -/
end ST
namespace ST
open PySem PD PySem.W
end ST
namespace ST
open PySem PD PySem.W
section
variable {a n m : Nat} {cells : List Nat}
theorem rows_take (V : Valid a n m cells) : ∀ k, k ≤ a → ((List.range k).map (armOf n cells)).flatten = (cells.drop 1).take (k * n)
  | 0, _ => by simp
  | k + 1, h => by
    rw [List.range_succ, List.map_append, List.flatten_append, rows_take V k (by omega), Nat.add_mul, Nat.one_mul, List.take_add, List.drop_drop]
    show _ ++ [armOf n cells k].flatten = _
    unfold armOf
    simp
theorem rows_join (V : Valid a n m cells) : ca cells 0 :: ((List.range a).map (armOf n cells)).flatten = cells := by
  rw [rows_take V a (Nat.le_refl _)]
  have h := V.len
  cases cells with
  | nil => simp at h; omega
  | cons x r =>
    have : r.length = a * n := by simp at h; omega
    show x :: (r.take (a * n)) = x :: r
    rw [← this, List.take_length]
/-! ### the law's own answers -/
end
end ST
namespace ST
open PySem PD PySem.W
end ST
namespace ST
open PySem PD PySem.W
end ST
namespace ST
open PySem PD PySem.W
/-! ### rows of lands from orders and places -/
/-- the land behind i places -/
def curL (h : Nat) (ord spots : List Nat) : Nat → Nat
  | 0 => h
  | i + 1 => if i ∈ spots then ord.getD (spots.idxOf i) 0 else curL h ord spots i
def placedN (n h : Nat) (ord spots : List Nat) : List Nat := (List.range n).map fun i => curL h ord spots (i + 1)
theorem placedN_len (n h : Nat) (ord spots : List Nat) : (placedN n h ord spots).length = n := by unfold placedN; simp
end ST
namespace ST
open PySem PD PySem.W
/-- orders, and places for them -/
structure Ord (a n : Nat) (os ps : List (List Nat)) : Prop where
  ha : 3 ≤ a ∧ a ≤ 4
  hn : 1 ≤ n ∧ n ≤ 4
  lo : os.length = a
  lp : ps.length = a
  land : ∀ o ∈ os, ∀ v ∈ o, v ≤ 4
  short : ∀ o ∈ os, o.length ≤ 50
  up : ∀ p ∈ ps, p.Pairwise (· < ·)
  lt : ∀ p ∈ ps, ∀ v ∈ p, v < n
  eq : ∀ q ∈ os.zip ps, q.1.length = q.2.length
section
variable {a n : Nat} {os ps : List (List Nat)}
theorem up_len : ∀ {p : List Nat} {n : Nat}, p.Pairwise (· < ·) → (∀ v ∈ p, v < n) → p.length ≤ n := by
  intro p n h1 h2
  have nd : p.Nodup := h1.imp (fun h => Nat.ne_of_lt h)
  have := L2.nat_nodup_len p (List.range n) nd fun v hv => List.mem_range.mpr (h2 v hv)
  rw [List.length_range] at this
  exact this
end
end ST
namespace ST
open PySem PD PySem.W
section
variable {a n h : Nat} {os ps : List (List Nat)}
def rowsN (n h : Nat) (os ps : List (List Nat)) : List (List Nat) := (os.zip ps).map fun q => placedN n h q.1 q.2
theorem rowsN_len (R : Ord a n os ps) : (rowsN n h os ps).length = a := by
  unfold rowsN
  rw [List.length_map, List.length_zip, R.lo, R.lp, Nat.min_self]
theorem rowsN_mem {r : List Nat} (hr : r ∈ rowsN n h os ps) : r.length = n := by
  unfold rowsN at hr
  obtain ⟨q, _, rfl⟩ := List.mem_map.mp hr
  exact placedN_len _ _ _ _
end
end ST
namespace ST
open PySem PD PySem.W
/-! ### the places at which a row changes its land -/
def spo (h k : Nat) : List Nat → List Nat
  | [] => []
  | v :: r => if v = h then spo v (k + 1) r else k :: spo v (k + 1) r
theorem spo_in (r : List Nat) : ∀ (h k : Nat), ∀ x ∈ spo h k r, k ≤ x ∧ x < k + r.length := by
  induction r with
  | nil => intro h k x hx; cases hx
  | cons v r ih =>
    intro h k x hx
    rw [List.length_cons]
    unfold spo at hx
    split at hx
    · have := ih v (k + 1) x hx
      omega
    · rcases List.mem_cons.mp hx with e | hx
      · omega
      · have := ih v (k + 1) x hx
        omega
theorem spo_up (r : List Nat) : ∀ (h k : Nat), (spo h k r).Pairwise (· < ·) := by
  induction r with
  | nil => intro h k; exact .nil
  | cons v r ih =>
    intro h k
    unfold spo
    split
    · exact ih v (k + 1)
    · refine .cons (fun x hx => ?_) (ih v (k + 1))
      have := spo_in r v (k + 1) x hx
      omega
theorem spo_len (r : List Nat) : ∀ (h k : Nat), (spo h k r).length = (met h r).length := by
  induction r with
  | nil => intro h k; rfl
  | cons v r ih =>
    intro h k
    unfold spo met
    split
    · exact ih v (k + 1)
    · rw [List.length_cons, List.length_cons, ih v (k + 1)]
theorem mem_spo (r : List Nat) : ∀ (h k j : Nat), j ∈ spo h k r ↔ ∃ i, j = k + i ∧ i < r.length ∧ r.getD i 0 ≠ (h :: r).getD i 0 := by
  induction r with
  | nil =>
    intro h k j
    constructor
    · intro h; cases h
    · rintro ⟨i, _, h, _⟩
      exact absurd h (Nat.not_lt_zero _)
  | cons v r ih =>
    intro h k j
    have step : (j ∈ spo v (k + 1) r) ↔ ∃ i, j = k + (i + 1) ∧ i + 1 < (v :: r).length ∧ (v :: r).getD (i + 1) 0 ≠ (h :: v :: r).getD (i + 1) 0 := by
      rw [ih v (k + 1) j]
      constructor
      · rintro ⟨i, rfl, h1, h2⟩
        exact ⟨i, by omega, by rw [List.length_cons]; omega, h2⟩
      · rintro ⟨i, rfl, h1, h2⟩
        rw [List.length_cons] at h1
        exact ⟨i, by omega, by omega, h2⟩
    unfold spo
    split
    · rename_i e
      subst e
      rw [step]
      constructor
      · rintro ⟨i, h1, h2, h3⟩
        exact ⟨i + 1, h1, h2, h3⟩
      · rintro ⟨i, h1, h2, h3⟩
        cases i with
        | zero => exact absurd rfl h3
        | succ i => exact ⟨i, h1, h2, h3⟩
    · rename_i ne
      rw [List.mem_cons, step]
      constructor
      · rintro (e | ⟨i, h1, h2, h3⟩)
        · exact ⟨0, by omega, by rw [List.length_cons]; omega, ne⟩
        · exact ⟨i + 1, h1, h2, h3⟩
      · rintro ⟨i, h1, h2, h3⟩
        cases i with
        | zero => exact .inl (by omega)
        | succ i => exact .inr ⟨i, h1, h2, h3⟩
theorem met_spo (r : List Nat) : ∀ (h k : Nat), met h r = (spo h k r).map fun j => r.getD (j - k) 0 := by
  induction r with
  | nil => intro h k; rfl
  | cons v r ih =>
    intro h k
    have e : (spo v (k + 1) r).map (fun j => r.getD (j - (k + 1)) 0) = (spo v (k + 1) r).map fun j => (v :: r).getD (j - k) 0 := by
      refine List.map_congr_left fun j hj => ?_
      have := (spo_in r v (k + 1) j hj).1
      have : j - k = (j - (k + 1)) + 1 := by omega
      rw [this]
      rfl
    unfold spo met
    split
    · rw [ih v (k + 1), e]
    · rw [List.map_cons, ih v (k + 1), e, Nat.sub_self]
      rfl
/-- the row of its own orders and places -/
theorem cur_back (r : List Nat) : ∀ (H h k : Nat) (os ps : List Nat), os.length = ps.length → (∀ x ∈ ps, x < k) → curL H (os ++ met h r) (ps ++ spo h k r) k = h → ∀ i, i < r.length → curL H (os ++ met h r) (ps ++ spo h k r) (k + i + 1) = r.getD i 0 := by
  induction r with
  | nil => intro H h k os ps _ _ _ i hi; exact absurd hi (Nat.not_lt_zero _)
  | cons v r ih =>
    intro H h k os ps hl hp hc i hi
    have knp : k ∉ ps := fun z => Nat.lt_irrefl _ (hp k z)
    have kns : k ∉ spo v (k + 1) r := fun z => by have := (spo_in r v (k + 1) k z).1; omega
    unfold met spo at hc ⊢
    by_cases e : v = h
    · rw [if_pos e, if_pos e] at hc ⊢
      have first : curL H (os ++ met v r) (ps ++ spo v (k + 1) r) (k + 1) = v := by
        rw [curL, if_neg (by rw [List.mem_append]; exact fun z => z.elim knp kns), hc, e]
      cases i with
      | zero => exact first
      | succ i =>
        have := ih H v (k + 1) os ps hl (fun x hx => Nat.lt_succ_of_lt (hp x hx)) first i (by rw [List.length_cons] at hi; omega)
        rw [show k + (i + 1) + 1 = k + 1 + i + 1 by omega, this]
        rfl
    · rw [if_neg e, if_neg e] at hc ⊢
      have first : curL H (os ++ v :: met v r) (ps ++ k :: spo v (k + 1) r) (k + 1) = v := by
        rw [curL, if_pos (by simp), List.idxOf_append, if_neg knp, List.idxOf_cons_self, Nat.zero_add, ← hl, List.getD_eq_getElem?_getD, List.getElem?_append_right (Nat.le_refl _), Nat.sub_self]
        rfl
      cases i with
      | zero => exact first
      | succ i =>
        have e1 : os ++ v :: met v r = (os ++ [v]) ++ met v r := by simp
        have e2 : ps ++ k :: spo v (k + 1) r = (ps ++ [k]) ++ spo v (k + 1) r := by simp
        rw [e1, e2] at first ⊢
        have := ih H v (k + 1) (os ++ [v]) (ps ++ [k]) (by simp [hl]) (fun x hx => by
          rcases List.mem_append.mp hx with z | z
          · exact Nat.lt_succ_of_lt (hp x z)
          · rw [List.mem_singleton.mp z]; exact Nat.lt_succ_self _) first i (by rw [List.length_cons] at hi; omega)
        rw [show k + (i + 1) + 1 = k + 1 + i + 1 by omega, this]
        rfl
theorem placed_back {n h : Nat} {r : List Nat} (hr : r.length = n) : placedN n h (met h r) (spo h 0 r) = r := by
  unfold placedN
  refine List.ext_getElem (by simp [hr]) fun i h1 h2 => ?_
  rw [List.getElem_map, List.getElem_range]
  have := cur_back r h h 0 [] [] rfl (fun x hx => by cases hx) rfl i h2
  rw [List.nil_append, List.nil_append, Nat.zero_add] at this
  rw [this, List.getD_eq_getElem?_getD, List.getElem?_eq_getElem h2]
  rfl
/-! ### the lands that a row of orders and places meets -/
end ST
namespace ST
open PySem PD PySem.W
/-! ### maps by their rows -/
def gR (rows : List (List Nat)) (k : Nat) : List Nat := rows.getD k []
theorem gR_mem {rows : List (List Nat)} {k : Nat} (hk : k < rows.length) : gR rows k ∈ rows := by
  unfold gR
  rw [List.getD_eq_getElem?_getD, List.getElem?_eq_getElem hk]
  exact List.getElem_mem hk
theorem mem_gR {rows : List (List Nat)} {r : List Nat} (h : r ∈ rows) : ∃ k, k < rows.length ∧ gR rows k = r := by
  obtain ⟨k, hk, e⟩ := List.getElem_of_mem h
  exact ⟨k, hk, by unfold gR; rw [List.getD_eq_getElem?_getD, List.getElem?_eq_getElem hk]; exact e⟩
theorem flat_get {n : Nat} : ∀ {rows : List (List Nat)}, (∀ r ∈ rows, r.length = n) → ∀ {k j : Nat}, k < rows.length → j < n → rows.flatten[k * n + j]? = (gR rows k)[j]?
  | [], _, _, _, hk, _ => absurd hk (Nat.not_lt_zero _)
  | r :: rows, hl, k, j, hk, hj => by
    have h0 := hl r (List.mem_cons_self ..)
    rw [List.flatten_cons]
    cases k with
    | zero =>
      rw [Nat.zero_mul, Nat.zero_add, List.getElem?_append_left (by rw [h0]; exact hj)]
      rfl
    | succ k =>
      rw [List.getElem?_append_right (by rw [h0, Nat.add_mul]; omega)]
      have e : (k + 1) * n + j - r.length = k * n + j := by rw [h0, Nat.add_mul, Nat.one_mul]; omega
      rw [e, flat_get (fun x hx => hl x (List.mem_cons_of_mem _ hx)) (by rw [List.length_cons] at hk; omega) hj]
      rfl
structure Rw (a n : Nat) (rows : List (List Nat)) : Prop where
  ha : 3 ≤ a ∧ a ≤ 4
  hn : 1 ≤ n ∧ n ≤ 4
  len : rows.length = a
  each : ∀ r ∈ rows, r.length = n
section
variable {a n h : Nat} {rows : List (List Nat)}
def mapOf (h : Nat) (rows : List (List Nat)) : List Nat := h :: rows.flatten
theorem flat_len {n : Nat} : ∀ {rows : List (List Nat)}, (∀ r ∈ rows, r.length = n) → rows.flatten.length = rows.length * n
  | [], _ => by simp
  | r :: rows, h => by
    rw [List.flatten_cons, List.length_append, h r (List.mem_cons_self ..), flat_len fun x hx => h x (List.mem_cons_of_mem _ hx), List.length_cons, Nat.add_mul, Nat.one_mul, Nat.add_comm]
theorem Rw.mlen (R : Rw a n rows) : (mapOf h rows).length = 1 + a * n := by
  unfold mapOf
  rw [List.length_cons, flat_len R.each, R.len, Nat.add_comm]
theorem Rw.shp (R : Rw a n rows) : Shp a n (mapOf h rows) := by
  have h1 := R.ha
  have h2 := R.hn
  exact ⟨by simp; omega, by simp; omega, R.mlen⟩
theorem Rw.glen (R : Rw a n rows) {k : Nat} (hk : k < a) : (gR rows k).length = n := R.each _ (gR_mem (by rw [R.len]; exact hk))
theorem Rw.at_ (R : Rw a n rows) {k j : Nat} (hk : k < a) (hj : j < n) : ca (mapOf h rows) (1 + k * n + j) = (gR rows k).getD j 0 := by
  unfold ca mapOf
  rw [List.getD_eq_getElem?_getD, show 1 + k * n + j = (k * n + j) + 1 by omega, List.getElem?_cons_succ, flat_get R.each (by rw [R.len]; exact hk) hj, List.getD_eq_getElem?_getD]
theorem inner_pl {n k j : Nat} (hj : j < n) : inner n (1 + k * n + j) = if j = 0 then 0 else 1 + k * n + (j - 1) := by
  unfold inner
  have e : (1 + k * n + j - 1) % n = j := by
    rw [show 1 + k * n + j - 1 = j + n * k by rw [Nat.mul_comm n k]; omega, Nat.add_mul_mod_self_left, Nat.mod_eq_of_lt hj]
  rw [e]
  split
  · rfl
  · omega
theorem Rw.inner (R : Rw a n rows) {k j : Nat} (hk : k < a) (hj : j < n) : ca (mapOf h rows) (ST.inner n (1 + k * n + j)) = (h :: gR rows k).getD j 0 := by
  rw [inner_pl hj]
  cases j with
  | zero => rfl
  | succ j =>
    rw [if_neg (by omega), Nat.succ_sub_one, R.at_ hk (by omega)]
    rfl
theorem Rw.lt (R : Rw a n rows) {k j : Nat} (hk : k < a) (hj : j < n) : 1 + k * n + j < (mapOf h rows).length := by
  rw [R.mlen]
  have : (k + 1) * n ≤ a * n := Nat.mul_le_mul_right _ hk
  rw [Nat.add_mul, Nat.one_mul] at this
  omega
theorem Rw.root (R : Rw a n rows) {k j : Nat} (hk : k < a) (hj : j < n) : isRoot n (mapOf h rows) (1 + k * n + j) ↔ j ∈ spo h 0 (gR rows k) := by
  rw [mem_spo]
  unfold isRoot
  rw [R.at_ hk hj, R.inner hk hj]
  constructor
  · rintro (z | z)
    · omega
    · exact ⟨j, by omega, by rw [R.glen hk]; exact hj, z⟩
  · rintro ⟨i, e, _, z⟩
    have : i = j := by omega
    subst this
    exact .inr z
theorem Rw.place (R : Rw a n rows) {c : Nat} (hc : c < (mapOf h rows).length) (h0 : c ≠ 0) : ∃ k j, k < a ∧ j < n ∧ c = 1 + k * n + j := by
  rw [R.mlen] at hc
  have hn := R.hn
  refine ⟨(c - 1) / n, (c - 1) % n, ?_, Nat.mod_lt _ (by omega), ?_⟩
  · rw [Nat.div_lt_iff_lt_mul (by omega)]
    omega
  · have := Nat.div_add_mod (c - 1) n
    rw [Nat.mul_comm] at this
    omega
theorem place_one {k j k' j' : Nat} (hj : j < n) (hj' : j' < n) (e : 1 + k * n + j = 1 + k' * n + j') : k = k' ∧ j = j' := by
  have e1 : j + n * k = j' + n * k' := by rw [Nat.mul_comm n k, Nat.mul_comm n k']; omega
  have m1 : (j + n * k) % n = j := by rw [Nat.add_mul_mod_self_left, Nat.mod_eq_of_lt hj]
  have m2 : (j' + n * k') % n = j' := by rw [Nat.add_mul_mod_self_left, Nat.mod_eq_of_lt hj']
  have ej : j = j' := by rw [← m1, ← m2, e1]
  have n0 : 0 < n := by omega
  have d1 : (j + n * k) / n = k := by rw [Nat.add_mul_div_left _ _ n0, Nat.div_eq_of_lt hj, Nat.zero_add]
  have d2 : (j' + n * k') / n = k' := by rw [Nat.add_mul_div_left _ _ n0, Nat.div_eq_of_lt hj', Nat.zero_add]
  exact ⟨by rw [← d1, ← d2, e1], ej⟩
theorem Rw.in_met (R : Rw a n rows) {k v : Nat} (hk : k < a) : v ∈ met h (gR rows k) ↔ ∃ j, j < n ∧ isRoot n (mapOf h rows) (1 + k * n + j) ∧ ca (mapOf h rows) (1 + k * n + j) = v := by
  rw [met_spo _ h 0, List.mem_map]
  constructor
  · rintro ⟨j, hj, e⟩
    have lj := (spo_in _ h 0 j hj).2
    rw [R.glen hk, Nat.zero_add] at lj
    exact ⟨j, lj, (R.root hk lj).mpr hj, by rw [R.at_ hk lj]; exact e⟩
  · rintro ⟨j, lj, hj, e⟩
    rw [R.at_ hk lj] at e
    exact ⟨j, (R.root hk lj).mp hj, e⟩
/-! ### orders -/
structure Ords (a h m : Nat) (os : List (List Nat)) : Prop where
  lo : os.length = a
  hh : h < m
  nd : ∀ k, k < a → (h :: gR os k).Nodup
  dj : ∀ k l v, k < a → l < a → v ∈ gR os k → v ∈ gR os l → k = l
  cov : ∀ v, v < m → v = h ∨ ∃ k, k < a ∧ v ∈ gR os k
  lt : ∀ k, k < a → ∀ v ∈ gR os k, v < m
theorem gR_map {f : List Nat → List Nat} {rows : List (List Nat)} {k : Nat} (hk : k < rows.length) : gR (rows.map f) k = f (gR rows k) := by
  unfold gR
  rw [List.getD_eq_getElem?_getD, List.getElem?_map, List.getD_eq_getElem?_getD, List.getElem?_eq_getElem hk]
  rfl
theorem inj_of_nodup {f : Nat → Nat} : ∀ {l : List Nat}, (l.map f).Nodup → ∀ x ∈ l, ∀ y ∈ l, f x = f y → x = y
  | [], _, _, h, _, _, _ => by cases h
  | z :: l, nd, x, hx, y, hy, e => by
    rw [List.map_cons, List.nodup_cons] at nd
    rcases List.mem_cons.mp hx with e1 | hx
    · rcases List.mem_cons.mp hy with e2 | hy
      · rw [e1, e2]
      · rw [← e1, e] at nd
        exact absurd (List.mem_map_of_mem hy) nd.1
    · rcases List.mem_cons.mp hy with e2 | hy
      · rw [← e2, ← e] at nd
        exact absurd (List.mem_map_of_mem hx) nd.1
      · exact inj_of_nodup nd.2 x hx y hy e
variable {m : Nat}
theorem Rw.ords (R : Rw a n rows) (V : Valid a n m (mapOf h rows)) : Ords a h m (rows.map (met h)) := by
  have g : ∀ k, k < a → gR (rows.map (met h)) k = met h (gR rows k) := fun k hk => gR_map (by rw [R.len]; exact hk)
  have pos : 0 < (mapOf h rows).length := by rw [R.mlen]; omega
  refine ⟨by rw [List.length_map, R.len], V.lt h (List.mem_cons_self ..), fun k hk => ?_, fun k l v hk hl h1 h2 => ?_, fun v hv => ?_, fun k hk v hv => ?_⟩
  · rw [g k hk, List.nodup_cons]
    refine ⟨fun z => ?_, ?_⟩
    · obtain ⟨j, lj, rt, e⟩ := (R.in_met hk).mp z
      have := V.unique pos (R.lt hk lj) (.inl rfl) rt (by rw [e]; rfl)
      omega
    · rw [met_spo _ h 0]
      refine nodup_map ((spo_up _ _ _).imp fun h => Nat.ne_of_lt h) fun x hx y hy e => ?_
      have lx := (spo_in _ h 0 x hx).2
      have ly := (spo_in _ h 0 y hy).2
      rw [R.glen hk, Nat.zero_add] at lx ly
      rw [Nat.sub_zero, Nat.sub_zero] at e
      have := V.unique (R.lt hk lx) (R.lt hk ly) ((R.root hk lx).mpr hx) ((R.root hk ly).mpr hy) (by rw [R.at_ hk lx, R.at_ hk ly]; exact e)
      omega
  · rw [g k hk] at h1
    rw [g l hl] at h2
    obtain ⟨i, li, r1, e1⟩ := (R.in_met hk).mp h1
    obtain ⟨j, lj, r2, e2⟩ := (R.in_met hl).mp h2
    have := V.unique (R.lt hk li) (R.lt hl lj) r1 r2 (by rw [e1, e2])
    exact (place_one li lj this).1
  · have hm := V.cov v hv
    obtain ⟨c, hc, e⟩ := List.getElem_of_mem hm
    have ec : ca (mapOf h rows) c = v := by
      unfold ca
      rw [List.getD_eq_getElem?_getD, List.getElem?_eq_getElem hc]
      exact e
    obtain ⟨r, rc, rt, er⟩ := root_of n (mapOf h rows) c
    by_cases r0 : r = 0
    · subst r0
      exact .inl (by rw [← ec, ← er]; rfl)
    · obtain ⟨k, j, hk, hj, rfl⟩ := R.place (Nat.lt_of_le_of_lt rc hc) r0
      exact .inr ⟨k, hk, by rw [g k hk]; exact (R.in_met hk).mpr ⟨j, hj, rt, by rw [er, ec]⟩⟩
  · rw [g k hk] at hv
    obtain ⟨j, lj, _, e⟩ := (R.in_met hk).mp hv
    rw [← e]
    exact V.lt _ (ca_mem (R.lt hk lj))
theorem Rw.valid (R : Rw a n rows) {os : List (List Nat)} (hm : 2 ≤ m ∧ m ≤ n + 1) (O : Ords a h m os) (e : ∀ k, k < a → met h (gR rows k) = gR os k) : Valid a n m (mapOf h rows) := by
  have pos : 0 < (mapOf h rows).length := by rw [R.mlen]; omega
  have lt : ∀ v ∈ mapOf h rows, v < m := fun v hv => by
    obtain ⟨c, hc, ev⟩ := List.getElem_of_mem hv
    have ec : ca (mapOf h rows) c = v := by
      unfold ca
      rw [List.getD_eq_getElem?_getD, List.getElem?_eq_getElem hc]
      exact ev
    obtain ⟨r, rc, rt, er⟩ := root_of n (mapOf h rows) c
    by_cases r0 : r = 0
    · subst r0
      rw [← ec, ← er]
      exact O.hh
    · obtain ⟨k, j, hk, hj, rfl⟩ := R.place (Nat.lt_of_le_of_lt rc hc) r0
      refine O.lt k hk v ?_
      rw [← e k hk]
      exact (R.in_met hk).mpr ⟨j, hj, rt, by rw [er, ec]⟩
  have one : ∀ v, v < m → One n (mapOf h rows) v := fun v hv => by
    have ex : ∃ r, r < (mapOf h rows).length ∧ isRoot n (mapOf h rows) r ∧ ca (mapOf h rows) r = v := by
      rcases O.cov v hv with rfl | ⟨k, hk, hv⟩
      · exact ⟨0, pos, .inl rfl, rfl⟩
      · rw [← e k hk] at hv
        obtain ⟨j, lj, rt, ev⟩ := (R.in_met hk).mp hv
        exact ⟨_, R.lt hk lj, rt, ev⟩
    obtain ⟨r, hr, rt, ev⟩ := ex
    refine ⟨r, hr, rt, ev, fun r' hr' rt' ev' => ?_⟩
    have far : ∀ x, x < (mapOf h rows).length → isRoot n (mapOf h rows) x → x ≠ 0 → ∃ k j, k < a ∧ j < n ∧ x = 1 + k * n + j ∧ ca (mapOf h rows) x ∈ met h (gR rows k) := fun x hx rx x0 => by
      obtain ⟨k, j, hk, hj, rfl⟩ := R.place hx x0
      exact ⟨k, j, hk, hj, rfl, (R.in_met hk).mpr ⟨j, hj, rx, rfl⟩⟩
    have nothub : ∀ k, k < a → h ∉ met h (gR rows k) := fun k hk => by
      rw [e k hk]
      exact (List.nodup_cons.mp (O.nd k hk)).1
    by_cases r0 : r = 0
    · by_cases r0' : r' = 0
      · rw [r0, r0']
      · exfalso
        obtain ⟨k, j, hk, hj, _, hmem⟩ := far r' hr' rt' r0'
        rw [ev', ← ev, r0] at hmem
        exact nothub k hk hmem
    · by_cases r0' : r' = 0
      · exfalso
        obtain ⟨k, j, hk, hj, _, hmem⟩ := far r hr rt r0
        rw [ev, ← ev', r0'] at hmem
        exact nothub k hk hmem
      · obtain ⟨k, j, hk, hj, e1, m1⟩ := far r hr rt r0
        obtain ⟨l, i, hl, hi, e2, m2⟩ := far r' hr' rt' r0'
        rw [ev, e k hk] at m1
        rw [ev', e l hl] at m2
        have kl := O.dj k l v hk hl m1 m2
        subst kl
        have nd : (met h (gR rows k)).Nodup := by rw [e k hk]; exact (List.nodup_cons.mp (O.nd k hk)).2
        rw [met_spo _ h 0] at nd
        rw [e1] at rt ev
        rw [e2] at rt' ev'
        have := inj_of_nodup nd i ((R.root hk hi).mp rt') j ((R.root hk hj).mp rt) (by
          rw [Nat.sub_zero, Nat.sub_zero]
          rw [R.at_ hk hj] at ev
          rw [R.at_ hk hi] at ev'
          rw [ev, ev'])
        rw [e1, e2, this]
  obtain ⟨c1, c2⟩ := (one_iff (R.shp (h := h)) lt).mp one
  exact ⟨R.ha, R.hn, hm, R.mlen, lt, c1, c2⟩
end
end ST
namespace ST
open PySem PD PySem.W
/-! ### pairs in their order -/
end ST
namespace ST
open PySem PD PySem.W
end ST
namespace ST
open PySem PD PySem.W
end ST
namespace ST
open PySem PD PySem.W
section
variable {a n m : Nat} {cells : List Nat}
theorem check_land (V : Valid a n m cells) {l : Nat} (h : l < m) : p_check_land [ch a cells, iN l] = some .none := by
  have q := V.land h
  obtain ⟨C, hC⟩ : ∃ z, z = ch a cells := ⟨_, rfl⟩
  rw [← hC] at q ⊢
  unfold p_check_land g_check_land
  simp [bodyP, bodyI, startE, startI, sSeq, sRet, sAsg, sExp, sIfS, sNx, sV, sB, sC, PD.s2, toT, sTr, truth, bne_dec, sChain, sAnd, sOr, sNot, sIf, tAnd', tOr', tNot', sNil, sCons, sCall, allD, sN, allR, PD.res, sTup, sLst, sFr, gN, gT, gsNil, gsCons, sIsi, tyName, isSub, sOrE, sM1, sM1T, ST.fAdd_int, fSub, fLe, fLt, fGt, fGe, eq_int, ne_int, cont?, setCont, List.replicate, fLen, sOwn, sApp, q]
/-- those beside a land -/
def lowr (L : List (Nat × Nat)) (l : Nat) : List Nat := (L.filter fun x => decide (x.2 = l)).map (·.1)
def uppr (L : List (Nat × Nat)) (l : Nat) : List Nat := (L.filter fun x => decide (x.1 = l)).map (·.2)
theorem neighbors (V : Valid a n m cells) {l : Nat} (hl : l < m) {L : List (Nat × Nat)} (q : p_land_pairs [ch a cells] = some (.tuple (L.map tkD))) (len : L.length ≤ 1000) : p_neighbors [ch a cells, iN l] = some (tN (lowr L l ++ uppr L l)) := by
  have ck := V.check
  have cl := check_land V hl
  obtain ⟨C, hC⟩ : ∃ z, z = ch a cells := ⟨_, rfl⟩
  obtain ⟨P, hP⟩ : ∃ z, z = L.map tkD := ⟨_, rfl⟩
  rw [← hC] at q ck cl ⊢
  rw [← hP] at q
  have c1 : c1_neighbors [.dat C, .dat (iN l), .dat (.tuple P), .un, .un, .un, .un] = some ((lowr L l).map iN, [.dat C, .dat (iN l), .dat (.tuple P), .un, .un, .un, .un]) := by
    unfold lowr
    rw [List.map_map]
    refine sComp_on L tkD (iN ∘ (·.1)) _ (by rw [hP]; simp [bodyP, bodyI, startE, startI, sSeq, sRet, sAsg, sExp, sIfS, sNx, sV, sB, sC, PD.s2, toT, sTr, truth, bne_dec, sChain, sAnd, sOr, sNot, sIf, tAnd', tOr', tNot', sNil, sCons, sCall, allD, sN, allR, PD.res, sTup, sLst, sFr, gN, gT, gsNil, gsCons, sIsi, tyName, isSub, sOrE, sM1, sM1T, ST.fAdd_int, fSub, fLe, fLt, fGt, fGe, eq_int, ne_int, cont?, setCont, List.replicate, fLen, sOwn, sApp, sSq]) rfl (by omega) rfl fun x hx => ⟨_, rfl, rfl, ?_, ?_⟩
    · simp [bodyP, bodyI, startE, startI, sSeq, sRet, sAsg, sExp, sIfS, sNx, sV, sB, sC, PD.s2, toT, sTr, truth, bne_dec, sChain, sAnd, sOr, sNot, sIf, tAnd', tOr', tNot', sNil, sCons, sCall, allD, sN, allR, PD.res, sTup, sLst, sFr, gN, gT, gsNil, gsCons, sIsi, tyName, isSub, sOrE, sM1, sM1T, ST.fAdd_int, fSub, fLe, fLt, fGt, fGe, eq_int, ne_int, cont?, setCont, List.replicate, fLen, sOwn, sApp, wipeE]
      omega
    · intro _
      simp [bodyP, bodyI, startE, startI, sSeq, sRet, sAsg, sExp, sIfS, sNx, sV, sB, sC, PD.s2, toT, sTr, truth, bne_dec, sChain, sAnd, sOr, sNot, sIf, tAnd', tOr', tNot', sNil, sCons, sCall, allD, sN, allR, PD.res, sTup, sLst, sFr, gN, gT, gsNil, gsCons, sIsi, tyName, isSub, sOrE, sM1, sM1T, ST.fAdd_int, fSub, fLe, fLt, fGt, fGe, eq_int, ne_int, cont?, setCont, List.replicate, fLen, sOwn, sApp, wipeE]
  obtain ⟨A, hA⟩ : ∃ z, z = (lowr L l).map iN := ⟨_, rfl⟩
  have c2 : c2_neighbors [.dat C, .dat (iN l), .dat (.tuple P), .dat (.list A), .un, .un, .un] = some ((uppr L l).map iN, [.dat C, .dat (iN l), .dat (.tuple P), .dat (.list A), .un, .un, .un]) := by
    unfold uppr
    rw [List.map_map]
    refine sComp_on L tkD (iN ∘ (·.2)) _ (by rw [hP]; simp [bodyP, bodyI, startE, startI, sSeq, sRet, sAsg, sExp, sIfS, sNx, sV, sB, sC, PD.s2, toT, sTr, truth, bne_dec, sChain, sAnd, sOr, sNot, sIf, tAnd', tOr', tNot', sNil, sCons, sCall, allD, sN, allR, PD.res, sTup, sLst, sFr, gN, gT, gsNil, gsCons, sIsi, tyName, isSub, sOrE, sM1, sM1T, ST.fAdd_int, fSub, fLe, fLt, fGt, fGe, eq_int, ne_int, cont?, setCont, List.replicate, fLen, sOwn, sApp, sSq]) rfl (by omega) rfl fun x hx => ⟨_, rfl, rfl, ?_, ?_⟩
    · simp [bodyP, bodyI, startE, startI, sSeq, sRet, sAsg, sExp, sIfS, sNx, sV, sB, sC, PD.s2, toT, sTr, truth, bne_dec, sChain, sAnd, sOr, sNot, sIf, tAnd', tOr', tNot', sNil, sCons, sCall, allD, sN, allR, PD.res, sTup, sLst, sFr, gN, gT, gsNil, gsCons, sIsi, tyName, isSub, sOrE, sM1, sM1T, ST.fAdd_int, fSub, fLe, fLt, fGt, fGe, eq_int, ne_int, cont?, setCont, List.replicate, fLen, sOwn, sApp, wipeE]
      omega
    · intro _
      simp [bodyP, bodyI, startE, startI, sSeq, sRet, sAsg, sExp, sIfS, sNx, sV, sB, sC, PD.s2, toT, sTr, truth, bne_dec, sChain, sAnd, sOr, sNot, sIf, tAnd', tOr', tNot', sNil, sCons, sCall, allD, sN, allR, PD.res, sTup, sLst, sFr, gN, gT, gsNil, gsCons, sIsi, tyName, isSub, sOrE, sM1, sM1T, ST.fAdd_int, fSub, fLe, fLt, fGt, fGe, eq_int, ne_int, cont?, setCont, List.replicate, fLen, sOwn, sApp, wipeE]
  obtain ⟨B, hB⟩ : ∃ z, z = (uppr L l).map iN := ⟨_, rfl⟩
  have Al : A.length ≤ 1000 := by
    rw [hA, List.length_map]
    unfold lowr
    rw [List.length_map]
    exact Nat.le_trans (List.length_filter_le _ _) len
  have Bl : B.length ≤ 1000 := by
    rw [hB, List.length_map]
    unfold uppr
    rw [List.length_map]
    exact Nat.le_trans (List.length_filter_le _ _) len
  have ad : fAdd (.list A) (.list B) = some (.list (A ++ B)) := by
    show (if A.length + B.length ≤ 1000000 then some (PyData.list (A ++ B)) else none) = _
    rw [if_pos (by omega)]
  rw [← hA] at c1
  rw [← hB] at c2
  show p_neighbors [C, iN l] = some (.tuple ((lowr L l ++ uppr L l).map iN))
  rw [List.map_append, ← hA, ← hB]
  unfold p_neighbors g_neighbors
  simp [bodyP, bodyI, startE, startI, sSeq, sRet, sAsg, sExp, sIfS, sNx, sV, sB, sC, PD.s2, toT, sTr, truth, bne_dec, sChain, sAnd, sOr, sNot, sIf, tAnd', tOr', tNot', sNil, sCons, sCall, allD, sN, allR, PD.res, sTup, sLst, sFr, gN, gT, gsNil, gsCons, sIsi, tyName, isSub, sOrE, sM1, sM1T, ST.fAdd_int, fSub, fLe, fLt, fGt, fGe, eq_int, ne_int, cont?, setCont, List.replicate, fLen, sOwn, sApp, ck, cl, q, c1, c2, ad, fTupOf]
end
end ST
namespace ST
open PySem PD PySem.W
section
variable {a n m : Nat} {cells : List Nat}
/-- those beside a land, as the law has them -/
def oth (L : List (Nat × Nat)) (l : Nat) : List Nat := (L.filter fun x => decide (l ∈ [x.1, x.2])).map fun x => x.1 + x.2 - l
end
end ST
namespace ST
open PySem PD PySem.W
section
variable {a n m : Nat} {cells : List Nat}
def rws (a n : Nat) (cells : List Nat) : List (List Nat) := (List.range a).map (armOf n cells)
def plc (a n : Nat) (cells : List Nat) : List (List Nat) := (List.range a).map fun k => spo (ca cells 0) 0 (armOf n cells k)
theorem rws_rw (V : Valid a n m cells) : Rw a n (rws a n cells) := ⟨V.ha, V.hn, by unfold rws; simp, fun r hr => by
  unfold rws at hr
  obtain ⟨k, hk, rfl⟩ := List.mem_map.mp hr
  exact armOf_len V (List.mem_range.mp hk)⟩
theorem map_rws (V : Valid a n m cells) : mapOf (ca cells 0) (rws a n cells) = cells := rows_join V
theorem gR_range {f : Nat → List Nat} {k : Nat} (hk : k < a) : gR ((List.range a).map f) k = f k := by
  unfold gR
  rw [List.getD_eq_getElem?_getD, List.getElem?_map, List.getElem?_range hk]
  rfl
theorem zip_range {f g : Nat → List Nat} {q : List Nat × List Nat} (h : q ∈ ((List.range a).map f).zip ((List.range a).map g)) : ∃ k, k < a ∧ q.1 = f k ∧ q.2 = g k := by
  obtain ⟨i, hi, e⟩ := List.getElem_of_mem h
  rw [List.length_zip, List.length_map, List.length_map, List.length_range, Nat.min_self] at hi
  rw [List.getElem_zip] at e
  refine ⟨i, hi, ?_, ?_⟩
  · rw [← e]
    simp
  · rw [← e]
    simp
theorem ords_are (V : Valid a n m cells) : Ords a (ca cells 0) m (ords a n cells) := by
  have R := rws_rw V
  have := R.ords (h := ca cells 0) (m := m) (by rw [map_rws V]; exact V)
  have e : (rws a n cells).map (met (ca cells 0)) = ords a n cells := by
    unfold rws ords
    rw [List.map_map]
    rfl
  rw [e] at this
  exact this
theorem ord_is (V : Valid a n m cells) : Ord a n (ords a n cells) (plc a n cells) := by
  have O := ords_are V
  have hn := V.hn
  have hm := V.hm
  refine ⟨V.ha, V.hn, O.lo, by unfold plc; simp, fun o ho v hv => ?_, fun o ho => ?_, fun p hp => ?_, fun p hp v hv => ?_, fun q hq => ?_⟩
  · obtain ⟨k, hk, rfl⟩ := mem_gR ho
    have := O.lt k (by rw [← O.lo]; exact hk) v hv
    omega
  · unfold ords at ho
    obtain ⟨k, hk, rfl⟩ := List.mem_map.mp ho
    have := met_len (armOf n cells k) (ca cells 0)
    rw [armOf_len V (List.mem_range.mp hk)] at this
    unfold ordOf
    omega
  · unfold plc at hp
    obtain ⟨k, hk, rfl⟩ := List.mem_map.mp hp
    exact spo_up _ _ _
  · unfold plc at hp
    obtain ⟨k, hk, rfl⟩ := List.mem_map.mp hp
    have := (spo_in _ _ _ v hv).2
    rw [armOf_len V (List.mem_range.mp hk)] at this
    omega
  · unfold ords plc at hq
    obtain ⟨k, hk, e1, e2⟩ := zip_range hq
    rw [e1, e2, spo_len]
    rfl
theorem Rw.of {h : Nat} {os ps : List (List Nat)} (O : Ord a n os ps) : Rw a n (rowsN n h os ps) := ⟨O.ha, O.hn, rowsN_len O, fun r hr => rowsN_mem hr⟩
end
end ST
namespace ST
open PySem PD PySem.W
end ST
namespace ST
open PySem PD PySem.W
end ST
namespace ST
open PySem PD PySem.W
theorem enumD_rows (r : List Nat) : enumD (r.map iN) = (List.range r.length).map fun i => .tuple [iN i, iN (r.getD i 0)] := by
  unfold enumD
  refine List.ext_getElem (by simp) fun i h1 h2 => ?_
  have hi : i < r.length := by simpa using h2
  rw [List.getElem_mapIdx, List.getElem_map, List.getElem_map, List.getElem_range, List.getD_eq_getElem?_getD, List.getElem?_eq_getElem hi]
  rfl
theorem spo_filter (h : Nat) (r : List Nat) : (List.range r.length).filter (fun i => !decide (r.getD i 0 = (h :: r).getD i 0)) = spo h 0 r := by
  refine asc_eq (List.Pairwise.sublist List.filter_sublist List.pairwise_lt_range) (spo_up r h 0) fun v => ?_
  rw [List.mem_filter, List.mem_range, mem_spo]
  constructor
  · rintro ⟨h1, h2⟩
    exact ⟨v, by omega, h1, by simpa using h2⟩
  · rintro ⟨i, e, h1, h2⟩
    have : i = v := by omega
    subst this
    exact ⟨h1, by simpa using h2⟩
theorem places_on {h : Nat} {r : List Nat} (hl : r.length < 1000) : p_places_on [iN h, tN r] = some (tN (spo h 0 r)) := by
  obtain ⟨R, hR⟩ : ∃ z, z = r.map iN := ⟨_, rfl⟩
  have Rl : R.length = r.length := by rw [hR, List.length_map]
  obtain ⟨Bf, hBf⟩ : ∃ z, z = PyData.tuple (iN h :: R) := ⟨_, rfl⟩
  have ad : fAdd (.tuple [iN h]) (.tuple R) = some Bf := by
    show (if 1 + R.length ≤ 1000000 then some (PyData.tuple ([iN h] ++ R)) else none) = _
    rw [if_pos (by omega), hBf]
    rfl
  have ixB : ∀ i, i < r.length → fIx Bf (iN i) = some (iN ((h :: r).getD i 0)) := fun i hi => by
    rw [hBf, hR]
    refine (ix_map (f := iN) (xs := h :: r) (j := i) ?_).2
    rw [List.getD_eq_getElem?_getD, List.getElem?_eq_getElem (by rw [List.length_cons]; omega)]
    rfl
  have c1 : c1_places_on [.dat (iN h), .dat (.tuple R), .dat Bf, .un, .un] = some ((spo h 0 r).map iN, [.dat (iN h), .dat (.tuple R), .dat Bf, .un, .un]) := by
    rw [← spo_filter]
    refine sComp_on (List.range r.length) (fun i => .tuple [iN i, iN (r.getD i 0)]) iN _ ?_ rfl (by simp; omega) rfl fun i hi => ⟨_, rfl, rfl, ?_, ?_⟩
    · rw [← enumD_rows, ← hR]
      rfl
    · have q := ixB i (List.mem_range.mp hi)
      generalize r.getD i 0 = x
      generalize (h :: r).getD i 0 = y at q ⊢
      have e : (decide ((x : Int) = (y : Int))) = decide (x = y) := by
        by_cases z : x = y
        · simp [z]
        · have : ¬ (x : Int) = (y : Int) := by omega
          simp [z, this]
      simp [bodyP, bodyI, startE, startI, sSeq, sRet, sAsg, sExp, sIfS, sNx, sV, sB, sC, PD.s2, toT, sTr, truth, bne_dec, sChain, sAnd, sOr, sNot, sIf, tAnd', tOr', tNot', sNil, sCons, sCall, allD, sN, allR, PD.res, sTup, sLst, sFr, gN, gT, gsNil, gsCons, sIsi, tyName, isSub, sOrE, sM1, sM1T, ST.fAdd_int, fSub, fLe, fLt, fGt, fGe, eq_int, ne_int, cont?, setCont, List.replicate, fLen, sOwn, sApp, wipeE, q, e]
    · intro _
      simp [bodyP, bodyI, startE, startI, sSeq, sRet, sAsg, sExp, sIfS, sNx, sV, sB, sC, PD.s2, toT, sTr, truth, bne_dec, sChain, sAnd, sOr, sNot, sIf, tAnd', tOr', tNot', sNil, sCons, sCall, allD, sN, allR, PD.res, sTup, sLst, sFr, gN, gT, gsNil, gsCons, sIsi, tyName, isSub, sOrE, sM1, sM1T, ST.fAdd_int, fSub, fLe, fLt, fGt, fGe, eq_int, ne_int, cont?, setCont, List.replicate, fLen, sOwn, sApp, wipeE]
  obtain ⟨S, hS⟩ : ∃ z, z = (spo h 0 r).map iN := ⟨_, rfl⟩
  rw [← hS] at c1
  show p_places_on [iN h, .tuple (r.map iN)] = some (.tuple ((spo h 0 r).map iN))
  rw [← hR, ← hS]
  unfold p_places_on g_places_on
  simp [bodyP, bodyI, startE, startI, sSeq, sRet, sAsg, sExp, sIfS, sNx, sV, sB, sC, PD.s2, toT, sTr, truth, bne_dec, sChain, sAnd, sOr, sNot, sIf, tAnd', tOr', tNot', sNil, sCons, sCall, allD, sN, allR, PD.res, sTup, sLst, sFr, gN, gT, gsNil, gsCons, sIsi, tyName, isSub, sOrE, sM1, sM1T, ST.fAdd_int, fSub, fLe, fLt, fGt, fGe, eq_int, ne_int, cont?, setCont, List.replicate, fLen, sOwn, sApp, ad, c1, fTupOf]
section
variable {a n m : Nat} {cells : List Nat}
theorem border_places (V : Valid a n m cells) : p_border_places [ch a cells] = some (.tuple ((plc a n cells).map tN)) := by
  have ha := V.ha
  have hn := V.hn
  have er := arm_rows V
  have h0 := V.ix0
  have hk := V.check
  obtain ⟨C, hC⟩ : ∃ Z, Z = tN cells := ⟨_, rfl⟩
  obtain ⟨Ch, hCh⟩ : ∃ Z, Z = ch a cells := ⟨_, rfl⟩
  have hix : fIx Ch (.int 1) = some C := by rw [hCh, hC]; rfl
  rw [← hCh] at er hk ⊢
  rw [← hC] at h0
  have e0 : (plc a n cells).map tN = (List.range a).map fun k => tN (spo (ca cells 0) 0 (armOf n cells k)) := by unfold plc; rw [List.map_map]; rfl
  rw [e0]
  obtain ⟨A, hA⟩ : ∃ Z, Z = (List.range a).map fun k => tN (armOf n cells k) := ⟨_, rfl⟩
  have c1 : c1_border_places [.dat Ch, .un] = some ((List.range a).map (fun k => tN (spo (ca cells 0) 0 (armOf n cells k))), [.dat Ch, .un]) := by
    refine sComp_all (List.range a) (fun k => tN (armOf n cells k)) _ (by rw [← hA] at er ⊢; simp [bodyP, bodyI, startE, startI, sSeq, sRet, sAsg, sExp, sIfS, sNx, sV, sB, sC, PD.s2, toT, sTr, truth, bne_dec, sChain, sAnd, sOr, sNot, sIf, tAnd', tOr', tNot', sNil, sCons, sCall, allD, sN, allR, PD.res, sTup, sLst, sFr, gN, gT, gsNil, gsCons, sIsi, tyName, isSub, sOrE, sM1, sM1T, ST.fAdd_int, fSub, fLe, fLt, fGt, fGe, eq_int, ne_int, cont?, setCont, List.replicate, fLen, sOwn, sApp, sSq, er]) rfl (by simp; omega) rfl fun k hk => ⟨_, rfl, rfl, ?_⟩
    have hk := List.mem_range.mp hk
    have lm := places_on (h := ca cells 0) (r := armOf n cells k) (by rw [armOf_len V hk]; omega)
    obtain ⟨W, hW⟩ : ∃ Z, Z = tN (armOf n cells k) := ⟨_, rfl⟩
    obtain ⟨U, hU⟩ : ∃ Z, Z = tN (spo (ca cells 0) 0 (armOf n cells k)) := ⟨_, rfl⟩
    rw [← hW, ← hU] at lm
    rw [← hW, ← hU]
    simp [bodyP, bodyI, startE, startI, sSeq, sRet, sAsg, sExp, sIfS, sNx, sV, sB, sC, PD.s2, toT, sTr, truth, bne_dec, sChain, sAnd, sOr, sNot, sIf, tAnd', tOr', tNot', sNil, sCons, sCall, allD, sN, allR, PD.res, sTup, sLst, sFr, gN, gT, gsNil, gsCons, sIsi, tyName, isSub, sOrE, sM1, sM1T, ST.fAdd_int, fSub, fLe, fLt, fGt, fGe, eq_int, ne_int, cont?, setCont, List.replicate, fLen, sOwn, sApp, wipeE, hix, h0, lm]
  obtain ⟨Z, hZ⟩ : ∃ Z, Z = (List.range a).map (fun k => tN (spo (ca cells 0) 0 (armOf n cells k))) := ⟨_, rfl⟩
  rw [← hZ] at c1 ⊢
  unfold p_border_places g_border_places
  simp [bodyP, bodyI, startE, startI, sSeq, sRet, sAsg, sExp, sIfS, sNx, sV, sB, sC, PD.s2, toT, sTr, truth, bne_dec, sChain, sAnd, sOr, sNot, sIf, tAnd', tOr', tNot', sNil, sCons, sCall, allD, sN, allR, PD.res, sTup, sLst, sFr, gN, gT, gsNil, gsCons, sIsi, tyName, isSub, sOrE, sM1, sM1T, ST.fAdd_int, fSub, fLe, fLt, fGt, fGe, eq_int, ne_int, cont?, setCont, List.replicate, fLen, sOwn, sApp, hk, c1, fTupOf]
end
end ST
namespace ST
open PySem PD PySem.W
section
variable {a n m h : Nat} {os ps : List (List Nat)}
theorem gR_rows (O : Ord a n os ps) {k : Nat} (hk : k < a) : gR (rowsN n h os ps) k = placedN n h (gR os k) (gR ps k) := by
  have k1 : k < os.length := by rw [O.lo]; exact hk
  have k2 : k < ps.length := by rw [O.lp]; exact hk
  unfold rowsN gR
  rw [List.getD_eq_getElem?_getD, List.getElem?_map, List.getElem?_eq_getElem (by rw [List.length_zip]; omega), List.getElem_zip, List.getD_eq_getElem?_getD, List.getD_eq_getElem?_getD, List.getElem?_eq_getElem k1, List.getElem?_eq_getElem k2]
  rfl
theorem ext_gR {xs ys : List (List Nat)} (hl : xs.length = ys.length) (h : ∀ k, k < xs.length → gR xs k = gR ys k) : xs = ys := by
  refine List.ext_getElem hl fun i h1 h2 => ?_
  have := h i h1
  unfold gR at this
  rw [List.getD_eq_getElem?_getD, List.getD_eq_getElem?_getD, List.getElem?_eq_getElem h1, List.getElem?_eq_getElem h2] at this
  exact this
end
end ST
namespace ST
open PySem PD PySem.W
section
variable {a n m : Nat} {cells : List Nat}
theorem fSum_nat (xs : List Nat) : fSum [.list (xs.map iN)] = some (iN xs.sum) := by
  show (intsOf (xs.map iN)).map (fun ns => PyData.int ns.sum) = _
  rw [intsOf_nat]
  show some (PyData.int ((xs.map fun (n : Nat) => (n : Int)).sum)) = _
  have : (xs.map fun (n : Nat) => (n : Int)).sum = (xs.sum : Nat) := by
    induction xs with
    | nil => rfl
    | cons x r ih => rw [List.map_cons, List.sum_cons, ih, List.sum_cons]; simp
  rw [this]
end
end ST
namespace ST
open PySem PD PySem.W
/-- the neighbors of a land, in number -/
def nbs (L : List (Nat × Nat)) (l : Nat) : List Nat := lowr L l ++ uppr L l
theorem sum_zero (m : Nat) : ((List.range m).map fun _ => 0).sum = 0 := by
  induction m with
  | zero => rfl
  | succ m ih => rw [List.range_succ, List.map_append, List.sum_append, ih]; rfl
/-- what hangs together by pairs, step by step -/
inductive Rch (L : List (Nat × Nat)) (h : Nat) : Nat → Nat → Prop
  | zero : Rch L h 0 h
  | stay {i v : Nat} : Rch L h i v → Rch L h (i + 1) v
  | step {i u v : Nat} : Rch L h i u → v ∈ nbs L u → Rch L h (i + 1) v
theorem Rch.mono {L : List (Nat × Nat)} {h v i j : Nat} (r : Rch L h i v) (hj : i ≤ j) : Rch L h j v := by
  induction j with
  | zero =>
    have : i = 0 := by omega
    subst this
    exact r
  | succ j ih =>
    by_cases e : i = j + 1
    · subst e
      exact r
    · exact .stay (ih (by omega))
end ST
namespace ST
open PySem PD PySem.W
/-- a tree that may come: unlike lands of the map -/
structure Tr (m : Nat) (T : List Nat) : Prop where
  nd : T.Nodup
  lt : ∀ v ∈ T, v < m
theorem Tr.len {m : Nat} {T : List Nat} (t : Tr m T) : T.length ≤ m := by
  have := nodup_leN t.nd (b := List.range m) fun v hv => List.mem_range.mpr (t.lt v hv)
  rw [List.length_range] at this
  exact this
/-! ### the loops -/
end ST
namespace ST
open PySem PD PySem.W
theorem len_tN (xs : List Nat) : fLen [tN xs] = some (iN xs.length) := by
  show some (PyData.int ((xs.map iN).length : Nat)) = _
  rw [List.length_map]
def endsN (L : List (Nat × Nat)) (m : Nat) : List Nat := (List.range m).filter fun v => decide ((nbs L v).length = 1)
section
variable {a n m : Nat} {cells : List Nat} {L : List (Nat × Nat)}
theorem nbr_of (V : Valid a n m cells) (q : p_land_pairs [ch a cells] = some (.tuple (L.map tkD))) (len : L.length ≤ 1000) {l : Nat} (hl : l < m) : p_neighbors [ch a cells, iN l] = some (tN (nbs L l)) := neighbors V hl q len
theorem ends (V : Valid a n m cells) (q : p_land_pairs [ch a cells] = some (.tuple (L.map tkD))) (len : L.length ≤ 1000) : p_ends [ch a cells] = some (tN (endsN L m)) := by
  have hlen := V.len_lt
  have hm := V.hm
  have hn := V.hn
  have ne : cells ≠ [] := fun z => by rw [z] at hlen; simp at hlen
  have hk := V.check
  have nb := fun l hl => nbr_of V q len (l := l) hl
  obtain ⟨Ch, hCh⟩ : ∃ Z, Z = ch a cells := ⟨_, rfl⟩
  have hix : fIx Ch (.int 1) = some (tN cells) := by rw [hCh]; rfl
  have hmx : fMax [tN cells] = some (iN (m - 1)) := by rw [fMax_tN ne, V.maxN]
  have hm1 : ((m - 1 : Nat) : Int) + 1 = (m : Nat) := by omega
  rw [← hCh] at hk nb ⊢
  obtain ⟨C, hC⟩ : ∃ Z, Z = tN cells := ⟨_, rfl⟩
  rw [← hC] at hix hmx
  have c1 : c1_ends [.dat Ch, .un] = some (((List.range m).filter fun v => decide ((nbs L v).length = 1)).map iN, [.dat Ch, .un]) := by
    refine sComp_on (List.range m) iN iN _ (sRg1_small (n := m) (by simp [bodyP, bodyI, startE, startI, sSeq, sRet, sAsg, sExp, sIfS, sNx, sV, sB, sC, PD.s2, toT, sTr, truth, bne_dec, sChain, sAnd, sOr, sNot, sIf, tAnd', tOr', tNot', sNil, sCons, sCall, allD, sN, allR, PD.res, sTup, sLst, sFr, gN, gT, gsNil, gsCons, sIsi, tyName, isSub, sOrE, sM1, sM1T, ST.fAdd_int, fSub, fLe, fLt, fGt, fGe, eq_int, ne_int, cont?, setCont, List.replicate, fLen, sOwn, sApp, hix, hmx, hm1]) (by omega)) rfl (by simp; omega) rfl fun v hv => ⟨_, rfl, rfl, ?_, fun _ => rfl⟩
    have e := nb v (List.mem_range.mp hv)
    change p_neighbors [Ch, iN v] = some (.tuple ((nbs L v).map iN)) at e
    obtain ⟨X, hX⟩ : ∃ z, z = (nbs L v).map iN := ⟨_, rfl⟩
    have hXl : X.length = (nbs L v).length := by rw [hX, List.length_map]
    obtain ⟨B, hB⟩ : ∃ z, z = decide ((nbs L v).length = 1) := ⟨_, rfl⟩
    have hBi : decide (((nbs L v).length : Int) = 1) = B := by rw [hB]; exact decide_eq_decide.mpr (by omega)
    rw [← hX] at e
    rw [← hB]
    have hB' := hB.symm
    simp [bodyP, bodyI, startE, startI, sSeq, sRet, sAsg, sExp, sIfS, sNx, sV, sB, sC, PD.s2, toT, sTr, truth, bne_dec, sChain, sAnd, sOr, sNot, sIf, tAnd', tOr', tNot', sNil, sCons, sCall, allD, sN, allR, PD.res, sTup, sLst, sFr, gN, gT, gsNil, gsCons, sIsi, tyName, isSub, sOrE, sM1, sM1T, ST.fAdd_int, fSub, fLe, fLt, fGt, fGe, eq_int, ne_int, cont?, setCont, List.replicate, fLen, sOwn, sApp, wipeE, e, hXl, hBi, hB']
  unfold endsN
  show _ = some (PyData.tuple (((List.range m).filter fun v => decide ((nbs L v).length = 1)).map iN))
  obtain ⟨Z, hZ⟩ : ∃ z, z = ((List.range m).filter fun v => decide ((nbs L v).length = 1)).map iN := ⟨_, rfl⟩
  rw [← hZ] at c1 ⊢
  unfold p_ends g_ends
  simp [bodyP, bodyI, startE, startI, sSeq, sRet, sAsg, sExp, sIfS, sNx, sV, sB, sC, PD.s2, toT, sTr, truth, bne_dec, sChain, sAnd, sOr, sNot, sIf, tAnd', tOr', tNot', sNil, sCons, sCall, allD, sN, allR, PD.res, sTup, sLst, sFr, gN, gT, gsNil, gsCons, sIsi, tyName, isSub, sOrE, sM1, sM1T, ST.fAdd_int, fSub, fLe, fLt, fGt, fGe, eq_int, ne_int, cont?, setCont, List.replicate, fLen, sOwn, sApp, hk, c1, fTupOf]
end
end ST
namespace ST
open PySem PD PySem.W
end ST
namespace ST
open PySem PD PySem.W
end ST
namespace ST
open PySem PD PySem.W
section
variable {a n m h : Nat} {cells : List Nat} {os ps : List (List Nat)}
theorem own_rows (V : Valid a n m cells) : rowsN n (ca cells 0) (ords a n cells) (plc a n cells) = rws a n cells := by
  have O := ord_is V
  refine ext_gR (by rw [rowsN_len O]; unfold rws; simp) fun k hk => ?_
  rw [rowsN_len O] at hk
  rw [gR_rows O hk]
  unfold ords plc rws
  rw [gR_range hk, gR_range hk, gR_range hk]
  exact placed_back (armOf_len V hk)
end
end ST
namespace ST
open PySem PD PySem.W
/-! ### the least map -/
end ST
namespace ST
open PySem PD PySem.W
end ST
namespace ST
open PySem PD PySem.W
end ST
namespace ST
open PySem PD PySem.W
/-! ### facts of each island, looked at one by one -/
end ST
namespace ST
open PySem PD PySem.W
section
variable {a n m : Nat} {cells : List Nat}
/-- the law's names -/
def K0 (Sc : PyData) (r : List PyData) (a n m : Nat) (C : PyData) (s6 s7 s8 s9 s10 s11 s12 s13 s14 : Sl) : Ev :=
  [.dat Sc, .own r, .dat (iN a), .dat (iN n), .dat (iN m), .dat C, s6, s7, s8, s9, s10, s11, s12, s13, s14, .un, .un, .un, .un]
end
end ST
namespace ST
open PySem PD PySem.W
end ST
namespace ST
open PySem PD PySem.W
end ST
namespace ST
open PySem PD
/-! ### choices -/
def fpN (n k : Nat) : Nat := (List.range k).foldl (fun p i => p * (n - i)) 1
def cc (a b : Nat) : Nat := if b ≤ a then fpN a (min b (a - b)) / fpN (min b (a - b)) (min b (a - b)) else 0
def fac (n : Nat) : Nat := Builtin.Math.factorialNat n
theorem fac_succ (n : Nat) : fac (n + 1) = fac n * (n + 1) := PySem.W.mc_fac_succ n
def perm (a b : Nat) : Nat := if b ≤ a then fpN a b else 0
theorem perm_fac {a : Nat} : ∀ {b : Nat}, b ≤ a → fpN a b * fac (a - b) = fac a
  | 0, _ => by show 1 * fac (a - 0) = _; rw [Nat.one_mul, Nat.sub_zero]
  | b + 1, h => by
    have ih := perm_fac (a := a) (b := b) (by omega)
    have e : fpN a (b + 1) = fpN a b * (a - b) := by
      unfold fpN
      rw [List.range_succ, List.foldl_append]
      rfl
    rw [e, ← ih, show a - b = (a - (b + 1)) + 1 by omega, fac_succ, Nat.mul_assoc, Nat.mul_comm ((a - (b + 1)) + 1)]
end ST
namespace ST
open PySem PD
/-- 1, 2, .. -/
def ups (k : Nat) : List Nat := (List.range k).map (· + 1)
def oc (a m : Nat) : Nat := ((ups (a - 2)).map fun u => cc a u * cc (m - 2) (u - 1)).sum
/-! ### borders on arms with none bare -/
def tm (a n k j : Nat) : Nat := cc a j * cc ((a - j) * n) k
def evs (a n k : Nat) (i : Nat) : Nat := (List.range i).foldl (fun s j => if j % 2 = 0 then s + tm a n k j else s) 0
def ods (a n k : Nat) (i : Nat) : Nat := (List.range i).foldl (fun s j => if j % 2 = 0 then s else s + tm a n k j) 0
end ST
namespace ST
open PySem PD
def pp (a n k : Nat) : Nat := evs a n k (a + 1) + a * evs (a - 1) n k a
def qq (a n k : Nat) : Nat := ods a n k (a + 1) + a * ods (a - 1) n k a
/-- the maps with at most one bare arm, by their borders -/
def wm (a n k : Nat) : Nat := pp a n k - qq a n k
structure Isl (a n m : Nat) : Prop where
  ha : 3 ≤ a ∧ a ≤ 12
  hn : 1 ≤ n ∧ n ≤ 30
  hm : 2 ≤ m ∧ m ≤ n + 1
  le : qq a n (m - 1) ≤ pp a n (m - 1)
  lt : wm a n (m - 1) < cc (a * n) (m - 1)
  big : cc (a * n) (m - 1) < 2 ^ 400
  few : m < a → wm a n (m - 1) = 0
section
variable {a n m : Nat}
def szN (a n m : Nat) : Nat := if m < a then 0 else wm a n (m - 1) * fac (m - a)
def whN (a n m : Nat) : Nat := cc (a * n) (m - 1) * fac m
def coN (a n m : Nat) : Nat := (cc (a * n) (m - 1) - wm a n (m - 1)) * fac m
/-! ### ratios -/
end
end ST
namespace ST
open PySem PD
/-- one arm more that is not bare: the ways, by numbers of borders -/
def more (n : Nat) (ws : List Nat) (j : Nat) : Nat := ((ups j).map fun e => cc n e * cc n e * ws.getD (j - e) 0).sum
/-- the pairs of ways with so many arms -/
def wy (n m : Nat) : Nat → List Nat
  | 0 => 1 :: List.replicate (m - 1) 0
  | u + 1 => (List.range m).map (more n (wy n m u))
def fs (a n m i : Nat) : Nat := ((ups i).map fun u => cc a u * (wy n m u).getD (m - 1) 0).sum
end ST
namespace ST
open PySem PD
/-! ### ratios, as numbers -/
def num (t b : Nat) : Nat := t / Nat.gcd t b
def den (t b : Nat) : Nat := b / Nat.gcd t b
/-! ### all islands, one by one -/
/-- the same numbers, their arguments made plain first -/
def c2 (a b : Nat) : Nat := match b with | 0 => cc a 0 | j + 1 => cc a (j + 1)
def ccF (a b : Nat) : Nat := match a with | 0 => c2 0 b | i + 1 => c2 (i + 1) b
def tmF (a n k j : Nat) : Nat := ccF a j * ccF ((a - j) * n) k
def evF (a n k i : Nat) : Nat := (List.range i).foldl (fun s j => if j % 2 = 0 then s + tmF a n k j else s) 0
def odF (a n k i : Nat) : Nat := (List.range i).foldl (fun s j => if j % 2 = 0 then s else s + tmF a n k j) 0
def ppF (a n k : Nat) : Nat := evF a n k (a + 1) + a * evF (a - 1) n k a
def qqF (a n k : Nat) : Nat := odF a n k (a + 1) + a * odF (a - 1) n k a
end ST
namespace ST
open PySem PD
end ST
namespace ST
open PySem PD
section
variable {a n m : Nat}
theorem few_perm (h : m < a) : perm m a = 0 := by
  unfold perm
  rw [if_neg (by omega)]
/-- the maps that are not frozen, by classes -/
theorem rest (I : Isl a n m) : whN a n m - coN a n m = perm m a * szN a n m := by
  unfold whN coN szN
  rw [← Nat.sub_mul]
  have e : cc (a * n) (m - 1) - (cc (a * n) (m - 1) - wm a n (m - 1)) = wm a n (m - 1) := by have := I.lt; omega
  rw [e]
  by_cases h : m < a
  · rw [I.few h, few_perm h, Nat.zero_mul, Nat.zero_mul]
  · rw [if_neg h]
    unfold perm
    rw [if_pos (by omega), ← perm_fac (a := m) (b := a) (by omega), Nat.mul_left_comm]
/-! ### what the law asks -/
end
end ST
namespace ST
open PySem PD
end ST
namespace ST
open PySem PD
end ST
namespace ST
open PySem PD
end ST
namespace ST
open PySem PD
end ST
namespace ST
open PySem PD
/-- numbers made plain ahead of their use -/
def fz {β : Type} (x : Nat) (f : Nat → β) : β := match x with
  | 0 => f 0
  | k + 1 => f (k + 1)
def mapF {β : Type} (f : Nat → Nat) : List Nat → (List Nat → β) → β
  | [], k => k []
  | j :: js, k => fz (f j) fun y => mapF f js fun r => k (y :: r)
def moreF (n : Nat) (ws : List Nat) (j : Nat) : Nat := ((ups j).map fun e => ccF n e * ccF n e * ws.getD (j - e) 0).sum
/-- the first lists, one behind the other -/
def wysF {β : Type} (n : Nat) (js : List Nat) : Nat → List Nat → List (List Nat) → (List (List Nat) → β) → β
  | 0, _, acc, k => k acc
  | u + 1, ws, acc, k => mapF (moreF n ws) js fun r => wysF n js u r (acc ++ [r]) k
def fsF (a m i : Nat) (L : List (List Nat)) : Nat := ((ups i).map fun u => ccF a u * (L.getD (u - 1) []).getD (m - 1) 0).sum
/-- pairs, maps, classes: W the maps, w the warm ones without their names -/
def prF (a n m f : Nat) : Bool :=
  fz (ppF a n (m - 1) - qqF a n (m - 1)) fun w => fz (ccF (a * n) (m - 1) * fac m) fun W => fz (if m < a then 0 else w * fac (m - a)) fun s => fz (perm m a) fun P => fz (P * s * s + f * fac m) fun pr => fz (P + oc a m * fac m) fun K =>
    Nat.ble pr (W * W) && Nat.ble (W * W) (pr * K) && (Nat.blt m a || Nat.blt 0 w) && (!Nat.beq m a || Nat.beq s (a * n ^ (a - 1)))
def nF (n : Nat) : Bool := wysF n (List.range (n + 1)) 10 (1 :: List.replicate n 0) [] fun L => (List.range n).all fun m => (List.range 10).all fun a => prF (a + 3) n (m + 2) (fsF (a + 3) (m + 2) (a + 1) L)
end ST
namespace ST
open PySem PD
/-! small numbers of arms and lands -/
end ST
namespace ST
open PySem PD
end ST
namespace ST
open PySem PD
end ST
namespace ST
open PySem PD
section
variable {a n m : Nat} {cells : List Nat}
/-- one try: the cells and the takings that were made -/
def try1 (a n : Nat) (s : List Nat × List (Nat × Nat)) (t : Nat × Nat) : List Nat × List (Nat × Nat) := if canMk (nbr a n t.2) s.1 t.1 t.2 then (step s.1 t, s.2 ++ [t]) else s
def tryN (a n : Nat) (cells : List Nat) (ts : List (Nat × Nat)) : List Nat × List (Nat × Nat) := ts.foldl (try1 a n) (cells, [])
/-- tries that may come -/
def TsOk (m N : Nat) (ts : List (Nat × Nat)) : Prop := ∀ t ∈ ts, t.1 < m ∧ t.2 < N
/-- what holds of the cells and the takings made -/
structure Tried (a n m : Nat) (c0 : List Nat) (s : List Nat × List (Nat × Nat)) : Prop where
  ok : RowOk a n m c0 s.2
  at_ : cur c0 s.2 s.2.length = s.1
theorem Tried.valid (V : Valid a n m cells) {s : List Nat × List (Nat × Nat)} (h : Tried a n m cells s) : Valid a n m s.1 := by
  rw [← h.at_]
  exact h.ok.valid V _ (Nat.le_refl _)
theorem Tried.try1 (V : Valid a n m cells) {s : List Nat × List (Nat × Nat)} (h : Tried a n m cells s) {t : Nat × Nat} (h1 : t.1 < m) (h2 : t.2 < cells.length) : Tried a n m cells (try1 a n s t) := by
  unfold ST.try1
  split
  · rename_i hc
    exact ⟨h.ok.app ⟨h1, h2, by rw [h.at_]; exact hc⟩, by rw [cur_last, h.at_]⟩
  · exact h
theorem Tried.all (V : Valid a n m cells) : ∀ {ts : List (Nat × Nat)} {s : List Nat × List (Nat × Nat)}, Tried a n m cells s → TsOk m cells.length ts → Tried a n m cells (ts.foldl (ST.try1 a n) s)
  | [], _, h, _ => h
  | t :: ts, s, h, ok => Tried.all (ts := ts) V (h.try1 V (ok t (List.mem_cons_self ..)).1 (ok t (List.mem_cons_self ..)).2) fun u hu => ok u (List.mem_cons_of_mem _ hu)
end
end ST
namespace ST
open PySem PD
end ST
namespace ST
open PySem PD
/-! ### keys -/
theorem keysD_nat (xs : List Nat) : keysD (xs.map iN) = some (xs.map fun (x : Nat) => NestedKey.num (x : Int)) := by
  induction xs with
  | nil => rfl
  | cons x xs ih =>
    rw [List.map_cons, List.map_cons]
    unfold keysD
    have : keyD (iN x) = some (.num (x : Int)) := rfl
    rw [this, ih]
    rfl
def kyN (xs : List Nat) : NestedKey := .tup (xs.map fun (x : Nat) => NestedKey.num (x : Int))
theorem keyD_tN (xs : List Nat) : keyD (tN xs) = some (kyN xs) := by
  show (keysD (xs.map iN)).map NestedKey.tup = _
  rw [keysD_nat]
  rfl
theorem kyN_inj {xs ys : List Nat} (h : kyN xs = kyN ys) : xs = ys := by
  unfold kyN at h
  injection h with h
  induction xs generalizing ys with
  | nil =>
    cases ys with
    | nil => rfl
    | cons y ys => cases h
  | cons x xs ih =>
    cases ys with
    | nil => cases h
    | cons y ys =>
      rw [List.map_cons, List.map_cons] at h
      injection h with h1 h2
      injection h1 with h1
      rw [ih h2, Int.ofNat_inj.mp h1]
theorem depth_nums (xs : List Nat) : NestedKey.depthAll (xs.map fun (x : Nat) => NestedKey.num (x : Int)) ≤ 1 := by
  induction xs with
  | nil => simp [NestedKey.depthAll]
  | cons x xs ih =>
    rw [List.map_cons, NestedKey.depthAll, NestedKey.depth]
    omega
theorem dkey_tN (xs : List Nat) : dkey (tN xs) = some (kyN xs) := by
  show (match keysD (xs.map iN) with | some ks => if (NestedKey.tup ks).depth ≤ 8 then some (NestedKey.tup ks) else none | none => none) = _
  rw [keysD_nat]
  have := depth_nums xs
  show (if (NestedKey.tup _).depth ≤ 8 then some _ else none) = _
  rw [if_pos]
  · rfl
  · rw [NestedKey.depth]
    omega
/-! ### a dict of the first of a sequence -/
section
variable {a n m : Nat} {cells : List Nat}
/-- the cells behind so many rounds -/
def itr (a n : Nat) (ts : List (Nat × Nat)) (c : List Nat) : Nat → List Nat
  | 0 => c
  | i + 1 => (tryN a n (itr a n ts c i) ts).1
theorem itr_add (ts : List (Nat × Nat)) (c : List Nat) (i : Nat) : ∀ j, itr a n ts c (i + j) = itr a n ts (itr a n ts c i) j
  | 0 => rfl
  | j + 1 => by
    show (tryN a n (itr a n ts c (i + j)) ts).1 = (tryN a n (itr a n ts (itr a n ts c i) j) ts).1
    rw [itr_add ts c i j]
/-- the first return: all of the first k are unlike, and the k-th is the b-th again -/
structure Ret (f : Nat → List Nat) (b k : Nat) : Prop where
  lt : b < k
  ne : ∀ i j, i < j → j < k → f i ≠ f j
  eq : f k = f b
end
end ST
namespace ST
open PySem PD
/-- digits below 52 -/
def enc : List Nat → Nat
  | [] => 0
  | d :: r => d + 52 * enc r
theorem enc_inj : ∀ {xs ys : List Nat}, xs.length = ys.length → (∀ d ∈ xs, d < 52) → (∀ d ∈ ys, d < 52) → enc xs = enc ys → xs = ys
  | [], [], _, _, _, _ => rfl
  | [], _ :: _, h, _, _, _ => by cases h
  | _ :: _, [], h, _, _, _ => by cases h
  | x :: xs, y :: ys, h, hx, hy, e => by
    have h1 := hx x (List.mem_cons_self ..)
    have h2 := hy y (List.mem_cons_self ..)
    have e' : x + 52 * enc xs = y + 52 * enc ys := e
    have e1 : x = y := by omega
    have e2 : enc xs = enc ys := by omega
    rw [e1, enc_inj (by simpa using h) (fun d hd => hx d (List.mem_cons_of_mem _ hd)) (fun d hd => hy d (List.mem_cons_of_mem _ hd)) e2]
theorem enc_lt : ∀ {xs : List Nat}, (∀ d ∈ xs, d < 52) → enc xs < 52 ^ xs.length
  | [], _ => by show 0 < 1; omega
  | x :: xs, h => by
    have h1 := h x (List.mem_cons_self ..)
    have ih := enc_lt fun d hd => h d (List.mem_cons_of_mem _ hd)
    show x + 52 * enc xs < 52 ^ (xs.length + 1)
    rw [Nat.pow_succ]
    omega
section
variable {a n m : Nat} {cells c0 c1 : List Nat}
def digs (n : Nat) (cells : List Nat) : List Nat := (crs n cells).map fun i => (i + 1) * 4 + ca cells (i + 1)
def codeN (n : Nat) (cells : List Nat) : Nat := ca cells 0 + 4 * enc (digs n cells)
theorem digs_lt (V : Valid a n m cells) (hn : n ≤ 3) : ∀ d ∈ digs n cells, d < 52 := fun d hd => by
  obtain ⟨i, hi, rfl⟩ := List.mem_map.mp hd
  have ha := V.ha
  have hm := V.hm
  have i1 := List.mem_range.mp (List.mem_filter.mp hi).1
  have hl := V.len
  have an : a * n ≤ 4 * 3 := Nat.mul_le_mul ha.2 hn
  have := V.lt _ (ca_mem (show i + 1 < cells.length by omega))
  omega
theorem code_lt (V : Valid a n m cells) (hn : n ≤ 3) : codeN n cells < 562432 := by
  have hm := V.hm
  have h := enc_lt (digs_lt V hn)
  have hl : (digs n cells).length ≤ 3 := by
    unfold digs
    rw [List.length_map]
    have := V.cr
    omega
  have p : 52 ^ (digs n cells).length ≤ 52 ^ 3 := Nat.pow_le_pow_right (by omega) hl
  have := V.lt _ (ca_mem V.len_lt.1)
  unfold codeN
  have e : (52 : Nat) ^ 3 = 140608 := by decide
  omega
theorem code_inj (V0 : Valid a n m c0) (V1 : Valid a n m c1) (hn : n ≤ 3) (e : codeN n c0 = codeN n c1) : c0 = c1 := by
  have hm := V0.hm
  have l0 := V0.lt _ (ca_mem V0.len_lt.1)
  have l1 := V1.lt _ (ca_mem V1.len_lt.1)
  have ll : (digs n c0).length = (digs n c1).length := by
    unfold digs
    rw [List.length_map, List.length_map]
    have := V0.cr
    have := V1.cr
    omega
  have hub : ca c0 0 = ca c1 0 := by
    unfold codeN at e
    omega
  have de : digs n c0 = digs n c1 := by
    refine enc_inj ll (digs_lt V0 hn) (digs_lt V1 hn) ?_
    unfold codeN at e
    omega
  have hlen : c0.length = c1.length := by rw [V0.len, V1.len]
  have dig : ∀ {x y : List Nat}, Valid a n m x → Valid a n m y → digs n x = digs n y → ∀ i ∈ crs n x, i ∈ crs n y ∧ ca x (i + 1) = ca y (i + 1) := fun {x y} Vx Vy de i hi => by
    have : (i + 1) * 4 + ca x (i + 1) ∈ digs n y := by
      rw [← de]
      exact List.mem_map.mpr ⟨i, hi, rfl⟩
    obtain ⟨j, hj, ej⟩ := List.mem_map.mp this
    have i1 := List.mem_range.mp (List.mem_filter.mp hi).1
    have j1 := List.mem_range.mp (List.mem_filter.mp hj).1
    have a1 := Vx.lt _ (ca_mem (show i + 1 < x.length by omega))
    have a2 := Vy.lt _ (ca_mem (show j + 1 < y.length by omega))
    have : i = j := by omega
    subst this
    exact ⟨hj, by omega⟩
  have all : ∀ c, c < c0.length → ca c0 c = ca c1 c := fun c => by
    induction c using Nat.strongRecOn with
    | _ c ih =>
      intro hc
      by_cases h0 : c = 0
      · subst h0
        exact hub
      · have il := inner_lt (n := n) (c := c) (by omega)
        by_cases hr : ca c0 c = ca c0 (inner n c)
        · by_cases hr1 : ca c1 c = ca c1 (inner n c)
          · rw [hr, hr1]
            exact ih _ il (by omega)
          · have hi : c - 1 ∈ crs n c1 := by
              unfold crs
              refine List.mem_filter.mpr ⟨List.mem_range.mpr (by omega), decide_eq_true ?_⟩
              rw [show c - 1 + 1 = c by omega]
              exact hr1
            have := (dig V1 V0 de.symm _ hi).2
            rw [show c - 1 + 1 = c by omega] at this
            exact this.symm
        · have hi : c - 1 ∈ crs n c0 := by
            unfold crs
            refine List.mem_filter.mpr ⟨List.mem_range.mpr (by omega), decide_eq_true ?_⟩
            rw [show c - 1 + 1 = c by omega]
            exact hr
          have := (dig V0 V1 de _ hi).2
          rw [show c - 1 + 1 = c by omega] at this
          exact this
  refine List.ext_getElem hlen fun i h1 h2 => ?_
  have := all i h1
  unfold ca at this
  rw [List.getD_eq_getElem?_getD, List.getD_eq_getElem?_getD, List.getElem?_eq_getElem h1, List.getElem?_eq_getElem h2] at this
  exact this
theorem least {P : Nat → Prop} : ∀ {k : Nat}, P k → ∃ j, j ≤ k ∧ P j ∧ ∀ i, i < j → ¬ P i := fun {k} => by
  induction k using Nat.strongRecOn with
  | _ k ih =>
    intro h
    by_cases z : ∃ i, i < k ∧ P i
    · obtain ⟨i, hi, hp⟩ := z
      obtain ⟨j, h1, h2, h3⟩ := ih i hi hp
      exact ⟨j, by omega, h2, h3⟩
    · exact ⟨k, Nat.le_refl _, h, fun i hi hp => z ⟨i, hi, hp⟩⟩
/-- the tail of the sequence comes again from its first -/
theorem Ret.tail {ts : List (Nat × Nat)} {b k : Nat} (h : Ret (itr a n ts cells) b k) : Ret (itr a n ts (itr a n ts cells b)) 0 (k - b) := by
  have hb := h.lt
  have e : ∀ i, itr a n ts (itr a n ts cells b) i = itr a n ts cells (b + i) := fun i => (itr_add ts cells b i).symm
  refine ⟨by omega, fun i j hij hj z => ?_, ?_⟩
  · rw [e, e] at z
    exact h.ne (b + i) (b + j) (by omega) (by omega) z
  · rw [e, e, show b + (k - b) = k by omega]
    exact h.eq
end
end ST
namespace ST
open PySem PD
theorem island3 {ns : List Int} {r : List PyData} (h : RowI ns r) : ∃ a n m r', p__law_island r [.int 3] = some (.tuple [iN a, iN n, iN m], r') ∧ (3 ≤ a ∧ a ≤ 4) ∧ (1 ≤ n ∧ n ≤ 3) ∧ (2 ≤ m ∧ m ≤ n + 1) ∧ RowI ns r' := by
  obtain ⟨v1, r1, e1, h1, k1⟩ := taken (many := 3) h (by omega) (by omega)
  obtain ⟨v2, r2, e2, h2, k2⟩ := taken (many := 2) k1 (by omega) (by omega)
  obtain ⟨v3, r3, e3, h3, k3⟩ := taken (many := 1 + v1) k2 (by omega) (by omega)
  refine ⟨3 + v2, 1 + v1, 2 + v3, r3, ?_, by omega, by omega, by omega, k3⟩
  have e1' : p__law_taken r [.int 3] = some (iN v1, r1) := e1
  have e2' : p__law_taken r1 [.int 2] = some (iN v2, r2) := e2
  have i1 : (1 : Int) + (v1 : Int) = ((1 + v1 : Nat) : Int) := by omega
  have i2 : (3 : Int) + (v2 : Int) = ((3 + v2 : Nat) : Int) := by omega
  have i3 : (2 : Int) + (v3 : Int) = ((2 + v3 : Nat) : Int) := by omega
  obtain ⟨A, hA⟩ : ∃ z, z = 1 + v1 := ⟨_, rfl⟩
  obtain ⟨B, hB⟩ : ∃ z, z = 3 + v2 := ⟨_, rfl⟩
  obtain ⟨D, hD⟩ : ∃ z, z = 2 + v3 := ⟨_, rfl⟩
  rw [← hA] at e3 i1 ⊢
  rw [← hB] at i2 ⊢
  rw [← hD] at i3 ⊢
  unfold p__law_island g__law_island
  simp [bodyP, bodyI, startE, startI, sSeq, sRet, sAsg, sExp, sIfS, sNx, sV, sB, sC, PD.s2, toT, sTr, truth, bne_dec, sChain, sAnd, sOr, sNot, sIf, tAnd', tOr', tNot', sNil, sCons, sCall, allD, sN, allR, PD.res, sTup, sLst, sFr, gN, gT, gsNil, gsCons, sIsi, tyName, isSub, sOrE, sM1, sM1T, ST.fAdd_int, fSub, fLe, fLt, fGt, fGe, eq_int, ne_int, cont?, setCont, List.replicate, fLen, sOwn, sApp, sCallI, e1', i1, e2', i2, e3, i3]
section
variable {a n m : Nat} {cells : List Nat}
/-- a taking that can be made -/
def Can (a n m : Nat) (cells : List Nat) (t : Nat × Nat) : Prop := t.1 < m ∧ t.2 < cells.length ∧ canMk (nbr a n t.2) cells t.1 t.2 = true
end
end ST
namespace ST
open PySem PD
section
variable {a n m : Nat} {cells : List Nat}
/-- what can be made stands among the takings -/
theorem ok_rdy {t : Nat × Nat} (h : Can a n m cells t) : t ∈ rdy a n cells cells.length := by
  obtain ⟨h1, h2, h3⟩ := h
  unfold canMk at h3
  simp only [Bool.and_eq_true, decide_eq_true_eq] at h3
  obtain ⟨k1, k2, k3⟩ := h3
  refine List.mem_flatMap.mpr ⟨t.2, List.mem_range.mpr h2, ?_⟩
  unfold cellT
  rw [if_pos k3]
  exact List.mem_map.mpr ⟨t.1, List.mem_filter.mpr ⟨k2, by simpa using k1⟩, rfl⟩
theorem TsOk.take {N : Nat} {ts : List (Nat × Nat)} (h : TsOk m N ts) (j : Nat) : TsOk m N (ts.take j) := fun t ht => h t (List.mem_of_mem_take ht)
theorem TsOk.drop {N : Nat} {ts : List (Nat × Nat)} (h : TsOk m N ts) (j : Nat) : TsOk m N (ts.drop j) := fun t ht => h t (List.mem_of_mem_drop ht)
end
end ST
namespace ST
open PySem PD
theorem ne_bl (b : Bool) : fNe (.bool b) (.bool b) = some (.bool false) := by cases b <;> rfl
end ST
namespace ST
open PySem PD
end ST
namespace ST
open PySem PD
section
variable {a n m : Nat} {cells : List Nat}
/-! ### other names -/
/-- names for the lands: unlike ones for unlike ones -/
def Inj (σ : Nat → Nat) : Prop := ∀ i j, σ i = σ j → i = j
variable {σ : Nat → Nat}
/-! ### the maps of one arm -/
end
end ST
namespace ST
open PySem PD
end ST
namespace ST
open PySem PD
section
variable {a n k : Nat} {σ : Nat → Nat}
/-! ### the order -/
def nam (n : Nat) (ord : List Nat) (i : Nat) : Nat := if i < n + 1 then ord.getD i 0 else i + 5
structure Drawn (n : Nat) (ord : List Nat) : Prop where
  hn : 1 ≤ n ∧ n ≤ 4
  len : ord.length = n + 1
  nd : ord.Nodup
  lt : ∀ v ∈ ord, v < n + 1
theorem Drawn.get {ord : List Nat} (D : Drawn n ord) {i : Nat} (hi : i ≤ n) : ord[i]? = some (nam n ord i) := by
  unfold nam
  have : i < ord.length := by rw [D.len]; omega
  rw [if_pos (by omega), List.getD_eq_getElem?_getD, List.getElem?_eq_getElem this]
  rfl
theorem Drawn.le {ord : List Nat} (D : Drawn n ord) {i : Nat} (hi : i ≤ n) : nam n ord i ≤ n := by
  have := D.lt _ (List.mem_of_getElem? (D.get hi))
  omega
theorem Drawn.inj {ord : List Nat} (D : Drawn n ord) : Inj (nam n ord) := fun i j e => by
  have hn := D.hn
  by_cases hi : i ≤ n
  · by_cases hj : j ≤ n
    · have e1 := D.get hi
      have e2 := D.get hj
      rw [← e] at e2
      exact (List.getElem?_inj (by rw [D.len]; omega) D.nd).mp (e1.trans e2.symm)
    · have := D.le hi
      have e3 : nam n ord j = j + 5 := by unfold nam; rw [if_neg (by omega)]
      omega
  · have e3 : nam n ord i = i + 5 := by unfold nam; rw [if_neg (by omega)]
    by_cases hj : j ≤ n
    · have := D.le hj
      omega
    · have e4 : nam n ord j = j + 5 := by unfold nam; rw [if_neg (by omega)]
      omega
theorem Drawn.cov {ord : List Nat} (D : Drawn n ord) {v : Nat} (hv : v ≤ n) : ∃ i, i ≤ n ∧ nam n ord i = v := by
  have hm : v ∈ ord := Classical.byContradiction fun no => by
    have := nodup_leN (a := v :: ord) (b := List.range (n + 1)) (List.nodup_cons.mpr ⟨no, D.nd⟩) fun x hx => by
      rcases List.mem_cons.mp hx with rfl | hx
      · exact List.mem_range.mpr (by omega)
      · exact List.mem_range.mpr (D.lt x hx)
    rw [List.length_cons, D.len, List.length_range] at this
    omega
  obtain ⟨i, hi, e⟩ := List.getElem_of_mem hm
  rw [D.len] at hi
  have g := D.get (i := i) (by omega)
  rw [List.getElem?_eq_getElem (by rw [D.len]; exact hi), e] at g
  exact ⟨i, by omega, (Option.some.inj g).symm⟩
theorem Drawn.drop {ord : List Nat} (D : Drawn n ord) : ord.drop 1 = (List.range n).map fun i => nam n ord (i + 1) := by
  refine List.ext_getElem? fun i => ?_
  rw [List.getElem?_drop, List.getElem?_map]
  by_cases hi : i < n
  · rw [List.getElem?_range hi, Nat.add_comm 1 i, D.get (by omega)]
    rfl
  · rw [List.getElem?_eq_none (by rw [D.len]; omega), List.getElem?_eq_none (by rw [List.length_range]; omega)]
    rfl
end
end ST
namespace ST
open PySem PD
end ST
namespace ST
open PySem PD
end ST
/-! a row of statements, one after another -/
namespace ST
open PySem PD
theorem seq_nx {s t : SS} {ρ ρ' : Ev} {R : Option (Fl × Ev)} (h : s ρ = some (.nx, ρ')) (k : t ρ' = R) : sSeq s t ρ = R := by
  unfold sSeq
  rw [h]
  exact k
theorem seq_rt {s t : SS} {ρ ρ' : Ev} {d : PyData} (h : s ρ = some (.rt d, ρ')) : sSeq s t ρ = some (.rt d, ρ') := by
  unfold sSeq
  rw [h]
/-- the statements end with this value -/
def Rt (s : SS) (ρ : Ev) (d : PyData) : Prop := ∃ ρ', s ρ = some (.rt d, ρ')
theorem Rt.nx {s t : SS} {ρ ρ' : Ev} {d : PyData} (h : s ρ = some (.nx, ρ')) (k : Rt t ρ' d) : Rt (sSeq s t) ρ d := by
  obtain ⟨ρ2, k⟩ := k
  exact ⟨ρ2, seq_nx h k⟩
theorem Rt.rt {s t : SS} {ρ ρ' : Ev} {d : PyData} (h : s ρ = some (.rt d, ρ')) : Rt (sSeq s t) ρ d := ⟨ρ', seq_rt h⟩
theorem Rt.no {t : STe} {f g : SS} {ρ ρ1 : Ev} {d : PyData} (h : t ρ = some (false, ρ1)) (k : Rt g ρ1 d) : Rt (sIfS t f g) ρ d := by
  obtain ⟨ρ2, k⟩ := k
  exact ⟨ρ2, by unfold sIfS; rw [h]; exact k⟩
theorem body_rt {g : SS} {n : Nat} {ds : List PyData} {d : PyData} (h : Rt g (startE n ds) d) : bodyP g n ds = some d := by
  obtain ⟨ρ', h⟩ := h
  unfold bodyP
  rw [h]
end ST
/-! a walk in layers: what it finds -/
namespace ST
open PySem PD
abbrev Dn := List (List Nat × Nat)
section
variable (N : List Nat → List (Nat × Nat))
/-- so many takings lead there -/
def Rj (c0 : List Nat) : Nat → List Nat → Prop
  | 0, c => c = c0
  | j + 1, c => ∃ b, Rj c0 j b ∧ ∃ t ∈ N b, step b t = c
/-- just so many takings, and no fewer, lead there -/
def Dst (c0 : List Nat) (c : List Nat) (e : Nat) : Prop := Rj N c0 e c ∧ ∀ j, j < e → ¬ Rj N c0 j c
theorem Dst.one {c0 c : List Nat} {e e' : Nat} (h : Dst N c0 c e) (h' : Dst N c0 c e') : e = e' := by
  rcases Nat.lt_trichotomy e e' with z | z | z
  · exact absurd h.1 (h'.2 e z)
  · exact z
  · exact absurd h'.1 (h.2 e' z)
theorem Dst.of {c0 c : List Nat} {j : Nat} (h : Rj N c0 j c) : ∃ e, e ≤ j ∧ Dst N c0 c e := by
  obtain ⟨e, h1, h2, h3⟩ := least (P := fun j => Rj N c0 j c) h
  exact ⟨e, h1, h2, h3⟩
def addS (d : Nat) (s : Dn × List (List Nat)) (y : List Nat) : Dn × List (List Nat) := if y ∈ s.1.map (·.1) then s else (s.1 ++ [(y, d + 1)], s.2 ++ [y])
def sucs (c : List Nat) : List (List Nat) := (N c).map (step c)
/-- where the walk stands: all maps of distance up to d, the last layer apart -/
structure Lay (c0 : List Nat) (D : Dn) (L : List (List Nat)) (d : Nat) : Prop where
  nd : (D.map (·.1)).Nodup
  mem : ∀ c e, (c, e) ∈ D ↔ e ≤ d ∧ Dst N c0 c e
  up : D.Pairwise fun x y => x.2 ≤ y.2
  lay : ∀ c, c ∈ L ↔ Dst N c0 c d
  ndl : L.Nodup
variable {N}
theorem Lay.start (c0 : List Nat) : Lay N c0 [(c0, 0)] [c0] 0 where
  nd := by simp
  mem := fun c e => by
    constructor
    · intro h
      rw [List.mem_singleton] at h
      injection h with h1 h2
      subst h1; subst h2
      exact ⟨Nat.le_refl _, rfl, fun j hj => by omega⟩
    · rintro ⟨h, h1, _⟩
      obtain rfl : e = 0 := by omega
      rw [show c = c0 from h1]
      exact List.mem_singleton.mpr rfl
  up := List.pairwise_singleton _ _
  lay := fun c => by
    constructor
    · intro h
      rw [List.mem_singleton] at h
      exact ⟨h, fun j hj => by omega⟩
    · rintro ⟨h, _⟩
      rw [show c = c0 from h]
      exact List.mem_singleton.mpr rfl
  ndl := by simp
/-- where the walk through a layer stands: what is new behind these maps -/
structure Add (D0 : Dn) (d : Nat) (ys : List (List Nat)) (s : Dn × List (List Nat)) : Prop where
  eq : s.1 = D0 ++ s.2.map fun y => (y, d + 1)
  nd : s.2.Nodup
  mem : ∀ y, y ∈ s.2 ↔ y ∈ ys ∧ y ∉ D0.map (·.1)
theorem Add.start (D0 : Dn) (d : Nat) : Add D0 d [] (D0, []) := ⟨by simp, List.nodup_nil, fun y => by simp⟩
theorem Add.keys {D0 : Dn} {d : Nat} {ys : List (List Nat)} {s : Dn × List (List Nat)} (A : Add D0 d ys s) (y : List Nat) : y ∈ s.1.map (·.1) ↔ y ∈ D0.map (·.1) ∨ y ∈ s.2 := by
  rw [A.eq, List.map_append, List.mem_append, List.map_map]
  have : (s.2.map ((fun x : List Nat × Nat => x.1) ∘ fun y => (y, d + 1))) = s.2 := by
    conv => rhs; rw [← List.map_id s.2]
    rfl
  rw [this]
theorem Add.next {D0 : Dn} {d : Nat} {ys : List (List Nat)} {s : Dn × List (List Nat)} (A : Add D0 d ys s) (y : List Nat) : Add D0 d (ys ++ [y]) (addS d s y) := by
  unfold addS
  by_cases h : y ∈ s.1.map (·.1)
  · rw [if_pos h]
    refine ⟨A.eq, A.nd, fun z => ?_⟩
    rw [A.mem z]
    constructor
    · rintro ⟨h1, h2⟩
      exact ⟨List.mem_append_left _ h1, h2⟩
    · rintro ⟨h1, h2⟩
      rcases List.mem_append.mp h1 with h1 | h1
      · exact ⟨h1, h2⟩
      · rw [List.mem_singleton] at h1
        subst h1
        rcases (A.keys z).mp h with k | k
        · exact absurd k h2
        · exact (A.mem z).mp k
  · rw [if_neg h]
    have h1 : y ∉ D0.map (·.1) := fun z => h ((A.keys y).mpr (.inl z))
    have h2 : y ∉ s.2 := fun z => h ((A.keys y).mpr (.inr z))
    refine ⟨?_, ?_, fun z => ?_⟩
    · show s.1 ++ [(y, d + 1)] = D0 ++ (s.2 ++ [y]).map _
      rw [A.eq, List.map_append, List.append_assoc]
      rfl
    · show (s.2 ++ [y]).Nodup
      rw [List.nodup_append]
      refine ⟨A.nd, by simp, fun x hx z hz => ?_⟩
      rw [List.mem_singleton] at hz
      subst hz
      rintro rfl
      exact h2 hx
    · show z ∈ s.2 ++ [y] ↔ _
      rw [List.mem_append, List.mem_append, A.mem z, List.mem_singleton]
      constructor
      · rintro (⟨k1, k2⟩ | k)
        · exact ⟨.inl k1, k2⟩
        · subst k
          exact ⟨.inr rfl, h1⟩
      · rintro ⟨k1 | k1, k2⟩
        · exact .inl ⟨k1, k2⟩
        · exact .inr k1
theorem Add.all {D0 : Dn} {d : Nat} : ∀ (zs : List (List Nat)) {ys : List (List Nat)} {s : Dn × List (List Nat)}, Add D0 d ys s → Add D0 d (ys ++ zs) (zs.foldl (addS d) s)
  | [], ys, s, A => by simpa using A
  | z :: zs, ys, s, A => by
    have := Add.all zs (A.next z)
    rw [List.append_assoc] at this
    exact this
/-- the next layer -/
theorem Lay.next {c0 : List Nat} {D : Dn} {L : List (List Nat)} {d : Nat} (W : Lay N c0 D L d) {s : Dn × List (List Nat)} (A : Add D d (L.flatMap (sucs N)) s) : Lay N c0 s.1 s.2 (d + 1) := by
  have key : ∀ c, c ∈ D.map (·.1) ↔ ∃ e, e ≤ d ∧ Dst N c0 c e := fun c => by
    constructor
    · intro h
      obtain ⟨⟨c', e⟩, h1, rfl⟩ := List.mem_map.mp h
      exact ⟨e, (W.mem _ _).mp h1⟩
    · rintro ⟨e, h⟩
      exact List.mem_map.mpr ⟨(c, e), (W.mem c e).mpr h, rfl⟩
  have new : ∀ y, y ∈ s.2 ↔ Dst N c0 y (d + 1) := fun y => by
    rw [A.mem y, key y]
    constructor
    · rintro ⟨h1, h2⟩
      obtain ⟨b, hb, h1⟩ := List.mem_flatMap.mp h1
      obtain ⟨t, ht, rfl⟩ := List.mem_map.mp h1
      have hb := (W.lay b).mp hb
      refine ⟨⟨b, hb.1, t, ht, rfl⟩, fun j hj hr => ?_⟩
      obtain ⟨e, he, h3⟩ := Dst.of N hr
      exact h2 ⟨e, by omega, h3⟩
    · rintro ⟨⟨b, hb, t, ht, rfl⟩, h2⟩
      refine ⟨List.mem_flatMap.mpr ⟨b, (W.lay b).mpr ⟨hb, fun j hj hr => ?_⟩, List.mem_map.mpr ⟨t, ht, rfl⟩⟩, ?_⟩
      · exact h2 (j + 1) (by omega) ⟨b, hr, t, ht, rfl⟩
      · rintro ⟨e, he, h3⟩
        exact h2 e (by omega) h3.1
  refine ⟨?_, fun c e => ?_, ?_, new, A.nd⟩
  · rw [A.eq, List.map_append, List.map_map]
    have e : (s.2.map ((fun x : List Nat × Nat => x.1) ∘ fun y => (y, d + 1))) = s.2 := by
      conv => rhs; rw [← List.map_id s.2]
      rfl
    rw [e, List.nodup_append]
    refine ⟨W.nd, A.nd, fun x hx z hz => ?_⟩
    rintro rfl
    exact ((A.mem x).mp hz).2 hx
  · rw [A.eq, List.mem_append, W.mem c e, List.mem_map]
    constructor
    · rintro (⟨h1, h2⟩ | ⟨y, hy, h⟩)
      · exact ⟨by omega, h2⟩
      · injection h with h1 h2
        subst h1; subst h2
        exact ⟨Nat.le_refl _, (new y).mp hy⟩
    · rintro ⟨h1, h2⟩
      by_cases z : e ≤ d
      · exact .inl ⟨z, h2⟩
      · obtain rfl : e = d + 1 := by omega
        exact .inr ⟨c, (new c).mpr h2, rfl⟩
  · rw [A.eq, List.pairwise_append]
    refine ⟨W.up, ?_, fun x hx y hy => ?_⟩
    · rw [List.pairwise_map]
      exact List.pairwise_of_forall fun _ _ => Nat.le_refl _
    · obtain ⟨z, _, rfl⟩ := List.mem_map.mp hy
      have := ((W.mem x.1 x.2).mp hx).1
      show x.2 ≤ d + 1
      omega
/-- the end: all maps, each with its distance -/
structure Far (N : List Nat → List (Nat × Nat)) (c0 : List Nat) (D : Dn) : Prop where
  nd : (D.map (·.1)).Nodup
  mem : ∀ c e, (c, e) ∈ D ↔ Dst N c0 c e
  up : D.Pairwise fun x y => x.2 ≤ y.2
theorem Lay.end_ {c0 : List Nat} {D : Dn} {d : Nat} (W : Lay N c0 D [] d) : Far N c0 D := by
  have none_ : ∀ k c, ¬ Dst N c0 c (d + k) := fun k => by
    induction k with
    | zero => exact fun c h => by have := (W.lay c).mpr h; cases this
    | succ k ih =>
      rintro c ⟨⟨b, hb, t, ht, rfl⟩, h2⟩
      exact ih b ⟨hb, fun j hj hr => h2 (j + 1) (by omega) ⟨b, hr, t, ht, rfl⟩⟩
  refine ⟨W.nd, fun c e => ?_, W.up⟩
  rw [W.mem c e]
  constructor
  · exact fun h => h.2
  · intro h
    refine ⟨?_, h⟩
    apply Classical.byContradiction
    intro z
    have := none_ (e - d) c
    rw [show d + (e - d) = e by omega] at this
    exact this h
end
end ST
/-! the walk in layers: the program's -/
namespace ST
open PySem PD
/-! ### the dict -/
abbrev eD (x : List Nat × Nat) : PyData × PyData := (tN x.1, iN x.2)
def dD (D : Dn) : List (PyData × PyData) := D.map eD
def lkD (D : Dn) (c : List Nat) : Option Nat := (D.find? fun x => decide (x.1 = c)).map (·.2)
theorem look_D (c : List Nat) : ∀ D : Dn, dLook (dD D) (kyN c) = (lkD D c).map iN
  | [] => rfl
  | x :: D => by
    have ih := look_D c D
    unfold dLook dD lkD at ih ⊢
    rw [List.map_cons, List.find?_cons, List.find?_cons]
    have ek : decide (keyD (eD x).1 = some (kyN c)) = decide (x.1 = c) := by
      apply decide_eq_decide.mpr
      show keyD (tN x.1) = _ ↔ _
      rw [keyD_tN]
      constructor
      · intro h
        injection h with h
        exact kyN_inj h
      · intro h
        rw [h]
    rw [ek]
    cases decide (x.1 = c) with
    | true => rfl
    | false => exact ih
theorem lk_none {D : Dn} {c : List Nat} : lkD D c = none ↔ c ∉ D.map (·.1) := by
  unfold lkD
  rw [Option.map_eq_none_iff, List.find?_eq_none]
  constructor
  · intro h z
    obtain ⟨x, hx, rfl⟩ := List.mem_map.mp z
    exact h x hx (by simp)
  · intro h x hx z
    exact h (List.mem_map.mpr ⟨x, hx, by simpa using z⟩)
theorem lk_some {D : Dn} (nd : (D.map (·.1)).Nodup) {c : List Nat} {e : Nat} : lkD D c = some e ↔ (c, e) ∈ D := by
  induction D with
  | nil => simp [lkD]
  | cons x D ih =>
    rw [List.map_cons, List.nodup_cons] at nd
    have ih := ih nd.2
    unfold lkD at ih ⊢
    rw [List.find?_cons, List.mem_cons]
    by_cases z : x.1 = c
    · rw [decide_eq_true z]
      constructor
      · intro h
        injection h with h
        exact .inl (by rw [← z, ← h])
      · rintro (h | h)
        · rw [← h]; rfl
        · exact absurd (List.mem_map.mpr ⟨_, h, rfl⟩) (by rw [z] at nd; exact nd.1)
    · rw [decide_eq_false z]
      show (D.find? _).map _ = _ ↔ _
      rw [ih]
      constructor
      · exact .inr
      · rintro (h | h)
        · exact absurd (by rw [← h]) z
        · exact h
theorem put_D {D : Dn} {c : List Nat} {e : Nat} (h : c ∉ D.map (·.1)) : dPut (dD D) (kyN c) (tN c) (iN e) = dD (D ++ [(c, e)]) := by
  have l := look_D c D
  rw [lk_none.mpr h] at l
  unfold dPut
  rw [l]
  show dD D ++ _ = _
  unfold dD
  rw [List.map_append]
  rfl
theorem dD_len (D : Dn) : (dD D).length = D.length := List.length_map ..
theorem inK_D (D : Dn) (c : List Nat) : fNotInK (tN c) (.dict (dD D)) = some (.bool (!decide (c ∈ D.map (·.1)))) := by
  show (dkey (tN c)).map _ = _
  rw [dkey_tN]
  show some (PyData.bool (!(dLook (dD D) (kyN c)).isSome)) = _
  rw [look_D]
  by_cases h : c ∈ D.map (·.1)
  · rw [decide_eq_true h]
    cases q : lkD D c with
    | none => exact absurd h (lk_none.mp q)
    | some v => rfl
  · rw [decide_eq_false h, lk_none.mpr h]
    rfl
theorem ixK_D {D : Dn} {c : List Nat} {e : Nat} (h : lkD D c = some e) : fIxK (.dict (dD D)) (tN c) = some (iN e) := by
  show (dkey (tN c)).bind _ = _
  rw [dkey_tN]
  show dLook (dD D) (kyN c) = _
  rw [look_D, h]
  rfl
/-! ### the def -/
section
variable (p : List PyData → Option PyData)
def l1S : SS := sFor (gN 7) (sSq (sCallV 1 0 p (sCons (sV 2) (sCons (sV 6) sNil)))) b1_steps_by__ready_takings
def b2S : SS := sSeq (l1S p) sNx
def l2S : SS := sFor (gN 6) (sSq (sV 4)) (b2S p)
def b3S : SS := sSeq (sOwn 5 (sLst sNil)) (sSeq (l2S p) (sSeq (sAsg (sV 5) (gN 4)) sNx))
def w1S : SS := loopW (sTr (sV 4)) (b3S p) 1000000
def gS : SS := (sSeq (sAsg (sCall p_touch_table [] (sCons (sV 0) sNil)) (gN 2)) (sSeq (sNew1 3 (s2 fIx (sV 0) (sC (.int 1))) (sC (.int 0))) (sSeq (sAsg (sFr (sLst (sCons (s2 fIx (sV 0) (sC (.int 1))) sNil))) (gN 4)) (sSeq (w1S p) (sSeq (sRet (sV 3)) sNx)))))
def pS : List PyData → Option PyData := fun ds => if ds.length + 1 = 2 then bodyF (gS p) 9 1 ds else none
end
theorem steps_by_is : p_steps_by__ready_takings = pS p_ready_takings := rfl
variable {a n m : Nat} {c0 : List Nat}
/-- choices of a map: takings that lead to maps -/
structure Cho (a n m : Nat) (p : List PyData → Option PyData) (Tb : PyData) (N : List Nat → List (Nat × Nat)) (B : Nat) : Prop where
  call : ∀ c, Valid a n m c → p [Tb, tN c] = some (.list ((N c).map tkD))
  go : ∀ c, Valid a n m c → ∀ t ∈ N c, t.2 < c.length ∧ Valid a n m (step c t)
  few : ∀ L : List (List Nat), L.Nodup → (∀ c ∈ L, Valid a n m c) → L.length ≤ B
section
variable {p : List PyData → Option PyData} {Tb C : PyData} {N : List Nat → List (Nat × Nat)} {B : Nat}
theorem Rj.valid (H : Cho a n m p Tb N B) (V0 : Valid a n m c0) : ∀ {j : Nat} {c : List Nat}, Rj N c0 j c → Valid a n m c
  | 0, c, h => by rw [show c = c0 from h]; exact V0
  | j + 1, c, ⟨b, hb, t, ht, e⟩ => by
    rw [← e]
    exact (H.go b (Rj.valid H V0 hb) t ht).2
theorem Lay.small (H : Cho a n m p Tb N B) (V0 : Valid a n m c0) {D : Dn} {L : List (List Nat)} {d : Nat} (W : Lay N c0 D L d) : D.length ≤ B := by
  have := H.few (D.map (·.1)) W.nd fun c hc => by
    obtain ⟨⟨c', e⟩, h1, rfl⟩ := List.mem_map.mp hc
    exact Rj.valid H V0 ((W.mem _ _).mp h1).2.1
  rwa [List.length_map] at this
/-- where the walk stands, in the def's names -/
def EB (C Tb : PyData) (D : Dn) (Lr : List PyData) (ext : List (List Nat)) (x6 x7 x8 : Sl) : Ev := [.dat C, .fn 0, .dat Tb, .dic (dD D), .dat (.list Lr), .own (ext.map tN), x6, x7, x8]
theorem one_taking {D : Dn} {ext : List (List Nat)} {c : List Nat} {t : Nat × Nat} {d : Nat} {Lr : List PyData} {x8 : Sl} (hc : c.length < 1000) (ht : t.2 < c.length) (hd : lkD D c = some d) (hD : D.length < 1000000) (he : ext.length < 1000000) :
    ∃ y8, b1_steps_by__ready_takings (EB C Tb D Lr ext (.dat (tN c)) (.dat (tkD t)) x8) = some (.nx, EB C Tb (addS d (D, ext) (step c t)).1 Lr (addS d (D, ext) (step c t)).2 (.dat (tN c)) (.dat (tkD t)) y8) := by
  have q2 : p_made [tN c, tkD t] = some (tN (step c t)) := made ht hc
  have nin := inK_D D (step c t)
  have ixk := ixK_D hd
  obtain ⟨y, hy⟩ : ∃ y, y = step c t := ⟨_, rfl⟩
  rw [← hy] at q2 nin ⊢
  refine ⟨.dat (tN y), ?_⟩
  unfold addS EB
  have dk := dkey_tN y
  by_cases h : y ∈ D.map (·.1)
  · rw [if_pos h]
    rw [decide_eq_true h] at nin
    obtain ⟨S, hS⟩ : ∃ Z, Z = dD D := ⟨_, rfl⟩
    obtain ⟨X, hX⟩ : ∃ Z, Z = ext.map tN := ⟨_, rfl⟩
    obtain ⟨K, hK⟩ : ∃ Z, Z = tN c := ⟨_, rfl⟩
    obtain ⟨K1, hK1⟩ : ∃ Z, Z = tN y := ⟨_, rfl⟩
    obtain ⟨G, hG⟩ : ∃ Z, Z = tkD t := ⟨_, rfl⟩
    rw [← hK, ← hK1, ← hG] at q2
    rw [← hK1, ← hS] at nin
    rw [← hS, ← hX, ← hK, ← hK1, ← hG]
    unfold b1_steps_by__ready_takings
    simp [bodyP, bodyI, startE, startI, sSeq, sRet, sAsg, sExp, sIfS, sNx, sV, sB, sC, PD.s2, toT, sTr, truth, bne_dec, sChain, sAnd, sOr, sNot, sIf, tAnd', tOr', tNot', sNil, sCons, sCall, allD, sN, allR, PD.res, sTup, sLst, sFr, gN, gT, gsNil, gsCons, sIsi, tyName, isSub, sOrE, sM1, sM1T, ST.fAdd_int, fSub, fLe, fLt, fGt, fGe, eq_int, ne_int, cont?, setCont, List.replicate, fLen, sOwn, sApp, q2, nin]
  · rw [if_neg h]
    rw [decide_eq_false h] at nin
    have pt := put_D (e := d + 1) h
    have sl : (dD D).length < 1000000 := by rw [dD_len]; exact hD
    have i1 : ((d : Int) + 1) = ((d + 1 : Nat) : Int) := by omega
    have xl : (ext.map tN).length < 1000000 := by rw [List.length_map]; exact he
    have ea : (ext ++ [y]).map tN = ext.map tN ++ [tN y] := by rw [List.map_append]; rfl
    rw [ea]
    obtain ⟨S, hS⟩ : ∃ Z, Z = dD D := ⟨_, rfl⟩
    obtain ⟨S2, hS2⟩ : ∃ Z, Z = dD (D ++ [(y, d + 1)]) := ⟨_, rfl⟩
    obtain ⟨X, hX⟩ : ∃ Z, Z = ext.map tN := ⟨_, rfl⟩
    obtain ⟨K, hK⟩ : ∃ Z, Z = tN c := ⟨_, rfl⟩
    obtain ⟨K1, hK1⟩ : ∃ Z, Z = tN y := ⟨_, rfl⟩
    obtain ⟨G, hG⟩ : ∃ Z, Z = tkD t := ⟨_, rfl⟩
    obtain ⟨ky, hky⟩ : ∃ Z, Z = kyN y := ⟨_, rfl⟩
    obtain ⟨I1, hI1⟩ : ∃ Z, Z = d + 1 := ⟨_, rfl⟩
    rw [← hI1] at i1
    have pt' : dPut S ky K1 (iN I1) = S2 := by rw [hS, hky, hK1, hI1, hS2]; exact pt
    rw [← hK, ← hK1, ← hG] at q2
    rw [← hK1, ← hky] at dk
    rw [← hK1, ← hS] at nin
    rw [← hS, ← hK] at ixk
    rw [← hS] at sl
    rw [← hX] at xl
    rw [← hS, ← hS2, ← hX, ← hK, ← hK1, ← hG]
    unfold b1_steps_by__ready_takings
    simp [bodyP, bodyI, startE, startI, sSeq, sRet, sAsg, sExp, sIfS, sNx, sV, sB, sC, PD.s2, toT, sTr, truth, bne_dec, sChain, sAnd, sOr, sNot, sIf, tAnd', tOr', tNot', sNil, sCons, sCall, allD, sN, allR, PD.res, sTup, sLst, sFr, gN, gT, gsNil, gsCons, sIsi, tyName, isSub, sOrE, sM1, sM1T, ST.fAdd_int, fSub, fLe, fLt, fGt, fGe, eq_int, ne_int, cont?, setCont, List.replicate, fLen, sOwn, sApp, q2, nin, sSetK, dicAt, ixk, i1, dk, sl, pt', xl]
theorem sets_lt {D0 D : Dn} {d : Nat} {ys : List (List Nat)} {ext : List (List Nat)} (A : Add D0 d ys (D, ext)) : D.length = D0.length + ext.length := by
  have := congrArg List.length A.eq
  rw [List.length_append, List.length_map] at this
  exact this
theorem lk_add {D0 D : Dn} {d e : Nat} {ys : List (List Nat)} {ext : List (List Nat)} {c : List Nat} (A : Add D0 d ys (D, ext)) (h : lkD D0 c = some e) : lkD D c = some e := by
  have e1 : D = _ := A.eq
  unfold lkD at h ⊢
  rw [e1, List.find?_append]
  cases q : D0.find? fun x => decide (x.1 = c) with
  | none => rw [q] at h; cases h
  | some v => rw [q] at h; exact h
/-- what is found is few -/
theorem Add.small (H : Cho a n m p Tb N B) (V0 : Valid a n m c0) {D0 D : Dn} {L : List (List Nat)} {d : Nat} {ys ext : List (List Nat)} (W : Lay N c0 D0 L d) (A : Add D0 d ys (D, ext)) (hy : ∀ y ∈ ys, Valid a n m y) : D.length ≤ B := by
  have e1 : D = D0 ++ ext.map fun y => (y, d + 1) := A.eq
  have e2 : D.map (·.1) = D0.map (·.1) ++ ext := by
    rw [e1, List.map_append, List.map_map]
    congr 1
    conv => rhs; rw [← List.map_id ext]
    rfl
  have := H.few (D.map (·.1)) (by
    rw [e2, List.nodup_append]
    refine ⟨W.nd, A.nd, fun x hx z hz => ?_⟩
    rintro rfl
    exact ((A.mem x).mp hz).2 hx) (fun c hc => by
    rw [e2] at hc
    rcases List.mem_append.mp hc with hc | hc
    · obtain ⟨⟨c', e⟩, h1, rfl⟩ := List.mem_map.mp hc
      exact Rj.valid H V0 ((W.mem _ _).mp h1).2.1
    · exact hy _ ((A.mem c).mp hc).1)
  rwa [List.length_map] at this
theorem one_map (H : Cho a n m p Tb N B) (V0 : Valid a n m c0) (hB : B < 900000) {D0 D : Dn} {L ys : List (List Nat)} {d : Nat} {ext : List (List Nat)} {c : List Nat} {Lr : List PyData} {x7 x8 : Sl} (W : Lay N c0 D0 L d) (hc : c ∈ L) (A : Add D0 d ys (D, ext)) (hy : ∀ y ∈ ys, Valid a n m y) :
    ∃ y7 y8, l1S p (EB C Tb D Lr ext (.dat (tN c)) x7 x8) = some (.nx, EB C Tb ((sucs N c).foldl (addS d) (D, ext)).1 Lr ((sucs N c).foldl (addS d) (D, ext)).2 (.dat (tN c)) y7 y8) := by
  have hD := (W.lay c).mp hc
  have Vc := Rj.valid H V0 hD.1
  have cl := Vc.len_lt
  have q := H.call c Vc
  have lk0 : lkD D0 c = some d := (lk_some W.nd).mpr ((W.mem c d).mpr ⟨Nat.le_refl _, hD⟩)
  let st : Nat → Sl → Sl → Ev := fun i x y => EB C Tb (((sucs N c).take i).foldl (addS d) (D, ext)).1 Lr (((sucs N c).take i).foldl (addS d) (D, ext)).2 (.dat (tN c)) x y
  have loop : ∃ ρ', l1S p (st 0 x7 x8) = some (.nx, ρ') ∧ ∃ x y, ρ' = st ((N c).map tkD).length x y := by
    refine sFor_inv (items := (N c).map tkD) (ρ1 := st 0 x7 x8) (fun i ρ => ∃ x y, ρ = st i x y) ?_ ⟨_, _, rfl⟩ ?_
    · show sSq (sCallV 1 0 p (sCons (sV 2) (sCons (sV 6) sNil))) [.dat C, .fn 0, .dat Tb, .dic (dD D), .dat (.list Lr), .own (ext.map tN), .dat (tN c), x7, x8] = some ((N c).map tkD, [.dat C, .fn 0, .dat Tb, .dic (dD D), .dat (.list Lr), .own (ext.map tN), .dat (tN c), x7, x8])
      obtain ⟨K, hK⟩ : ∃ Z, Z = tN c := ⟨_, rfl⟩
      obtain ⟨S, hS⟩ : ∃ Z, Z = dD D := ⟨_, rfl⟩
      obtain ⟨W, hW⟩ : ∃ Z, Z = (N c).map tkD := ⟨_, rfl⟩
      obtain ⟨X, hX⟩ : ∃ Z, Z = ext.map tN := ⟨_, rfl⟩
      rw [← hK, ← hW] at q
      rw [← hK, ← hS, ← hW, ← hX]
      simp [bodyP, bodyI, startE, startI, sSeq, sRet, sAsg, sExp, sIfS, sNx, sV, sB, sC, PD.s2, toT, sTr, truth, bne_dec, sChain, sAnd, sOr, sNot, sIf, tAnd', tOr', tNot', sNil, sCons, sCall, allD, sN, allR, PD.res, sTup, sLst, sFr, gN, gT, gsNil, gsCons, sIsi, tyName, isSub, sOrE, sM1, sM1T, ST.fAdd_int, fSub, fLe, fLt, fGt, fGe, eq_int, ne_int, cont?, setCont, List.replicate, fLen, sOwn, sApp, sSq, sCallV, q]
    · rintro i dd ρ hd ⟨x, y, rfl⟩
      rw [List.getElem?_map, Option.map_eq_some_iff] at hd
      obtain ⟨t, g1, rfl⟩ := hd
      have ht := H.go c Vc t (List.mem_of_getElem? g1)
      have g2 : (sucs N c)[i]? = some (step c t) := by
        unfold sucs
        rw [List.getElem?_map, g1]
        rfl
      have e : (sucs N c).take (i + 1) = (sucs N c).take i ++ [step c t] := by
        obtain ⟨hj, g3⟩ := List.getElem?_eq_some_iff.mp g2
        rw [← g3]
        exact (List.take_append_getElem hj).symm
      have Ai := A.all ((sucs N c).take i)
      have hyi : ∀ y ∈ ys ++ (sucs N c).take i, Valid a n m y := fun y hy' => by
        rcases List.mem_append.mp hy' with z | z
        · exact hy y z
        · obtain ⟨u, hu, rfl⟩ := List.mem_map.mp (List.mem_of_mem_take z)
          exact (H.go c Vc u hu).2
      obtain ⟨s, hs⟩ : ∃ s, s = ((sucs N c).take i).foldl (addS d) (D, ext) := ⟨_, rfl⟩
      rw [← hs] at Ai
      have lD := Ai.small H V0 W hyi
      have lE := sets_lt Ai
      have lk := lk_add Ai lk0
      obtain ⟨y8, e1⟩ := one_taking (C := C) (Tb := Tb) (Lr := Lr) (x8 := y) (by omega) ht.1 lk (by omega) (ext := s.2) (by omega)
      refine ⟨EB C Tb s.1 Lr s.2 (.dat (tN c)) (.dat (tkD t)) y, .nx, st (i + 1) (.dat (tkD t)) y8, by rw [hs]; rfl, ?_, .inl rfl, _, _, rfl⟩
      rw [e1]
      show some (Fl.nx, EB C Tb (addS d s (step c t)).1 Lr (addS d s (step c t)).2 (.dat (tN c)) (.dat (tkD t)) y8) = some (Fl.nx, EB C Tb (((sucs N c).take (i + 1)).foldl (addS d) (D, ext)).1 Lr (((sucs N c).take (i + 1)).foldl (addS d) (D, ext)).2 (.dat (tN c)) (.dat (tkD t)) y8)
      rw [e, List.foldl_append, ← hs]
      rfl
  obtain ⟨ρ', e, x, y, rfl⟩ := loop
  refine ⟨x, y, ?_⟩
  have e2 : (sucs N c).take ((N c).map tkD).length = sucs N c := by
    unfold sucs
    rw [List.length_map]
    exact List.take_of_length_le (by rw [List.length_map]; exact Nat.le_refl _)
  have e3 : st ((N c).map tkD).length x y = EB C Tb ((sucs N c).foldl (addS d) (D, ext)).1 Lr ((sucs N c).foldl (addS d) (D, ext)).2 (.dat (tN c)) x y := by
    show EB C Tb (((sucs N c).take ((N c).map tkD).length).foldl (addS d) (D, ext)).1 Lr (((sucs N c).take ((N c).map tkD).length).foldl (addS d) (D, ext)).2 (.dat (tN c)) x y = _
    rw [e2]
  rw [← e3]
  exact e
theorem one_layer (H : Cho a n m p Tb N B) (V0 : Valid a n m c0) (hB : B < 900000) {D : Dn} {L : List (List Nat)} {d : Nat} {x5 x6 x7 x8 : Sl} (W : Lay N c0 D L d) :
    ∃ D' L' y6 y7 y8, b3S p [.dat C, .fn 0, .dat Tb, .dic (dD D), .dat (.list (L.map tN)), x5, x6, x7, x8] = some (.nx, [.dat C, .fn 0, .dat Tb, .dic (dD D'), .dat (.list (L'.map tN)), .dat (.list (L'.map tN)), y6, y7, y8]) ∧ Lay N c0 D' L' (d + 1) ∧ D'.length = D.length + L'.length := by
  let s0 : Dn × List (List Nat) := (D, [])
  let st : Nat → Sl → Sl → Sl → Ev := fun i x y z => EB C Tb (((L.take i).flatMap (sucs N)).foldl (addS d) s0).1 (L.map tN) (((L.take i).flatMap (sucs N)).foldl (addS d) s0).2 x y z
  have hy : ∀ i, ∀ y ∈ (L.take i).flatMap (sucs N), Valid a n m y := fun i y hy => by
    obtain ⟨b, hb, h1⟩ := List.mem_flatMap.mp hy
    obtain ⟨t, ht, rfl⟩ := List.mem_map.mp h1
    exact (H.go b (Rj.valid H V0 ((W.lay b).mp (List.mem_of_mem_take hb)).1) t ht).2
  have loop : ∃ ρ', l2S p (st 0 x6 x7 x8) = some (.nx, ρ') ∧ ∃ x y z, ρ' = st (L.map tN).length x y z := by
    refine sFor_inv (items := L.map tN) (ρ1 := st 0 x6 x7 x8) (fun i ρ => ∃ x y z, ρ = st i x y z) rfl ⟨_, _, _, rfl⟩ ?_
    rintro i dd ρ hd ⟨x, y, z, rfl⟩
    rw [List.getElem?_map, Option.map_eq_some_iff] at hd
    obtain ⟨c, g1, rfl⟩ := hd
    have e : L.take (i + 1) = L.take i ++ [c] := by
      obtain ⟨hj, g3⟩ := List.getElem?_eq_some_iff.mp g1
      rw [← g3]
      exact (List.take_append_getElem hj).symm
    have A := (Add.start D d).all ((L.take i).flatMap (sucs N))
    rw [List.nil_append] at A
    obtain ⟨s, hs⟩ : ∃ s, s = ((L.take i).flatMap (sucs N)).foldl (addS d) s0 := ⟨_, rfl⟩
    rw [← hs] at A
    obtain ⟨y7, y8, e1⟩ := one_map (C := C) H V0 hB (Lr := L.map tN) (x7 := y) (x8 := z) W (List.mem_of_getElem? g1) (D := s.1) (ext := s.2) A (hy i)
    refine ⟨EB C Tb s.1 (L.map tN) s.2 (.dat (tN c)) y z, .nx, st (i + 1) (.dat (tN c)) y7 y8, by rw [hs]; rfl, ?_, .inl rfl, _, _, _, rfl⟩
    have e2 : st (i + 1) (.dat (tN c)) y7 y8 = EB C Tb ((sucs N c).foldl (addS d) (s.1, s.2)).1 (L.map tN) ((sucs N c).foldl (addS d) (s.1, s.2)).2 (.dat (tN c)) y7 y8 := by
      show EB C Tb (((L.take (i + 1)).flatMap (sucs N)).foldl (addS d) s0).1 (L.map tN) (((L.take (i + 1)).flatMap (sucs N)).foldl (addS d) s0).2 (.dat (tN c)) y7 y8 = _
      rw [e, List.flatMap_append, List.foldl_append, ← hs]
      simp
    rw [e2]
    show sSeq (l1S p) sNx _ = _
    exact seq_nx e1 rfl
  obtain ⟨ρ', e, x, y, z, rfl⟩ := loop
  rw [List.length_map] at e
  have A := (Add.start D d).all (L.flatMap (sucs N))
  rw [List.nil_append] at A
  obtain ⟨s, hs⟩ : ∃ s, s = (L.flatMap (sucs N)).foldl (addS d) s0 := ⟨_, rfl⟩
  have e2 : st L.length x y z = EB C Tb s.1 (L.map tN) s.2 x y z := by
    show EB C Tb (((L.take L.length).flatMap (sucs N)).foldl (addS d) s0).1 (L.map tN) (((L.take L.length).flatMap (sucs N)).foldl (addS d) s0).2 x y z = _
    rw [List.take_length, ← hs]
  rw [e2] at e
  have A' : Add D d (L.flatMap (sucs N)) s := by rw [hs]; exact A
  refine ⟨s.1, s.2, x, y, z, ?_, W.next A', sets_lt (D := s.1) (ext := s.2) A'⟩
  change l2S p [.dat C, .fn 0, .dat Tb, .dic (dD D), .dat (.list (L.map tN)), .own [], x6, x7, x8] = some (.nx, [.dat C, .fn 0, .dat Tb, .dic (dD s.1), .dat (.list (L.map tN)), .own (s.2.map tN), x, y, z]) at e
  unfold b3S
  refine seq_nx (ρ' := [.dat C, .fn 0, .dat Tb, .dic (dD D), .dat (.list (L.map tN)), .own [], x6, x7, x8]) rfl ?_
  refine seq_nx e ?_
  rfl
theorem run_layers (H : Cho a n m p Tb N B) (V0 : Valid a n m c0) (hB : B < 900000) : ∀ (F : Nat) (D : Dn) (L : List (List Nat)) (d : Nat) (x5 x6 x7 x8 : Sl), Lay N c0 D L d → B + 1 < D.length + F → 
    ∃ D' y5 y6 y7 y8, loopW (sTr (sV 4)) (b3S p) F [.dat C, .fn 0, .dat Tb, .dic (dD D), .dat (.list (L.map tN)), x5, x6, x7, x8] = some (.nx, [.dat C, .fn 0, .dat Tb, .dic (dD D'), .dat (.list []), y5, y6, y7, y8]) ∧ Far N c0 D'
  | 0, D, L, d, x5, x6, x7, x8, W, hF => by
    have := W.small H V0
    omega
  | F + 1, D, L, d, x5, x6, x7, x8, W, hF => by
    cases L with
    | nil =>
      refine ⟨D, x5, x6, x7, x8, ?_, W.end_⟩
      unfold loopW
      rfl
    | cons c L =>
      obtain ⟨D', L', y6, y7, y8, e, W', hl⟩ := one_layer (C := C) H V0 hB (x5 := x5) (x6 := x6) (x7 := x7) (x8 := x8) W
      have t1 : sTr (sV 4) [.dat C, .fn 0, .dat Tb, .dic (dD D), .dat (.list ((c :: L).map tN)), x5, x6, x7, x8] = some (true, [.dat C, .fn 0, .dat Tb, .dic (dD D), .dat (.list ((c :: L).map tN)), x5, x6, x7, x8]) := rfl
      unfold loopW
      rw [t1]
      dsimp only
      rw [e]
      cases L' with
      | nil =>
        refine ⟨D', .dat (.list []), y6, y7, y8, ?_, W'.end_⟩
        cases F with
        | zero => have := W.small H V0; omega
        | succ F => rfl
      | cons c' L' =>
        exact run_layers H V0 hB F D' (c' :: L') (d + 1) _ y6 y7 y8 W' (by rw [hl, List.length_cons]; omega)
/-- the program's walk in layers: all maps, each with its distance -/
theorem walk_all (V0 : Valid a n m c0) (H : Cho a n m p (.list ((tabN a n c0.length).map tN)) N B) (hB : B < 900000) : ∃ D, pS p [ch a c0] = some (.dict (dD D)) ∧ Far N c0 D := by
  have q3 := V0.table
  obtain ⟨Tb, hTb⟩ : ∃ Z, Z = PyData.list ((tabN a n c0.length).map tN) := ⟨_, rfl⟩
  obtain ⟨C, hC⟩ : ∃ Z, Z = ch a c0 := ⟨_, rfl⟩
  have hix : fIx C (.int 1) = some (tN c0) := by rw [hC]; rfl
  rw [← hTb] at H
  rw [← hC, ← hTb] at q3
  rw [← hC]
  obtain ⟨D, y5, y6, y7, y8, lp, fr⟩ := run_layers (C := C) H V0 hB 1000000 [(c0, 0)] [c0] 0 .un .un .un .un (Lay.start c0) (by simp; omega)
  refine ⟨D, ?_, fr⟩
  have lp' : w1S p [.dat C, .fn 0, .dat Tb, .dic [(tN c0, .int 0)], .dat (.list [tN c0]), .un, .un, .un, .un] = some (.nx, [.dat C, .fn 0, .dat Tb, .dic (dD D), .dat (.list []), y5, y6, y7, y8]) := lp
  have dk0 := dkey_tN c0
  obtain ⟨S, hS⟩ : ∃ Z, Z = dD D := ⟨_, rfl⟩
  obtain ⟨K, hK⟩ : ∃ Z, Z = tN c0 := ⟨_, rfl⟩
  rw [← hS, ← hK] at lp'
  rw [← hK] at hix dk0
  rw [← hS]
  have st0 : startF 9 1 [C] = [.dat C, .fn 0, .un, .un, .un, .un, .un, .un, .un] := rfl
  unfold pS gS bodyF
  rw [if_pos (show [C].length + 1 = 2 from rfl), st0]
  simp [bodyP, bodyI, startE, startI, sSeq, sRet, sAsg, sExp, sIfS, sNx, sV, sB, sC, PD.s2, toT, sTr, truth, bne_dec, sChain, sAnd, sOr, sNot, sIf, tAnd', tOr', tNot', sNil, sCons, sCall, allD, sN, allR, PD.res, sTup, sLst, sFr, gN, gT, gsNil, gsCons, sIsi, tyName, isSub, sOrE, sM1, sM1T, ST.fAdd_int, fSub, fLe, fLt, fGt, fGe, eq_int, ne_int, cont?, setCont, List.replicate, fLen, sOwn, sApp, q3, sNew1, hix, dk0, sLst, lp']
end
end ST
/-! steps_from, distance -/
namespace ST
open PySem PD
theorem nodup_mapG {α β : Type} {f : α → β} : ∀ {l : List α}, l.Nodup → (∀ x ∈ l, ∀ y ∈ l, f x = f y → x = y) → (l.map f).Nodup
  | [], _, _ => List.nodup_nil
  | x :: l, nd, h => by
    rw [List.nodup_cons] at nd
    rw [List.map_cons, List.nodup_cons]
    refine ⟨fun z => ?_, nodup_mapG nd.2 fun u hu v hv => h u (List.mem_cons_of_mem _ hu) v (List.mem_cons_of_mem _ hv)⟩
    obtain ⟨y, hy, e⟩ := List.mem_map.mp z
    have := h y (List.mem_cons_of_mem _ hy) x (List.mem_cons_self ..) e
    rw [this] at hy
    exact nd.1 hy
section
variable {a n m : Nat} {cells c0 c1 : List Nat}
theorem few_maps (hn : n ≤ 3) (L : List (List Nat)) (nd : L.Nodup) (h : ∀ c ∈ L, Valid a n m c) : L.length ≤ 562432 := by
  have h1 : (L.map (codeN n)).Nodup := nodup_mapG nd fun x hx y hy e => code_inj (h x hx) (h y hy) hn e
  have := nodup_leG h1 (b := List.range 562432) fun k hk => by
    obtain ⟨c, hc, rfl⟩ := List.mem_map.mp hk
    exact List.mem_range.mpr (code_lt (h c hc) hn)
  rwa [List.length_map, List.length_range] at this
/-- the takings of a map, in the order in which the program tells them -/
noncomputable def tkL (a n : Nat) (c : List Nat) : List (Nat × Nat) :=
  open Classical in if h : ∃ T : List (Nat × Nat), p_ready_takings [.list ((tabN a n c.length).map tN), tN c] = some (.list (T.map tkD)) ∧ T.Perm (rdy a n c c.length) then h.choose else []
theorem tkL_is (V : Valid a n m cells) : p_ready_takings [.list ((tabN a n cells.length).map tN), tN cells] = some (.list ((tkL a n cells).map tkD)) ∧ (tkL a n cells).Perm (rdy a n cells cells.length) := by
  have h := ready V
  unfold tkL
  rw [dif_pos h]
  exact h.choose_spec
theorem tkL_mem (V : Valid a n m cells) {t : Nat × Nat} : t ∈ tkL a n cells ↔ Can a n m cells t := by
  rw [(tkL_is V).2.mem_iff]
  exact ⟨fun h => rdy_ok V h, fun h => ok_rdy h⟩
theorem tkL_step (V : Valid a n m cells) {t : Nat × Nat} (h : t ∈ tkL a n cells) : t.2 < cells.length ∧ Valid a n m (step cells t) := by
  obtain ⟨h1, h2, h3⟩ := (tkL_mem V).mp h
  exact ⟨h2, V.step h2 h3⟩
theorem cho_ready (hn : n ≤ 3) (V0 : Valid a n m c0) : Cho a n m p_ready_takings (.list ((tabN a n c0.length).map tN)) (tkL a n) 562432 where
  call := fun c V => by
    have := (tkL_is V).1
    rw [V.len, ← V0.len] at this
    exact this
  go := fun c V t ht => tkL_step V ht
  few := few_maps hn
theorem steps_from (hn : n ≤ 3) (V0 : Valid a n m c0) : ∃ D, p_steps_from [ch a c0] = some (.dict (dD D)) ∧ Far (tkL a n) c0 D := by
  obtain ⟨D, q, F⟩ := walk_all V0 (cho_ready hn V0) (by omega)
  refine ⟨D, ?_, F⟩
  rw [← steps_by_is] at q
  obtain ⟨C, hC⟩ : ∃ Z, Z = ch a c0 := ⟨_, rfl⟩
  rw [← hC] at q ⊢
  unfold p_steps_from g_steps_from
  simp [bodyP, bodyI, startE, startI, sSeq, sRet, sAsg, sExp, sIfS, sNx, sV, sB, sC, PD.s2, toT, sTr, truth, bne_dec, sChain, sAnd, sOr, sNot, sIf, tAnd', tOr', tNot', sNil, sCons, sCall, allD, sN, allR, PD.res, sTup, sLst, sFr, gN, gT, gsNil, gsCons, sIsi, tyName, isSub, sOrE, sM1, sM1T, ST.fAdd_int, fSub, fLe, fLt, fGt, fGe, eq_int, ne_int, cont?, setCont, List.replicate, fLen, sOwn, sApp, q]
/-! ### distances -/
abbrev DsA (a n : Nat) (c0 c : List Nat) (e : Nat) : Prop := Dst (tkL a n) c0 c e
theorem Rj.app {N : List Nat → List (Nat × Nat)} {c0 c1 : List Nat} {i : Nat} (h : Rj N c0 i c1) : ∀ {j : Nat} {c : List Nat}, Rj N c1 j c → Rj N c0 (i + j) c
  | 0, c, k => by rw [show c = c1 from k]; exact h
  | j + 1, c, ⟨b, hb, t, ht, e⟩ => ⟨b, Rj.app h hb, t, ht, e⟩
theorem RjA.valid (V0 : Valid a n m c0) : ∀ {j : Nat} {c : List Nat}, Rj (tkL a n) c0 j c → Valid a n m c
  | 0, c, h => by rw [show c = c0 from h]; exact V0
  | j + 1, c, ⟨b, hb, t, ht, e⟩ => by rw [← e]; exact (tkL_step (RjA.valid V0 hb) ht).2
theorem step_back (V : Valid a n m cells) {t : Nat × Nat} (ht : t ∈ tkL a n cells) : ∃ u ∈ tkL a n (step cells t), step (step cells t) u = cells := by
  obtain ⟨h1, h2, h3⟩ := (tkL_mem V).mp ht
  obtain ⟨k1, k2⟩ := V.undo h2 h3
  refine ⟨(ca cells t.2, t.2), (tkL_mem (V.step h2 h3)).mpr ⟨V.lt _ (ca_mem h2), by show t.2 < (cells.set t.2 t.1).length; rw [List.length_set]; exact h2, k1⟩, k2⟩
theorem RjA.back (V0 : Valid a n m c0) : ∀ {j : Nat} {c : List Nat}, Rj (tkL a n) c0 j c → Rj (tkL a n) c j c0
  | 0, c, h => by rw [show c = c0 from h]; rfl
  | j + 1, c, ⟨b, hb, t, ht, e⟩ => by
    have Vb := RjA.valid V0 hb
    obtain ⟨u, hu, e2⟩ := step_back Vb ht
    rw [e] at hu e2
    have h1 : Rj (tkL a n) c 1 b := ⟨c, rfl, u, hu, e2⟩
    have := Rj.app h1 (RjA.back V0 hb)
    rw [Nat.add_comm] at this
    exact this
theorem DsA.symm (V0 : Valid a n m c0) {c : List Nat} {e : Nat} (h : DsA a n c0 c e) : DsA a n c c0 e :=
  ⟨RjA.back V0 h.1, fun j hj k => h.2 j hj (RjA.back (RjA.valid V0 h.1) k)⟩
theorem DsA.tri {c c' : List Nat} {e f g : Nat} (h : DsA a n c0 c e) (h1 : DsA a n c0 c' f) (h2 : DsA a n c' c g) : e ≤ f + g := by
  apply Classical.byContradiction
  intro z
  exact h.2 (f + g) (by omega) (Rj.app h1.1 h2.1)
theorem DsA.zero : DsA a n c0 c0 0 := ⟨rfl, fun j hj => by omega⟩
theorem RowOk.rj (V : Valid a n m cells) {row : List (Nat × Nat)} (h : RowOk a n m cells row) : ∀ i, i ≤ row.length → Rj (tkL a n) cells i (cur cells row i)
  | 0, _ => cur_zero row
  | i + 1, hi => by
    have hr := RowOk.rj V h i (by omega)
    have ht : row[i]? = some row[i] := List.getElem?_eq_getElem (by omega)
    obtain ⟨h1, h2, h3⟩ := h i _ ht
    have Vi := h.valid V i (by omega)
    refine ⟨_, hr, row[i], (tkL_mem Vi).mpr ⟨h1, by rw [cur_len]; exact h2, h3⟩, ?_⟩
    rw [cur_succ ht]
theorem check_both2 (V0 : Valid a n m c0) (V1 : Valid a n m c1) : p_check_both [ch a c0, ch a c1] = some .none := by
  have q0 := V0.check
  have q1 := V1.check
  have q2 := is_like V0 V1
  obtain ⟨C, hC⟩ : ∃ Z, Z = ch a c0 := ⟨_, rfl⟩
  obtain ⟨E, hE⟩ : ∃ Z, Z = ch a c1 := ⟨_, rfl⟩
  rw [← hC] at q0 q2
  rw [← hE] at q1 q2
  rw [← hC, ← hE]
  unfold p_check_both g_check_both
  simp [bodyP, bodyI, startE, startI, sSeq, sRet, sAsg, sExp, sIfS, sNx, sV, sB, sC, PD.s2, toT, sTr, truth, bne_dec, sChain, sAnd, sOr, sNot, sIf, tAnd', tOr', tNot', sNil, sCons, sCall, allD, sN, allR, PD.res, sTup, sLst, sFr, gN, gT, gsNil, gsCons, sIsi, tyName, isSub, sOrE, sM1, sM1T, ST.fAdd_int, fSub, fLe, fLt, fGt, fGe, eq_int, ne_int, cont?, setCont, List.replicate, fLen, sOwn, sApp, q0, q1, q2]
/-- the distance as data -/
noncomputable def dsD (a n : Nat) (c0 c : List Nat) : PyData := open Classical in if h : ∃ e, DsA a n c0 c e then iN h.choose else .none
theorem dsD_some {c : List Nat} {e : Nat} (h : DsA a n c0 c e) : dsD a n c0 c = iN e := by
  have hh : ∃ e, DsA a n c0 c e := ⟨e, h⟩
  unfold dsD
  rw [dif_pos hh, hh.choose_spec.one _ h]
theorem dsD_none {c : List Nat} (h : ¬ ∃ e, DsA a n c0 c e) : dsD a n c0 c = .none := by
  unfold dsD
  rw [dif_neg h]
theorem Far.look {D : Dn} (F : Far (tkL a n) c0 D) (c : List Nat) : ((lkD D c).map iN).getD .none = dsD a n c0 c := by
  cases q : lkD D c with
  | none =>
    rw [dsD_none]
    · rfl
    · rintro ⟨e, h⟩
      have := (lk_some F.nd).mpr ((F.mem c e).mpr h)
      rw [q] at this
      cases this
  | some e =>
    rw [dsD_some ((F.mem c e).mp ((lk_some F.nd).mp q))]
    rfl
theorem distance (hn : n ≤ 3) (V0 : Valid a n m c0) (V1 : Valid a n m c1) : p_distance [ch a c0, ch a c1] = some (dsD a n c0 c1) := by
  have q0 := check_both2 V0 V1
  obtain ⟨D, q1, F⟩ := steps_from hn V0
  have q2 : fGet1 (.dict (dD D)) (tN c1) = some (dsD a n c0 c1) := by
    show (dkey (tN c1)).map (fun k => (dLook (dD D) k).getD .none) = _
    rw [dkey_tN]
    show some ((dLook (dD D) (kyN c1)).getD .none) = _
    rw [look_D, F.look]
  have hx : fIx (ch a c1) (.int 1) = some (tN c1) := rfl
  obtain ⟨C, hC⟩ : ∃ Z, Z = ch a c0 := ⟨_, rfl⟩
  obtain ⟨E, hE⟩ : ∃ Z, Z = ch a c1 := ⟨_, rfl⟩
  obtain ⟨T, hT⟩ : ∃ Z, Z = tN c1 := ⟨_, rfl⟩
  obtain ⟨S, hS⟩ : ∃ Z, Z = dD D := ⟨_, rfl⟩
  rw [← hE, ← hT] at hx
  rw [← hC, ← hE] at q0
  rw [← hC, ← hS] at q1
  rw [← hS, ← hT] at q2
  rw [← hC, ← hE]
  unfold p_distance g_distance
  simp [bodyP, bodyI, startE, startI, sSeq, sRet, sAsg, sExp, sIfS, sNx, sV, sB, sC, PD.s2, toT, sTr, truth, bne_dec, sChain, sAnd, sOr, sNot, sIf, tAnd', tOr', tNot', sNil, sCons, sCall, allD, sN, allR, PD.res, sTup, sLst, sFr, gN, gT, gsNil, gsCons, sIsi, tyName, isSub, sOrE, sM1, sM1T, ST.fAdd_int, fSub, fLe, fLt, fGt, fGe, eq_int, ne_int, cont?, setCont, List.replicate, fLen, sOwn, sApp, q0, q1, hx, sM1K, q2]
end
end ST
/-! fewest, shows_fewest, farthest -/
namespace ST
open PySem PD
section
variable {a n m : Nat} {cells c0 c1 : List Nat}
/-- from the goal's dict: the takings that bring nearer -/
noncomputable def nrr (a n : Nat) (D : Dn) (c : List Nat) : List (Nat × Nat) := (tkL a n c).filter fun t => decide ((lkD D (step c t)).getD 0 < (lkD D c).getD 0)
noncomputable def gw (a n : Nat) (D : Dn) (c : List Nat) : Nat → List Nat
  | 0 => c
  | i + 1 => step (gw a n D c i) ((nrr a n D (gw a n D c i)).headD (0, 0))
noncomputable def gt (a n : Nat) (D : Dn) (c : List Nat) (i : Nat) : Nat × Nat := (nrr a n D (gw a n D c i)).headD (0, 0)
theorem tkL_len (V : Valid a n m cells) : (tkL a n cells).length < 1000 := by
  have := (tkL_is V).2.length_eq
  have := rdy_len V cells.length
  have := V.len_lt
  omega
theorem Far.lk {D : Dn} (F : Far (tkL a n) c1 D) {c : List Nat} {e : Nat} : lkD D c = some e ↔ DsA a n c1 c e := by
  rw [lk_some F.nd, F.mem]
/-- behind a taking one is at most one farther or nearer -/
theorem DsA.next {c : List Nat} {e : Nat} (V1 : Valid a n m c1) (h : DsA a n c1 c e) {t : Nat × Nat} (ht : t ∈ tkL a n c) : ∃ f, DsA a n c1 (step c t) f ∧ f ≤ e + 1 ∧ e ≤ f + 1 := by
  obtain ⟨f, hf, h2⟩ := Dst.of (tkL a n) (c0 := c1) (c := step c t) (j := e + 1) ⟨c, h.1, t, ht, rfl⟩
  refine ⟨f, h2, hf, ?_⟩
  obtain ⟨u, hu, e2⟩ := step_back (RjA.valid V1 h.1) ht
  apply Classical.byContradiction
  intro z
  exact h.2 (f + 1) (by omega) ⟨_, h2.1, u, hu, e2⟩
/-- some taking brings nearer -/
theorem DsA.near {c : List Nat} {e : Nat} (V1 : Valid a n m c1) (h : DsA a n c1 c (e + 1)) : ∃ t ∈ tkL a n c, DsA a n c1 (step c t) e := by
  obtain ⟨⟨b, hb, t, ht, rfl⟩, h2⟩ := h
  obtain ⟨u, hu, e2⟩ := step_back (RjA.valid V1 hb) ht
  refine ⟨u, hu, ?_⟩
  rw [e2]
  exact ⟨hb, fun j hj k => h2 (j + 1) (by omega) ⟨b, k, t, ht, rfl⟩⟩
theorem nrr_mem {D : Dn} (F : Far (tkL a n) c1 D) (V1 : Valid a n m c1) {c : List Nat} {e : Nat} (h : DsA a n c1 c (e + 1)) {t : Nat × Nat} : t ∈ nrr a n D c ↔ t ∈ tkL a n c ∧ DsA a n c1 (step c t) e := by
  unfold nrr
  rw [List.mem_filter, F.lk.mpr h]
  constructor
  · rintro ⟨h1, h2⟩
    obtain ⟨f, k1, k2, k3⟩ := h.next V1 h1
    rw [F.lk.mpr k1] at h2
    have h2 : f < e + 1 := by simpa using h2
    have : f = e := by omega
    rw [this] at k1
    exact ⟨h1, k1⟩
  · rintro ⟨h1, h2⟩
    rw [F.lk.mpr h2]
    exact ⟨h1, by simp⟩
theorem nrr_head {D : Dn} (F : Far (tkL a n) c1 D) (V1 : Valid a n m c1) {c : List Nat} {e : Nat} (h : DsA a n c1 c (e + 1)) : (nrr a n D c).headD (0, 0) ∈ nrr a n D c := by
  obtain ⟨t, h1, h2⟩ := h.near V1
  have hm := (nrr_mem F V1 h).mpr ⟨h1, h2⟩
  cases q : nrr a n D c with
  | nil => rw [q] at hm; cases hm
  | cons x r => exact List.mem_cons_self ..
theorem gw_far {D : Dn} (F : Far (tkL a n) c1 D) (V1 : Valid a n m c1) {d : Nat} (h : DsA a n c1 c0 d) : ∀ i, i ≤ d → DsA a n c1 (gw a n D c0 i) (d - i)
  | 0, _ => h
  | i + 1, hi => by
    have ih := gw_far F V1 h i (by omega)
    rw [show d - i = (d - (i + 1)) + 1 by omega] at ih
    exact ((nrr_mem F V1 ih).mp (nrr_head F V1 ih)).2
theorem gt_mem {D : Dn} (F : Far (tkL a n) c1 D) (V1 : Valid a n m c1) {d : Nat} (h : DsA a n c1 c0 d) {i : Nat} (hi : i < d) : gt a n D c0 i ∈ tkL a n (gw a n D c0 i) := by
  have ih := gw_far F V1 h i (by omega)
  rw [show d - i = (d - (i + 1)) + 1 by omega] at ih
  exact ((nrr_mem F V1 ih).mp (nrr_head F V1 ih)).1
noncomputable def gRow (a n : Nat) (D : Dn) (c : List Nat) (d : Nat) : List (Nat × Nat) := (List.range d).map (gt a n D c)
theorem gRow_len (D : Dn) (c : List Nat) (d : Nat) : (gRow a n D c d).length = d := by unfold gRow; rw [List.length_map, List.length_range]
theorem gRow_get (D : Dn) (c : List Nat) {d i : Nat} (h : i < d) : (gRow a n D c d)[i]? = some (gt a n D c i) := by
  unfold gRow
  rw [List.getElem?_map, List.getElem?_range h]
  rfl
theorem gRow_cur (D : Dn) (c : List Nat) (d : Nat) : ∀ i, i ≤ d → cur c (gRow a n D c d) i = gw a n D c i
  | 0, _ => cur_zero _
  | i + 1, hi => by rw [cur_succ (gRow_get D c (by omega)), gRow_cur D c d i (by omega)]; rfl
theorem gRow_ok {D : Dn} (F : Far (tkL a n) c1 D) (V1 : Valid a n m c1) {d : Nat} (h : DsA a n c1 c0 d) : RowOk a n m c0 (gRow a n D c0 d) := fun i t ht => by
  have hi : i < d := by
    have := (List.getElem?_eq_some_iff.mp ht).1
    rwa [gRow_len] at this
  rw [gRow_get D c0 hi] at ht
  cases ht
  rw [gRow_cur D c0 d i (by omega)]
  have hm := gt_mem F V1 h hi
  have Vi := RjA.valid V1 (gw_far F V1 h i (by omega)).1
  have V0 := RjA.valid V1 h.1
  obtain ⟨h1, h2, h3⟩ := (tkL_mem Vi).mp hm
  exact ⟨h1, by rw [V0.len, ← Vi.len]; exact h2, h3⟩
theorem gw_end {D : Dn} (F : Far (tkL a n) c1 D) (V1 : Valid a n m c1) {d : Nat} (h : DsA a n c1 c0 d) : gw a n D c0 d = c1 := by
  have := gw_far F V1 h d (Nat.le_refl _)
  rw [Nat.sub_self] at this
  exact this.1
/-- the smallest of those that bring nearer -/
theorem nearing {D : Dn} (F : Far (tkL a n) c1 D) (V1 : Valid a n m c1) {c : List Nat} {e : Nat} (h : DsA a n c1 c (e + 1)) :
    p_nearing [.list ((tabN a n c1.length).map tN), .dict (dD D), tN c] = some (tkD ((nrr a n D c).headD (0, 0))) := by
  have V := RjA.valid V1 h.1
  have q := (tkL_is V).1
  rw [V.len, ← V1.len] at q
  have hl := tkL_len V
  have cl := V.len_lt
  obtain ⟨Tb, hTb⟩ : ∃ Z, Z = PyData.list ((tabN a n c1.length).map tN) := ⟨_, rfl⟩
  rw [← hTb] at q ⊢
  have k0 := ixK_D (F.lk.mpr h)
  have cm : c1_nearing [.dat Tb, .dat (.dict (dD D)), .dat (tN c), .un, .un] = some ((nrr a n D c).map tkD, [.dat Tb, .dat (.dict (dD D)), .dat (tN c), .un, .un]) := by
    refine sComp_on (tkL a n c) tkD tkD (fun t => decide ((lkD D (step c t)).getD 0 < (lkD D c).getD 0)) ?_ rfl (by omega) rfl fun t ht => ⟨_, rfl, rfl, ?_, ?_⟩
    · obtain ⟨K, hK⟩ : ∃ Z, Z = tN c := ⟨_, rfl⟩
      obtain ⟨W, hW⟩ : ∃ Z, Z = (tkL a n c).map tkD := ⟨_, rfl⟩
      rw [← hK, ← hW] at q
      rw [← hK, ← hW]
      simp [bodyP, bodyI, startE, startI, sSeq, sRet, sAsg, sExp, sIfS, sNx, sV, sB, sC, PD.s2, toT, sTr, truth, bne_dec, sChain, sAnd, sOr, sNot, sIf, tAnd', tOr', tNot', sNil, sCons, sCall, allD, sN, allR, PD.res, sTup, sLst, sFr, gN, gT, gsNil, gsCons, sIsi, tyName, isSub, sOrE, sM1, sM1T, ST.fAdd_int, fSub, fLe, fLt, fGt, fGe, eq_int, ne_int, cont?, setCont, List.replicate, fLen, sOwn, sApp, sSq, q]
    · have h2 := tkL_step V ht
      have q2 : p_made [tN c, tkD t] = some (tN (step c t)) := made h2.1 (by omega)
      obtain ⟨f, k1, _, _⟩ := h.next V1 ht
      have k2 := ixK_D (F.lk.mpr k1)
      rw [F.lk.mpr h, F.lk.mpr k1]
      obtain ⟨K, hK⟩ : ∃ Z, Z = tN c := ⟨_, rfl⟩
      obtain ⟨K1, hK1⟩ : ∃ Z, Z = tN (step c t) := ⟨_, rfl⟩
      obtain ⟨G, hG⟩ : ∃ Z, Z = tkD t := ⟨_, rfl⟩
      obtain ⟨S, hS⟩ : ∃ Z, Z = dD D := ⟨_, rfl⟩
      rw [← hK, ← hS] at k0
      rw [← hK1, ← hS] at k2
      rw [← hK, ← hK1, ← hG] at q2
      rw [← hK, ← hS, ← hG]
      simp [bodyP, bodyI, startE, startI, sSeq, sRet, sAsg, sExp, sIfS, sNx, sV, sB, sC, PD.s2, toT, sTr, truth, bne_dec, sChain, sAnd, sOr, sNot, sIf, tAnd', tOr', tNot', sNil, sCons, sCall, allD, sN, allR, PD.res, sTup, sLst, sFr, gN, gT, gsNil, gsCons, sIsi, tyName, isSub, sOrE, sM1, sM1T, ST.fAdd_int, fSub, fLe, fLt, fGt, fGe, eq_int, ne_int, cont?, setCont, List.replicate, fLen, sOwn, sApp, wipeE, q2, k0, k2]
      omega
    · intro _
      obtain ⟨G, hG⟩ : ∃ Z, Z = tkD t := ⟨_, rfl⟩
      rw [← hG]
      simp [bodyP, bodyI, startE, startI, sSeq, sRet, sAsg, sExp, sIfS, sNx, sV, sB, sC, PD.s2, toT, sTr, truth, bne_dec, sChain, sAnd, sOr, sNot, sIf, tAnd', tOr', tNot', sNil, sCons, sCall, allD, sN, allR, PD.res, sTup, sLst, sFr, gN, gT, gsNil, gsCons, sIsi, tyName, isSub, sOrE, sM1, sM1T, ST.fAdd_int, fSub, fLe, fLt, fGt, fGe, eq_int, ne_int, cont?, setCont, List.replicate, fLen, sOwn, sApp, wipeE]
  have hd := nrr_head F V1 h
  have ix : fIx (.list ((nrr a n D c).map tkD)) (.int 0) = some (tkD ((nrr a n D c).headD (0, 0))) := by
    cases q : nrr a n D c with
    | nil => rw [q] at hd; cases hd
    | cons x r => exact (ix_at (xs := tkD x :: r.map tkD) (j := 0) (v := tkD x) rfl).1
  obtain ⟨Y, hY⟩ : ∃ Z, Z = (nrr a n D c).map tkD := ⟨_, rfl⟩
  obtain ⟨H, hH⟩ : ∃ Z, Z = tkD ((nrr a n D c).headD (0, 0)) := ⟨_, rfl⟩
  obtain ⟨S, hS⟩ : ∃ Z, Z = dD D := ⟨_, rfl⟩
  obtain ⟨K, hK⟩ : ∃ Z, Z = tN c := ⟨_, rfl⟩
  rw [← hY, ← hS, ← hK] at cm
  rw [← hY, ← hH] at ix
  rw [← hS, ← hK, ← hH]
  unfold p_nearing g_nearing
  simp [bodyP, bodyI, startE, startI, sSeq, sRet, sAsg, sExp, sIfS, sNx, sV, sB, sC, PD.s2, toT, sTr, truth, bne_dec, sChain, sAnd, sOr, sNot, sIf, tAnd', tOr', tNot', sNil, sCons, sCall, allD, sN, allR, PD.res, sTup, sLst, sFr, gN, gT, gsNil, gsCons, sIsi, tyName, isSub, sOrE, sM1, sM1T, ST.fAdd_int, fSub, fLe, fLt, fGt, fGe, eq_int, ne_int, cont?, setCont, List.replicate, fLen, sOwn, sApp, cm, ix]
theorem fewest_some (hn : n ≤ 3) (V0 : Valid a n m c0) (V1 : Valid a n m c1) {d : Nat} (h : DsA a n c1 c0 d) (hd : d < 900000) : ∃ D, Far (tkL a n) c1 D ∧ p_fewest [ch a c0, ch a c1] = some (.tuple ((gRow a n D c0 d).map tkD)) := by
  have q0 := check_both2 V0 V1
  obtain ⟨D, q1, F⟩ := steps_from hn V1
  refine ⟨D, F, ?_⟩
  have q2 := V0.table
  rw [V0.len, ← V1.len] at q2
  have nin := inK_D D c0
  rw [decide_eq_true (List.mem_map.mpr ⟨_, (F.mem c0 d).mpr h, rfl⟩)] at nin
  obtain ⟨Tb, hTb⟩ : ∃ Z, Z = PyData.list ((tabN a n c1.length).map tN) := ⟨_, rfl⟩
  obtain ⟨C, hC⟩ : ∃ Z, Z = ch a c0 := ⟨_, rfl⟩
  obtain ⟨E, hE⟩ : ∃ Z, Z = ch a c1 := ⟨_, rfl⟩
  obtain ⟨S, hS⟩ : ∃ Z, Z = dD D := ⟨_, rfl⟩
  have x0 : fIx C (.int 1) = some (tN c0) := by rw [hC]; rfl
  have x1 : fIx E (.int 1) = some (tN c1) := by rw [hE]; rfl
  rw [← hC, ← hE] at q0
  rw [← hE, ← hS] at q1
  rw [← hC, ← hTb] at q2
  rw [← hS] at nin
  let st : Nat → Sl → Ev := fun i x => [.dat C, .dat E, .dat (.dict S), .dat Tb, .dat (tN (gw a n D c0 i)), .own (((List.range i).map (gt a n D c0)).map tkD), x]
  have turn : ∀ i, i < d → ∀ x, ∃ y, b1_fewest (st i x) = some (.nx, st (i + 1) y) := fun i hi x => by
    have hf := gw_far F V1 h i (by omega)
    rw [show d - i = (d - (i + 1)) + 1 by omega] at hf
    have r1 := nearing F V1 hf
    have Vi := RjA.valid V1 hf.1
    have hm := tkL_step Vi (gt_mem F V1 h hi)
    have r2 : p_made [tN (gw a n D c0 i), tkD (gt a n D c0 i)] = some (tN (gw a n D c0 (i + 1))) := made hm.1 (by have := Vi.len_lt; omega)
    refine ⟨.dat (tkD (gt a n D c0 i)), ?_⟩
    change p_nearing _ = some (tkD (gt a n D c0 i)) at r1
    rw [← hTb, ← hS] at r1
    have ea : ((List.range (i + 1)).map (gt a n D c0)).map tkD = ((List.range i).map (gt a n D c0)).map tkD ++ [tkD (gt a n D c0 i)] := by rw [List.range_succ, List.map_append, List.map_append]; rfl
    have xl : (((List.range i).map (gt a n D c0)).map tkD).length < 1000000 := by simp; omega
    show b1_fewest [.dat C, .dat E, .dat (.dict S), .dat Tb, .dat (tN (gw a n D c0 i)), .own (((List.range i).map (gt a n D c0)).map tkD), x] = some (.nx, [.dat C, .dat E, .dat (.dict S), .dat Tb, .dat (tN (gw a n D c0 (i + 1))), .own (((List.range (i + 1)).map (gt a n D c0)).map tkD), .dat (tkD (gt a n D c0 i))])
    rw [ea]
    obtain ⟨X, hX⟩ : ∃ Z, Z = ((List.range i).map (gt a n D c0)).map tkD := ⟨_, rfl⟩
    obtain ⟨G, hG⟩ : ∃ Z, Z = tkD (gt a n D c0 i) := ⟨_, rfl⟩
    obtain ⟨K, hK⟩ : ∃ Z, Z = tN (gw a n D c0 i) := ⟨_, rfl⟩
    obtain ⟨K1, hK1⟩ : ∃ Z, Z = tN (gw a n D c0 (i + 1)) := ⟨_, rfl⟩
    rw [← hG, ← hK] at r1
    rw [← hG, ← hK, ← hK1] at r2
    rw [← hX] at xl
    rw [← hG, ← hX, ← hK, ← hK1]
    unfold b1_fewest
    simp [bodyP, bodyI, startE, startI, sSeq, sRet, sAsg, sExp, sIfS, sNx, sV, sB, sC, PD.s2, toT, sTr, truth, bne_dec, sChain, sAnd, sOr, sNot, sIf, tAnd', tOr', tNot', sNil, sCons, sCall, allD, sN, allR, PD.res, sTup, sLst, sFr, gN, gT, gsNil, gsCons, sIsi, tyName, isSub, sOrE, sM1, sM1T, ST.fAdd_int, fSub, fLe, fLt, fGt, fGe, eq_int, ne_int, cont?, setCont, List.replicate, fLen, sOwn, sApp, r1, r2, xl]
  have test : ∀ i x, i ≤ d → toT (s2 fNe (sV 4) (s2 fIx (sV 1) (sC (.int 1)))) (st i x) = some (decide (i < d), st i x) := fun i x hi => by
    have hf := gw_far F V1 h i hi
    have e1 := ne_tN (gw a n D c0 i) c1
    have e2 : decide (gw a n D c0 i = c1) = !decide (i < d) := by
      by_cases z : i < d
      · rw [decide_eq_true z]
        refine decide_eq_false fun e => ?_
        rw [e] at hf
        have := DsA.zero.one _ hf
        omega
      · rw [decide_eq_false z]
        refine decide_eq_true ?_
        obtain rfl : i = d := by omega
        exact gw_end F V1 h
    rw [e2, Bool.not_not] at e1
    show toT (s2 fNe (sV 4) (s2 fIx (sV 1) (sC (.int 1)))) [.dat C, .dat E, .dat (.dict S), .dat Tb, .dat (tN (gw a n D c0 i)), .own (((List.range i).map (gt a n D c0)).map tkD), x] = some (_, [.dat C, .dat E, .dat (.dict S), .dat Tb, .dat (tN (gw a n D c0 i)), .own (((List.range i).map (gt a n D c0)).map tkD), x])
    obtain ⟨X, hX⟩ : ∃ Z, Z = ((List.range i).map (gt a n D c0)).map tkD := ⟨_, rfl⟩
    obtain ⟨K, hK⟩ : ∃ Z, Z = tN (gw a n D c0 i) := ⟨_, rfl⟩
    obtain ⟨K1, hK1⟩ : ∃ Z, Z = tN c1 := ⟨_, rfl⟩
    rw [← hK1] at x1
    rw [← hK, ← hK1] at e1
    rw [← hX, ← hK]
    simp [bodyP, bodyI, startE, startI, sSeq, sRet, sAsg, sExp, sIfS, sNx, sV, sB, sC, PD.s2, toT, sTr, truth, bne_dec, sChain, sAnd, sOr, sNot, sIf, tAnd', tOr', tNot', sNil, sCons, sCall, allD, sN, allR, PD.res, sTup, sLst, sFr, gN, gT, gsNil, gsCons, sIsi, tyName, isSub, sOrE, sM1, sM1T, ST.fAdd_int, fSub, fLe, fLt, fGt, fGe, eq_int, ne_int, cont?, setCont, List.replicate, fLen, sOwn, sApp, x1, e1]
  have run : ∀ (k i F : Nat) (x : Sl), i + k = d → k < F → ∃ y, loopW (toT (s2 fNe (sV 4) (s2 fIx (sV 1) (sC (.int 1))))) b1_fewest F (st i x) = some (.nx, st d y) := fun k => by
    induction k with
    | zero =>
      intro i F x hi hF
      obtain ⟨F', rfl⟩ : ∃ F', F = F' + 1 := ⟨F - 1, by omega⟩
      obtain rfl : i = d := by omega
      refine ⟨x, ?_⟩
      unfold loopW
      rw [test i x (Nat.le_refl _), decide_eq_false (Nat.lt_irrefl _)]
    | succ k ih =>
      intro i F x hi hF
      obtain ⟨F', rfl⟩ : ∃ F', F = F' + 1 := ⟨F - 1, by omega⟩
      obtain ⟨y, e⟩ := turn i (by omega) x
      obtain ⟨z, e2⟩ := ih (i + 1) F' y (by omega) (by omega)
      refine ⟨z, ?_⟩
      unfold loopW
      rw [test i x (by omega), decide_eq_true (by omega : i < d)]
      dsimp only
      rw [e]
      exact e2
  obtain ⟨y, lp⟩ := run d 0 1000000 .un (by omega) (by omega)
  have lp' : w1_fewest [.dat C, .dat E, .dat (.dict S), .dat Tb, .dat (tN c0), .own [], .un] = some (.nx, [.dat C, .dat E, .dat (.dict S), .dat Tb, .dat (tN (gw a n D c0 d)), .own ((gRow a n D c0 d).map tkD), y]) := lp
  obtain ⟨X, hX⟩ : ∃ Z, Z = (gRow a n D c0 d).map tkD := ⟨_, rfl⟩
  obtain ⟨K, hK⟩ : ∃ Z, Z = tN (gw a n D c0 d) := ⟨_, rfl⟩
  obtain ⟨K0, hK0⟩ : ∃ Z, Z = tN c0 := ⟨_, rfl⟩
  rw [← hX, ← hK, ← hK0] at lp'
  rw [← hK0] at x0 nin
  rw [← hC, ← hE, ← hX]
  unfold p_fewest
  show bodyP g_fewest 7 [C, E] = _
  refine body_rt ?_
  unfold g_fewest
  show Rt _ [.dat C, .dat E, .un, .un, .un, .un, .un] _
  (refine ST.Rt.nx (by simp [bodyP, bodyI, startE, startI, sSeq, sRet, sAsg, sExp, sIfS, sNx, sV, sB, sC, PD.s2, toT, sTr, truth, bne_dec, sChain, sAnd, sOr, sNot, sIf, tAnd', tOr', tNot', sNil, sCons, sCall, allD, sN, allR, PD.res, sTup, sLst, sFr, gN, gT, gsNil, gsCons, sIsi, tyName, isSub, sOrE, sM1, sM1T, ST.fAdd_int, fSub, fLe, fLt, fGt, fGe, eq_int, ne_int, cont?, setCont, List.replicate, fLen, sOwn, sApp, PD.sCallI, q0]; try exact rfl) ?_)
  (refine ST.Rt.nx (by simp [bodyP, bodyI, startE, startI, sSeq, sRet, sAsg, sExp, sIfS, sNx, sV, sB, sC, PD.s2, toT, sTr, truth, bne_dec, sChain, sAnd, sOr, sNot, sIf, tAnd', tOr', tNot', sNil, sCons, sCall, allD, sN, allR, PD.res, sTup, sLst, sFr, gN, gT, gsNil, gsCons, sIsi, tyName, isSub, sOrE, sM1, sM1T, ST.fAdd_int, fSub, fLe, fLt, fGt, fGe, eq_int, ne_int, cont?, setCont, List.replicate, fLen, sOwn, sApp, PD.sCallI, q1]; try exact rfl) ?_)
  (refine ST.Rt.nx (by simp [bodyP, bodyI, startE, startI, sSeq, sRet, sAsg, sExp, sIfS, sNx, sV, sB, sC, PD.s2, toT, sTr, truth, bne_dec, sChain, sAnd, sOr, sNot, sIf, tAnd', tOr', tNot', sNil, sCons, sCall, allD, sN, allR, PD.res, sTup, sLst, sFr, gN, gT, gsNil, gsCons, sIsi, tyName, isSub, sOrE, sM1, sM1T, ST.fAdd_int, fSub, fLe, fLt, fGt, fGe, eq_int, ne_int, cont?, setCont, List.replicate, fLen, sOwn, sApp, PD.sCallI, x0, nin]; try exact rfl) ?_)
  (refine ST.Rt.nx (by simp [bodyP, bodyI, startE, startI, sSeq, sRet, sAsg, sExp, sIfS, sNx, sV, sB, sC, PD.s2, toT, sTr, truth, bne_dec, sChain, sAnd, sOr, sNot, sIf, tAnd', tOr', tNot', sNil, sCons, sCall, allD, sN, allR, PD.res, sTup, sLst, sFr, gN, gT, gsNil, gsCons, sIsi, tyName, isSub, sOrE, sM1, sM1T, ST.fAdd_int, fSub, fLe, fLt, fGt, fGe, eq_int, ne_int, cont?, setCont, List.replicate, fLen, sOwn, sApp, PD.sCallI, q2]; try exact rfl) ?_)
  (refine ST.Rt.nx (by simp [bodyP, bodyI, startE, startI, sSeq, sRet, sAsg, sExp, sIfS, sNx, sV, sB, sC, PD.s2, toT, sTr, truth, bne_dec, sChain, sAnd, sOr, sNot, sIf, tAnd', tOr', tNot', sNil, sCons, sCall, allD, sN, allR, PD.res, sTup, sLst, sFr, gN, gT, gsNil, gsCons, sIsi, tyName, isSub, sOrE, sM1, sM1T, ST.fAdd_int, fSub, fLe, fLt, fGt, fGe, eq_int, ne_int, cont?, setCont, List.replicate, fLen, sOwn, sApp, PD.sCallI, x0]; try exact rfl) ?_)
  (refine ST.Rt.nx (by simp [bodyP, bodyI, startE, startI, sSeq, sRet, sAsg, sExp, sIfS, sNx, sV, sB, sC, PD.s2, toT, sTr, truth, bne_dec, sChain, sAnd, sOr, sNot, sIf, tAnd', tOr', tNot', sNil, sCons, sCall, allD, sN, allR, PD.res, sTup, sLst, sFr, gN, gT, gsNil, gsCons, sIsi, tyName, isSub, sOrE, sM1, sM1T, ST.fAdd_int, fSub, fLe, fLt, fGt, fGe, eq_int, ne_int, cont?, setCont, List.replicate, fLen, sOwn, sApp, PD.sCallI, sLst]; try exact rfl) ?_)
  refine Rt.nx lp' ?_
  (refine ST.Rt.rt (by simp [bodyP, bodyI, startE, startI, sSeq, sRet, sAsg, sExp, sIfS, sNx, sV, sB, sC, PD.s2, toT, sTr, truth, bne_dec, sChain, sAnd, sOr, sNot, sIf, tAnd', tOr', tNot', sNil, sCons, sCall, allD, sN, allR, PD.res, sTup, sLst, sFr, gN, gT, gsNil, gsCons, sIsi, tyName, isSub, sOrE, sM1, sM1T, ST.fAdd_int, fSub, fLe, fLt, fGt, fGe, eq_int, ne_int, cont?, setCont, List.replicate, fLen, sOwn, sApp, PD.sCallI, fTupOf]; try exact rfl))
theorem fewest_none (hn : n ≤ 3) (V0 : Valid a n m c0) (V1 : Valid a n m c1) (h : ¬ ∃ d, DsA a n c1 c0 d) : p_fewest [ch a c0, ch a c1] = some .none := by
  have q0 := check_both2 V0 V1
  obtain ⟨D, q1, F⟩ := steps_from hn V1
  have nin := inK_D D c0
  rw [decide_eq_false (fun z => by
    obtain ⟨⟨c, e⟩, h1, rfl⟩ := List.mem_map.mp z
    exact h ⟨e, (F.mem _ _).mp h1⟩)] at nin
  obtain ⟨C, hC⟩ : ∃ Z, Z = ch a c0 := ⟨_, rfl⟩
  obtain ⟨E, hE⟩ : ∃ Z, Z = ch a c1 := ⟨_, rfl⟩
  obtain ⟨S, hS⟩ : ∃ Z, Z = dD D := ⟨_, rfl⟩
  have x0 : fIx C (.int 1) = some (tN c0) := by rw [hC]; rfl
  obtain ⟨K0, hK0⟩ : ∃ Z, Z = tN c0 := ⟨_, rfl⟩
  rw [← hC, ← hE] at q0
  rw [← hE, ← hS] at q1
  rw [← hS, ← hK0] at nin
  rw [← hK0] at x0
  rw [← hC, ← hE]
  unfold p_fewest
  show bodyP g_fewest 7 [C, E] = _
  refine body_rt ?_
  unfold g_fewest
  show Rt _ [.dat C, .dat E, .un, .un, .un, .un, .un] _
  (refine ST.Rt.nx (by simp [bodyP, bodyI, startE, startI, sSeq, sRet, sAsg, sExp, sIfS, sNx, sV, sB, sC, PD.s2, toT, sTr, truth, bne_dec, sChain, sAnd, sOr, sNot, sIf, tAnd', tOr', tNot', sNil, sCons, sCall, allD, sN, allR, PD.res, sTup, sLst, sFr, gN, gT, gsNil, gsCons, sIsi, tyName, isSub, sOrE, sM1, sM1T, ST.fAdd_int, fSub, fLe, fLt, fGt, fGe, eq_int, ne_int, cont?, setCont, List.replicate, fLen, sOwn, sApp, PD.sCallI, q0]; try exact rfl) ?_)
  (refine ST.Rt.nx (by simp [bodyP, bodyI, startE, startI, sSeq, sRet, sAsg, sExp, sIfS, sNx, sV, sB, sC, PD.s2, toT, sTr, truth, bne_dec, sChain, sAnd, sOr, sNot, sIf, tAnd', tOr', tNot', sNil, sCons, sCall, allD, sN, allR, PD.res, sTup, sLst, sFr, gN, gT, gsNil, gsCons, sIsi, tyName, isSub, sOrE, sM1, sM1T, ST.fAdd_int, fSub, fLe, fLt, fGt, fGe, eq_int, ne_int, cont?, setCont, List.replicate, fLen, sOwn, sApp, PD.sCallI, q1]; try exact rfl) ?_)
  (refine ST.Rt.rt (by simp [bodyP, bodyI, startE, startI, sSeq, sRet, sAsg, sExp, sIfS, sNx, sV, sB, sC, PD.s2, toT, sTr, truth, bne_dec, sChain, sAnd, sOr, sNot, sIf, tAnd', tOr', tNot', sNil, sCons, sCall, allD, sN, allR, PD.res, sTup, sLst, sFr, gN, gT, gsNil, gsCons, sIsi, tyName, isSub, sOrE, sM1, sM1T, ST.fAdd_int, fSub, fLe, fLt, fGt, fGe, eq_int, ne_int, cont?, setCont, List.replicate, fLen, sOwn, sApp, PD.sCallI, x0, nin]; try exact rfl))
end
end ST
/-! frozen maps: how far -/
namespace ST
open PySem PD
/-! ### the places on an arm, as a number's bits -/
def plM (n k : Nat) : List Nat := (List.range n).filter fun i => k.testBit i
def dif (i j : Nat) : Nat := (i - j) + (j - i)
def adP (p q : List Nat) : Nat := ((p.zip q).map fun z => dif z.1 z.2).sum
theorem fin_move : ∀ n ∈ [1, 2, 3, 4], ∀ x ∈ List.range 16, ∀ y ∈ List.range 16, ∀ j ∈ List.range n, (decide ((plM n x).length = (plM n y).length) && (decide (j + 1 < n) && (x.testBit j && !x.testBit (j + 1)))) = true →
    adP (plM n x) (plM n y) ≤ adP (plM n (x + 2 ^ j)) (plM n y) + 1 ∧ adP (plM n (x + 2 ^ j)) (plM n y) ≤ adP (plM n x) (plM n y) + 1 ∧ (plM n (x + 2 ^ j)).length = (plM n x).length ∧ ∀ i ∈ List.range n, (x + 2 ^ j).testBit i = (if i = j then false else if i = j + 1 then true else x.testBit i) := by decide +kernel
theorem fin_near : ∀ n ∈ [1, 2, 3, 4], ∀ x ∈ List.range (2 ^ n), ∀ y ∈ List.range (2 ^ n), (decide ((plM n x).length = (plM n y).length) && !decide (x = y)) = true →
    (List.range n).any (fun j => decide (j + 1 < n) && ((x.testBit j && (!x.testBit (j + 1) && decide (adP (plM n (x + 2 ^ j)) (plM n y) + 1 = adP (plM n x) (plM n y)))) || (!x.testBit j && (x.testBit (j + 1) && decide (adP (plM n (x - 2 ^ j)) (plM n y) + 1 = adP (plM n x) (plM n y)))))) = true := by decide +kernel
theorem fin_same : ∀ n ∈ [1, 2, 3, 4], ∀ x ∈ List.range (2 ^ n), adP (plM n x) (plM n x) = 0 := by decide +kernel
theorem fin_bits : ∀ n ∈ [1, 2, 3, 4], ∀ u ∈ List.range (2 ^ n), ∀ v ∈ List.range (2 ^ n), ∀ j ∈ List.range n, (decide (j + 1 < n) && (u.testBit j && (!u.testBit (j + 1) && (!v.testBit j && (v.testBit (j + 1) && (List.range n).all fun i => decide (i = j) || (decide (i = j + 1) || u.testBit i == v.testBit i)))))) = true → v = u + 2 ^ j := by decide +kernel
theorem mask_of (p : List Nat) : ∀ n : Nat, ∃ x, x < 2 ^ n ∧ ∀ i, i < n → x.testBit i = decide (i ∈ p)
  | 0 => ⟨0, by simp, fun i hi => by omega⟩
  | n + 1 => by
    obtain ⟨x, hx, h⟩ := mask_of p n
    by_cases hn : n ∈ p
    · refine ⟨2 ^ n + x, by rw [Nat.pow_succ]; omega, fun i hi => ?_⟩
      by_cases z : i < n
      · rw [Nat.testBit_two_pow_add_gt z, h i z]
      · obtain rfl : i = n := by omega
        rw [Nat.testBit_two_pow_add_eq, Nat.testBit_lt_two_pow hx, decide_eq_true hn]
        rfl
    · refine ⟨x, by rw [Nat.pow_succ]; omega, fun i hi => ?_⟩
      by_cases z : i < n
      · exact h i z
      · obtain rfl : i = n := by omega
        rw [Nat.testBit_lt_two_pow hx, decide_eq_false hn]
theorem plM_asc (n k : Nat) : (plM n k).Pairwise (· < ·) := List.Pairwise.filter _ List.pairwise_lt_range
theorem mem_plM {n k i : Nat} : i ∈ plM n k ↔ i < n ∧ k.testBit i = true := by
  unfold plM
  rw [List.mem_filter, List.mem_range]
theorem plM_of {p : List Nat} {n x : Nat} (up : p.Pairwise (· < ·)) (h : ∀ i, i ∈ p ↔ i < n ∧ x.testBit i = true) : p = plM n x :=
  asc_eq up (plM_asc n x) fun v => by rw [h v, mem_plM]
theorem plM_ex {p : List Nat} {n : Nat} (up : p.Pairwise (· < ·)) (lt : ∀ i ∈ p, i < n) : ∃ x, x < 2 ^ n ∧ p = plM n x := by
  obtain ⟨x, hx, h⟩ := mask_of p n
  refine ⟨x, hx, plM_of up fun i => ⟨fun hi => ⟨lt i hi, by rw [h i (lt i hi)]; exact decide_eq_true hi⟩, fun ⟨h1, h2⟩ => ?_⟩⟩
  rw [h i h1] at h2
  exact of_decide_eq_true h2
theorem sum_change {f g : Nat → Nat} {k : Nat} (hk : f k ≤ g k + 1) (h : ∀ i, i ≠ k → f i = g i) : ∀ a : Nat, ((List.range a).map f).sum ≤ ((List.range a).map g).sum + 1 ∧ (a ≤ k → ((List.range a).map f).sum = ((List.range a).map g).sum)
  | 0 => by simp
  | a + 1 => by
    obtain ⟨h1, h2⟩ := sum_change hk h a
    rw [List.range_succ, List.map_append, List.map_append, List.sum_append, List.sum_append]
    simp only [List.map_cons, List.map_nil, List.sum_cons, List.sum_nil, Nat.add_zero]
    by_cases z : a = k
    · have := h2 (by omega)
      rw [z] at *
      exact ⟨by omega, fun q => by omega⟩
    · have e := h a z
      exact ⟨by omega, fun q => by have := h2 (by omega); omega⟩
theorem sum_less {f g : Nat → Nat} {k : Nat} (hk : f k + 1 = g k) (h : ∀ i, i ≠ k → f i = g i) : ∀ a : Nat, (a ≤ k → ((List.range a).map f).sum = ((List.range a).map g).sum) ∧ (k < a → ((List.range a).map f).sum + 1 = ((List.range a).map g).sum)
  | 0 => ⟨fun _ => rfl, fun z => by omega⟩
  | a + 1 => by
    obtain ⟨h1, h2⟩ := sum_less hk h a
    rw [List.range_succ, List.map_append, List.map_append, List.sum_append, List.sum_append]
    simp only [List.map_cons, List.map_nil, List.sum_cons, List.sum_nil, Nat.add_zero]
    by_cases z : a = k
    · have := h1 (by omega)
      rw [z] at *
      exact ⟨fun q => by omega, fun q => by omega⟩
    · have e := h a z
      exact ⟨fun q => by have := h1 (by omega); omega, fun q => by have := h2 (by omega); omega⟩
section
variable {a n m : Nat} {cells c0 c1 : List Nat}
def plK (n : Nat) (c : List Nat) (k : Nat) : List Nat := spo (ca c 0) 0 (armOf n c k)
def fdN (a n : Nat) (c o : List Nat) : Nat := ((List.range a).map fun k => adP (plK n c k) (plK n o k)).sum
theorem plK_mem (V : Valid a n m cells) {k j : Nat} (hk : k < a) : j ∈ plK n cells k ↔ j < n ∧ ca cells (1 + k * n + j) ≠ ca cells (inner n (1 + k * n + j)) := by
  unfold plK
  rw [mem_spo, armOf_len V hk]
  have at_ : ∀ i, i < n → (armOf n cells k).getD i 0 = ca cells (1 + k * n + i) := fun i hi => by
    rw [List.getD_eq_getElem?_getD, armOf_get V hk hi]
    rfl
  have bef : ∀ i, i < n → (ca cells 0 :: armOf n cells k).getD i 0 = ca cells (inner n (1 + k * n + i)) := fun i hi => by
    rw [inner_pl hi]
    cases i with
    | zero => rfl
    | succ i =>
      rw [if_neg (by omega)]
      show (armOf n cells k).getD i 0 = _
      rw [at_ i (by omega)]
      congr 1
  constructor
  · rintro ⟨i, rfl, hi, h⟩
    rw [Nat.zero_add]
    rw [at_ i hi, bef i hi] at h
    exact ⟨hi, h⟩
  · rintro ⟨hi, h⟩
    refine ⟨j, by omega, hi, ?_⟩
    rw [at_ j hi, bef j hi]
    exact h
theorem plK_asc (k : Nat) : (plK n cells k).Pairwise (· < ·) := spo_up _ _ _
theorem plK_mask (V : Valid a n m cells) {k : Nat} (hk : k < a) : ∃ x, x < 2 ^ n ∧ plK n cells k = plM n x := plM_ex (plK_asc k) fun i hi => ((plK_mem V hk).mp hi).1
theorem pow16 (hn : 1 ≤ n ∧ n ≤ 4) : 2 ^ n ≤ 16 := Nat.pow_le_pow_right (n := 2) (by omega) hn.2
/-- a taking away from the hub moves one border by one place -/
theorem arm_step (V : Valid a n m cells) {t : Nat × Nat} (ht : t ∈ tkL a n cells) (h0 : t.2 ≠ 0) : ∃ k j, k < a ∧ j + 1 < n ∧ t.2 = 1 + k * n + j ∧ (∀ i, i < a → i ≠ k → plK n (step cells t) i = plK n cells i) ∧
    ∃ x, x < 16 ∧ x.testBit j = true ∧ x.testBit (j + 1) = false ∧ x + 2 ^ j < 2 ^ n ∧ ((plK n cells k = plM n x ∧ plK n (step cells t) k = plM n (x + 2 ^ j)) ∨ (plK n cells k = plM n (x + 2 ^ j) ∧ plK n (step cells t) k = plM n x)) := by
  obtain ⟨h1, h2, h3⟩ := (tkL_mem V).mp ht
  obtain ⟨l, c⟩ := t
  dsimp only at h0 h1 h2 h3 ⊢
  have Vs : Valid a n m (cells.set c l) := V.step h2 h3
  obtain ⟨p1, p2, p3, p4, p5⟩ := fin_place a V.a_mem n V.n_mem c (V.c_mem h2) h0
  obtain ⟨m1, m2⟩ := V.mid h2 h0 h3
  obtain ⟨k, hk⟩ : ∃ k, k = (c - 1) / n := ⟨_, rfl⟩
  obtain ⟨j, hj⟩ : ∃ j, j = (c - 1) % n := ⟨_, rfl⟩
  rw [← hk] at p1
  rw [← hj] at p2
  rw [← hk, ← hj] at p3
  have hj1 : j + 1 < n := by
    have : ¬ (c - 1) % n = n - 1 := fun z => m1 (p4.mpr z)
    omega
  have ic : inner n c < c := inner_lt (by omega)
  have ec : c = 1 + k * n + j := p3.symm
  have ne : l ≠ ca cells c := (ok_iff h3).1
  have sca : ∀ x, ca (cells.set c l) x = if x = c then l else ca cells x := fun x => ca_set h2
  have ie : inner n (1 + k * n + (j + 1)) = c := by rw [inner_pl hj1, if_neg (by omega)]; omega
  have oth : ∀ i, i < a → i ≠ k → plK n (cells.set c l) i = plK n cells i := fun i hi z => by
    refine asc_eq (plK_asc i) (plK_asc i) fun v => ?_
    rw [plK_mem Vs hi, plK_mem V hi]
    constructor
    · rintro ⟨q1, q2⟩
      refine ⟨q1, ?_⟩
      have e1 : 1 + i * n + v ≠ c := fun e => z (place_one q1 p2 (e.trans ec)).1
      have e2 : inner n (1 + i * n + v) ≠ c := fun e => by
        rw [inner_pl q1] at e
        split at e
        · omega
        · exact z (place_one (by omega) p2 (e.trans ec)).1
      rw [sca, sca, if_neg e1, if_neg e2] at q2
      exact q2
    · rintro ⟨q1, q2⟩
      refine ⟨q1, ?_⟩
      have e1 : 1 + i * n + v ≠ c := fun e => z (place_one q1 p2 (e.trans ec)).1
      have e2 : inner n (1 + i * n + v) ≠ c := fun e => by
        rw [inner_pl q1] at e
        split at e
        · omega
        · exact z (place_one (by omega) p2 (e.trans ec)).1
      rw [sca, sca, if_neg e1, if_neg e2]
      exact q2
  -- the arm itself
  have mem' : ∀ v, v < n → (v ∈ plK n (cells.set c l) k ↔ if v = j then l ≠ ca cells (inner n c) else if v = j + 1 then ca cells (c + 1) ≠ l else v ∈ plK n cells k) := fun v hv => by
    rw [plK_mem Vs p1]
    by_cases z : v = j
    · subst z
      rw [if_pos rfl, ← ec, sca, sca, if_pos rfl, if_neg (Nat.ne_of_lt ic)]
      exact ⟨fun q => q.2, fun q => ⟨hv, q⟩⟩
    · rw [if_neg z]
      by_cases y : v = j + 1
      · subst y
        rw [if_pos rfl, ie, sca, sca, if_neg (by omega), if_pos rfl, show 1 + k * n + (j + 1) = c + 1 by omega]
        exact ⟨fun q => q.2, fun q => ⟨hv, q⟩⟩
      · rw [if_neg y, plK_mem V p1]
        have e1 : 1 + k * n + v ≠ c := by omega
        have e2 : inner n (1 + k * n + v) ≠ c := fun e => by
          rw [inner_pl hv] at e
          split at e <;> omega
        rw [sca, sca, if_neg e1, if_neg e2]
  have memJ : j ∈ plK n cells k ↔ ca cells c ≠ ca cells (inner n c) := by
    rw [plK_mem V p1, ← ec]
    exact ⟨fun q => q.2, fun q => ⟨p2, q⟩⟩
  have memJ1 : j + 1 ∈ plK n cells k ↔ ca cells (c + 1) ≠ ca cells c := by
    rw [plK_mem V p1, ie, show 1 + k * n + (j + 1) = c + 1 by omega]
    exact ⟨fun q => q.2, fun q => ⟨hj1, q⟩⟩
  obtain ⟨x, hx, ex⟩ := plK_mask V p1
  obtain ⟨y, hy, ey⟩ := plK_mask Vs p1
  have p16 := pow16 V.hn
  have bx : ∀ v, v < n → (x.testBit v = true ↔ v ∈ plK n cells k) := fun v hv => by rw [ex, mem_plM]; exact ⟨fun q => ⟨hv, q⟩, fun q => q.2⟩
  have by_ : ∀ v, v < n → (y.testBit v = true ↔ v ∈ plK n (cells.set c l) k) := fun v hv => by rw [ey, mem_plM]; exact ⟨fun q => ⟨hv, q⟩, fun q => q.2⟩
  refine ⟨k, j, p1, hj1, ec, oth, ?_⟩
  have mv : ∀ u v : Nat, u < 2 ^ n → v < 2 ^ n → u.testBit j = true → u.testBit (j + 1) = false → v.testBit j = false → v.testBit (j + 1) = true → (∀ i, i < n → i ≠ j → i ≠ j + 1 → u.testBit i = v.testBit i) → v = u + 2 ^ j := fun u v hu hv u1 u2 v1 v2 uv => by
    refine fin_bits n V.n_mem u (List.mem_range.mpr hu) v (List.mem_range.mpr hv) j (List.mem_range.mpr (by omega)) ?_
    rw [u1, u2, v1, v2, decide_eq_true hj1]
    simp only [Bool.true_and, Bool.not_false]
    refine List.all_eq_true.mpr fun i hi => ?_
    have hi := List.mem_range.mp hi
    by_cases z : i = j
    · rw [decide_eq_true z]; rfl
    · by_cases z2 : i = j + 1
      · rw [decide_eq_true z2, Bool.true_or, Bool.or_true]
      · rw [uv i hi z z2]
        simp
  have same : ∀ i, i < n → i ≠ j → i ≠ j + 1 → x.testBit i = y.testBit i := fun i hi z z2 => by
    have e1 := bx i hi
    have e2 := by_ i hi
    rw [mem' i hi, if_neg z, if_neg z2, ← e1] at e2
    cases q : x.testBit i <;> cases q2 : y.testBit i <;> rw [q, q2] at e2 <;> simp at e2 ⊢
  rcases m2 with ⟨q1, q2⟩ | ⟨q1, q2⟩
  · have xj : x.testBit j = true := (bx j p2).mpr (memJ.mpr fun z => ne (by rw [← q1, z]))
    have xj1 : x.testBit (j + 1) = false := by
      cases z : x.testBit (j + 1) with
      | false => rfl
      | true => exact absurd q2 (memJ1.mp ((bx (j + 1) hj1).mp z))
    have yj : y.testBit j = false := by
      cases z : y.testBit j with
      | false => rfl
      | true =>
        have := (by_ j p2).mp z
        rw [mem' j p2, if_pos rfl] at this
        exact absurd q1.symm this
    have yj1 : y.testBit (j + 1) = true := by
      refine (by_ (j + 1) hj1).mpr ?_
      rw [mem' (j + 1) hj1, if_neg (by omega), if_pos rfl, q2]
      exact fun z => ne z.symm
    have e := mv x y hx hy xj xj1 yj yj1 same
    exact ⟨x, by omega, xj, xj1, by rw [← e]; exact hy, .inl ⟨ex, by rw [← e]; exact ey⟩⟩
  · have xj : x.testBit j = false := by
      cases z : x.testBit j with
      | false => rfl
      | true => exact absurd q1.symm (memJ.mp ((bx j p2).mp z))
    have xj1 : x.testBit (j + 1) = true := (bx (j + 1) hj1).mpr (memJ1.mpr (by rw [q2]; exact ne))
    have yj : y.testBit j = true := by
      refine (by_ j p2).mpr ?_
      rw [mem' j p2, if_pos rfl, q1]
      exact ne
    have yj1 : y.testBit (j + 1) = false := by
      cases z : y.testBit (j + 1) with
      | false => rfl
      | true =>
        have := (by_ (j + 1) hj1).mp z
        rw [mem' (j + 1) hj1, if_neg (by omega), if_pos rfl] at this
        exact absurd q2 this
    have e := mv y x hy hx yj yj1 xj xj1 fun i hi z z2 => (same i hi z z2).symm
    exact ⟨y, by omega, yj, yj1, by rw [← e]; exact hx, .inr ⟨by rw [← e]; exact ex, ey⟩⟩
/-- what of a frozen map stays: the hub's land and the orders; so the numbers of places -/
structure Frz (a n : Nat) (c o : List Nat) : Prop where
  hub : ca c 0 = ca o 0
  od : ords a n c = ords a n o
theorem Frz.len (h : Frz a n c0 c1) {k : Nat} (hk : k < a) : (plK n c0 k).length = (plK n c1 k).length := by
  have e : gR (ords a n c0) k = gR (ords a n c1) k := by rw [h.od]
  unfold ords at e
  rw [gR_range hk, gR_range hk] at e
  unfold plK
  rw [spo_len, spo_len]
  show (ordOf n c0 k).length = (ordOf n c1 k).length
  rw [e]
theorem Frz.step (V : Valid a n m cells) (hf : 2 ≤ bare a n cells) {t : Nat × Nat} (ht : t ∈ tkL a n cells) : t.2 ≠ 0 ∧ Frz a n (step cells t) cells ∧ 2 ≤ bare a n (step cells t) := by
  obtain ⟨h1, h2, h3⟩ := (tkL_mem V).mp ht
  obtain ⟨q1, q2, q3⟩ := V.froz_step h2 h3 hf
  refine ⟨q1, ⟨?_, q2⟩, q3⟩
  show ca (cells.set t.2 t.1) 0 = ca cells 0
  rw [ca_set h2, if_neg (Ne.symm q1)]
theorem Frz.trans {c2 : List Nat} (h : Frz a n c0 c1) (k : Frz a n c1 c2) : Frz a n c0 c2 := ⟨h.hub.trans k.hub, h.od.trans k.od⟩
theorem fd_step (V : Valid a n m cells) (V1 : Valid a n m c1) (F : Frz a n cells c1) (hf : 2 ≤ bare a n cells) {t : Nat × Nat} (ht : t ∈ tkL a n cells) : fdN a n cells c1 ≤ fdN a n (step cells t) c1 + 1 := by
  obtain ⟨h0, Fs, _⟩ := Frz.step V hf ht
  obtain ⟨k, j, hk, hj, ec, oth, x, hx, xj, xj1, hx2, h⟩ := arm_step V ht h0
  have p16 := pow16 V.hn
  obtain ⟨y, hy, ey⟩ := plK_mask V1 hk
  have l0 := F.len hk
  have l1 := (Fs.trans F).len hk
  have one : ∀ i, i ≠ k → i < a → adP (plK n cells i) (plK n c1 i) = adP (plK n (step cells t) i) (plK n c1 i) := fun i z hi => by rw [oth i hi z]
  have here : adP (plK n cells k) (plK n c1 k) ≤ adP (plK n (step cells t) k) (plK n c1 k) + 1 := by
    rcases h with ⟨e1, e2⟩ | ⟨e1, e2⟩
    · rw [e1, ey] at l0
      have := fin_move n V.n_mem x (List.mem_range.mpr hx) y (List.mem_range.mpr (by omega)) j (List.mem_range.mpr (by omega)) (by rw [xj, xj1, decide_eq_true l0, decide_eq_true hj]; rfl)
      rw [e1, e2, ey]
      exact this.1
    · rw [e2, ey] at l1
      have := fin_move n V.n_mem x (List.mem_range.mpr hx) y (List.mem_range.mpr (by omega)) j (List.mem_range.mpr (by omega)) (by rw [xj, xj1, decide_eq_true l1, decide_eq_true hj]; rfl)
      rw [e1, e2, ey]
      exact this.2.1
  have := sum_change (f := fun i => if i < a then adP (plK n cells i) (plK n c1 i) else 0) (g := fun i => if i < a then adP (plK n (step cells t) i) (plK n c1 i) else 0) (k := k) (by rw [if_pos hk, if_pos hk]; exact here) (fun i z => by
    by_cases hi : i < a
    · rw [if_pos hi, if_pos hi, one i z hi]
    · rw [if_neg hi, if_neg hi]) a
  have e1 : ∀ c : List Nat, ((List.range a).map fun i => if i < a then adP (plK n c i) (plK n c1 i) else 0) = (List.range a).map fun i => adP (plK n c i) (plK n c1 i) := fun c => List.map_congr_left fun i hi => if_pos (List.mem_range.mp hi)
  rw [e1, e1] at this
  exact this.1
theorem fd_zero (V : Valid a n m cells) (V1 : Valid a n m c1) (F : Frz a n cells c1) (h : ∀ k, k < a → plK n cells k = plK n c1 k) : cells = c1 := by
  have e : plc a n cells = plc a n c1 := List.map_congr_left fun k hk => h k (List.mem_range.mp hk)
  have r0 := own_rows V
  have r1 := own_rows V1
  rw [F.hub, F.od, e, r1] at r0
  rw [← map_rws V, ← map_rws V1, F.hub, r0]
end
end ST
/-! frozen maps: a taking that brings nearer; the distance -/
namespace ST
open PySem PD
theorem fin_inj : ∀ n ∈ [1, 2, 3, 4], ∀ x ∈ List.range (2 ^ n), ∀ y ∈ List.range (2 ^ n), plM n x = plM n y → x = y := by decide +kernel
section
variable {a n m : Nat} {cells c0 c1 : List Nat}
theorem nbr_mid {c : Nat} (h0 : c ≠ 0) (h1 : c % n ≠ 0) : nbr a n c = [inner n c, c + 1] := by
  unfold nbr
  rw [if_neg h0, if_neg h1]
theorem fd_near (V : Valid a n m cells) (V1 : Valid a n m c1) (F : Frz a n cells c1) (hf : 2 ≤ bare a n cells) (ne : cells ≠ c1) : ∃ t ∈ tkL a n cells, fdN a n (step cells t) c1 + 1 = fdN a n cells c1 := by
  obtain ⟨k, hk, dk⟩ : ∃ k, k < a ∧ plK n cells k ≠ plK n c1 k := by
    apply Classical.byContradiction
    intro z
    exact ne (fd_zero V V1 F fun k hk => Classical.byContradiction fun q => z ⟨k, hk, q⟩)
  obtain ⟨x, hx, ex⟩ := plK_mask V hk
  obtain ⟨y, hy, ey⟩ := plK_mask V1 hk
  have p16 := pow16 V.hn
  have l0 := F.len hk
  rw [ex, ey] at l0 dk
  have xy : ¬ x = y := fun z => dk (by rw [z])
  have fn := fin_near n V.n_mem x (List.mem_range.mpr hx) y (List.mem_range.mpr hy) (by rw [decide_eq_true l0, decide_eq_false xy]; rfl)
  obtain ⟨j, hj, fn⟩ := List.any_eq_true.mp fn
  have hj := List.mem_range.mp hj
  simp only [Bool.and_eq_true, Bool.or_eq_true, decide_eq_true_eq, Bool.not_eq_true'] at fn
  obtain ⟨hj1, fn⟩ := fn
  obtain ⟨c, hc⟩ : ∃ c, c = 1 + k * n + j := ⟨_, rfl⟩
  have cl : c < cells.length := by
    rw [V.len, hc]
    have : (k + 1) * n ≤ a * n := Nat.mul_le_mul_right n hk
    rw [Nat.add_mul] at this
    omega
  have c1l : c + 1 < cells.length := by
    rw [V.len, hc]
    have : (k + 1) * n ≤ a * n := Nat.mul_le_mul_right n hk
    rw [Nat.add_mul] at this
    omega
  have c0 : c ≠ 0 := by omega
  have cm : c % n ≠ 0 := fun z => by
    obtain ⟨p1, p2, p3, p4, _⟩ := fin_place a V.a_mem n V.n_mem c (V.c_mem cl) c0
    have e := place_one (n := n) hj p2 (by rw [p3]; exact hc.symm)
    have := p4.mp z
    omega
  have nb := nbr_mid (a := a) c0 cm
  have ic : inner n c < c := inner_lt (by omega)
  have memJ : j ∈ plM n x ↔ ca cells c ≠ ca cells (inner n c) := by
    rw [← ex, plK_mem V hk, ← hc]
    exact ⟨fun q => q.2, fun q => ⟨hj, q⟩⟩
  have memJ1 : j + 1 ∈ plM n x ↔ ca cells (c + 1) ≠ ca cells c := by
    rw [← ex, plK_mem V hk, inner_pl hj1, if_neg (by omega), show 1 + k * n + (j + 1) = c + 1 by omega, show 1 + k * n + (j + 1 - 1) = c by omega]
    exact ⟨fun q => q.2, fun q => ⟨hj1, q⟩⟩
  have rest : ∀ t ∈ tkL a n cells, t.2 = c → adP (plK n (step cells t) k) (plK n c1 k) + 1 = adP (plK n cells k) (plK n c1 k) → fdN a n (step cells t) c1 + 1 = fdN a n cells c1 := fun t ht tc here => by
    obtain ⟨k', j', hk', hj', ec, oth, _⟩ := arm_step V ht (by rw [tc]; exact c0)
    have e := (place_one (n := n) hj (by omega : j' < n) (by rw [← hc, ← tc, ec])).1
    subst e
    have := (sum_less (f := fun i => if i < a then adP (plK n (step cells t) i) (plK n c1 i) else 0) (g := fun i => if i < a then adP (plK n cells i) (plK n c1 i) else 0) (k := k) (by rw [if_pos hk, if_pos hk]; exact here) (fun i z => by
      by_cases hi : i < a
      · rw [if_pos hi, if_pos hi, oth i hi z]
      · rw [if_neg hi, if_neg hi]) a).2 hk
    have e1 : ∀ c : List Nat, ((List.range a).map fun i => if i < a then adP (plK n c i) (plK n c1 i) else 0) = (List.range a).map fun i => adP (plK n c i) (plK n c1 i) := fun c => List.map_congr_left fun i hi => if_pos (List.mem_range.mp hi)
    rw [e1, e1] at this
    exact this
  rcases fn with ⟨b1, b2, b3⟩ | ⟨b1, b2, b3⟩
  · -- outward
    have q1 := memJ.mp (mem_plM.mpr ⟨hj, b1⟩)
    have q2 : ca cells (c + 1) = ca cells c := Classical.byContradiction fun z => by
      have := (mem_plM.mp (memJ1.mpr z)).2
      rw [b2] at this
      cases this
    have ht : (ca cells (inner n c), c) ∈ tkL a n cells := by
      refine (tkL_mem V).mpr ⟨V.lt _ (ca_mem (by omega)), cl, ?_⟩
      show canMk (nbr a n c) cells (ca cells (inner n c)) c = true
      rw [nb]
      unfold canMk near
      simp only [List.map_cons, List.map_nil, q2, Bool.and_eq_true, decide_eq_true_eq]
      refine ⟨fun z => q1 z.symm, List.mem_cons_self .., ?_⟩
      rw [List.count_cons, List.count_cons, List.count_nil]
      have q1' : ¬ ca cells (inner n c) = ca cells c := fun z => q1 z.symm
      simp [q1']
    refine ⟨_, ht, rest _ ht rfl ?_⟩
    obtain ⟨k', j', hk', hj', ec, oth, x', hx', xj, xj1, hx2, h⟩ := arm_step V ht c0
    obtain ⟨e, e'⟩ := place_one (n := n) hj (by omega : j' < n) (by rw [← hc]; exact ec)
    subst e
    subst e'
    rcases h with ⟨e1, e2⟩ | ⟨e1, e2⟩
    · have z : x = x' := fin_inj n V.n_mem x (List.mem_range.mpr hx) x' (List.mem_range.mpr (Nat.lt_of_le_of_lt (Nat.le_add_right _ _) hx2)) (by rw [← ex, e1])
      rw [e1, e2, ey, ← z]
      exact b3
    · have z : x = x' + 2 ^ j := fin_inj n V.n_mem x (List.mem_range.mpr hx) (x' + 2 ^ j) (List.mem_range.mpr hx2) (by rw [← ex, e1])
      have := fin_move n V.n_mem x' (List.mem_range.mpr hx') x' (List.mem_range.mpr hx') j (List.mem_range.mpr hj) (by rw [xj, xj1, decide_eq_true hj1]; simp)
      have b := this.2.2.2 j (List.mem_range.mpr hj)
      rw [if_pos rfl, ← z, b1] at b
      cases b
  · -- inward
    have q1 : ca cells c = ca cells (inner n c) := Classical.byContradiction fun z => by
      have := (mem_plM.mp (memJ.mpr z)).2
      rw [b1] at this
      cases this
    have q2 := memJ1.mp (mem_plM.mpr ⟨hj1, b2⟩)
    have ht : (ca cells (c + 1), c) ∈ tkL a n cells := by
      refine (tkL_mem V).mpr ⟨V.lt _ (ca_mem c1l), cl, ?_⟩
      show canMk (nbr a n c) cells (ca cells (c + 1)) c = true
      rw [nb]
      unfold canMk near
      simp only [List.map_cons, List.map_nil, ← q1, Bool.and_eq_true, decide_eq_true_eq]
      refine ⟨q2, List.mem_cons_of_mem _ (List.mem_cons_self ..), ?_⟩
      rw [List.count_cons, List.count_cons, List.count_nil]
      simp [q2]
    refine ⟨_, ht, rest _ ht rfl ?_⟩
    obtain ⟨k', j', hk', hj', ec, oth, x', hx', xj, xj1, hx2, h⟩ := arm_step V ht c0
    obtain ⟨e, e'⟩ := place_one (n := n) hj (by omega : j' < n) (by rw [← hc]; exact ec)
    subst e
    subst e'
    rcases h with ⟨e1, e2⟩ | ⟨e1, e2⟩
    · have z : x = x' := fin_inj n V.n_mem x (List.mem_range.mpr hx) x' (List.mem_range.mpr (Nat.lt_of_le_of_lt (Nat.le_add_right _ _) hx2)) (by rw [← ex, e1])
      rw [z, xj] at b1
      cases b1
    · have z : x = x' + 2 ^ j := fin_inj n V.n_mem x (List.mem_range.mpr hx) (x' + 2 ^ j) (List.mem_range.mpr hx2) (by rw [← ex, e1])
      have z2 : x' = x - 2 ^ j := by omega
      rw [e1, e2, ey, ← z, z2]
      exact b3
theorem fd_self (V : Valid a n m cells) : fdN a n cells cells = 0 := by
  unfold fdN
  have : (List.range a).map (fun k => adP (plK n cells k) (plK n cells k)) = (List.range a).map fun _ => 0 := List.map_congr_left fun k hk => by
    obtain ⟨x, hx, ex⟩ := plK_mask V (List.mem_range.mp hk)
    rw [ex]
    exact fin_same n V.n_mem x (List.mem_range.mpr hx)
  rw [this]
  exact sum_zero a
theorem fd_le (V1 : Valid a n m c1) : ∀ (d : Nat) {c : List Nat}, Valid a n m c → Frz a n c c1 → 2 ≤ bare a n c → Rj (tkL a n) c d c1 → fdN a n c c1 ≤ d
  | 0, c, V, F, hf, h => by rw [show c1 = c from h, fd_self V]; exact Nat.le_refl _
  | d + 1, c, V, F, hf, h => by
    -- the first taking
    have back := RjA.back V h
    obtain ⟨b, hb, t, ht, e⟩ := back
    have Vb := RjA.valid V1 hb
    obtain ⟨u, hu, e2⟩ := step_back Vb ht
    rw [e] at hu e2
    obtain ⟨_, Fs, hf2⟩ := Frz.step V hf hu
    rw [e2] at Fs hf2
    have ih := fd_le V1 d Vb (Fs.trans F) hf2 (RjA.back V1 hb)
    have := fd_step V V1 F hf hu
    rw [e2] at this
    omega
theorem fd_ge (V1 : Valid a n m c1) : ∀ (d : Nat) {c : List Nat}, Valid a n m c → Frz a n c c1 → 2 ≤ bare a n c → fdN a n c c1 = d → Rj (tkL a n) c d c1
  | 0, c, V, F, hf, h => by
    by_cases z : c = c1
    · rw [z]; rfl
    · obtain ⟨t, _, e⟩ := fd_near V V1 F hf z
      omega
  | d + 1, c, V, F, hf, h => by
    have ne : c ≠ c1 := fun z => by rw [z, fd_self V1] at h; cases h
    obtain ⟨t, ht, e⟩ := fd_near V V1 F hf ne
    obtain ⟨_, Fs, hf2⟩ := Frz.step V hf ht
    have ih := fd_ge V1 d (tkL_step V ht).2 (Fs.trans F) hf2 (by omega)
    have h1 : Rj (tkL a n) c 1 (step c t) := ⟨c, rfl, t, ht, rfl⟩
    have := Rj.app h1 ih
    rw [Nat.add_comm] at this
    exact this
/-- the distance of frozen maps of one class -/
theorem fd_dist (V : Valid a n m c0) (V1 : Valid a n m c1) (F : Frz a n c0 c1) (hf : 2 ≤ bare a n c0) : DsA a n c0 c1 (fdN a n c0 c1) :=
  ⟨fd_ge V1 _ V F hf rfl, fun j hj k => by have := fd_le V1 j V F hf k; omega⟩
end
end ST
/-! shows_fewest, farthest, frozen_distance -/
namespace ST
open PySem PD
theorem foldl_maxI : ∀ (r : List Int) (b : Int), b ≤ r.foldl max b ∧ ∀ j ∈ r, j ≤ r.foldl max b
  | [], b => ⟨Int.le_refl _, fun j h => by cases h⟩
  | x :: r, b => by
    obtain ⟨h1, h2⟩ := foldl_maxI r (max b x)
    rw [List.foldl_cons]
    refine ⟨by omega, fun j hj => ?_⟩
    rcases List.mem_cons.mp hj with rfl | hj
    · omega
    · exact h2 j hj
theorem mxI_ge {is : List Int} {j : Int} (h : j ∈ is) : j ≤ mxI is := by
  cases is with
  | nil => cases h
  | cons x r =>
    obtain ⟨h1, h2⟩ := foldl_maxI r x
    rcases List.mem_cons.mp h with rfl | h
    · exact h1
    · exact h2 j h
theorem maxV_D {D : Dn} (ne : D ≠ []) : ∃ M : Nat, fMaxV (.dict (dD D)) = some (iN M) ∧ ∀ c e, (c, e) ∈ D → e ≤ M := by
  have e1 : (dD D).map (·.2) = (D.map (·.2)).map iN := by
    unfold dD
    rw [List.map_map, List.map_map]
    rfl
  have e2 := intsOf_nat (D.map (·.2))
  obtain ⟨is, his⟩ : ∃ is, is = (D.map (·.2)).map fun (n : Nat) => (n : Int) := ⟨_, rfl⟩
  rw [← his] at e2
  have nn : is ≠ [] := fun z => ne (by
    have := congrArg List.length (his.symm.trans z)
    simpa using this)
  have ge : ∀ c e, (c, e) ∈ D → (e : Int) ≤ mxI is := fun c e h => mxI_ge (by
    rw [his]
    exact List.mem_map.mpr ⟨e, List.mem_map.mpr ⟨_, h, rfl⟩, rfl⟩)
  have pos : 0 ≤ mxI is := by
    obtain ⟨x, hx⟩ := List.exists_mem_of_ne_nil _ ne
    have := ge x.1 x.2 hx
    omega
  refine ⟨(mxI is).toNat, ?_, fun c e h => by have := ge c e h; omega⟩
  show (match intsOf ((dD D).map (·.2)) with | some (i :: is) => some (PyData.int (mxI (i :: is))) | _ => none) = _
  rw [e1, e2]
  cases is with
  | nil => exact absurd rfl nn
  | cons x r =>
    show some (PyData.int (mxI (x :: r))) = some (.int ((mxI (x :: r)).toNat : Int))
    rw [Int.toNat_of_nonneg pos]
section
variable {a n m : Nat} {cells c0 c1 : List Nat}
theorem farthest_ge (hn : n ≤ 3) (V0 : Valid a n m c0) : ∃ M : Nat, p_farthest [ch a c0] = some (iN M) ∧ ∀ c e, DsA a n c0 c e → e ≤ M := by
  have q1 := V0.check
  obtain ⟨D, q2, F⟩ := steps_from hn V0
  have h0 : (c0, 0) ∈ D := (F.mem c0 0).mpr DsA.zero
  obtain ⟨M, q3, q4⟩ := maxV_D (D := D) (fun z => by rw [z] at h0; cases h0)
  refine ⟨M, ?_, fun c e h => q4 c e ((F.mem c e).mpr h)⟩
  obtain ⟨C, hC⟩ : ∃ Z, Z = ch a c0 := ⟨_, rfl⟩
  obtain ⟨S, hS⟩ : ∃ Z, Z = dD D := ⟨_, rfl⟩
  rw [← hC] at q1 q2
  rw [← hS] at q2 q3
  rw [← hC]
  unfold p_farthest g_farthest
  simp [bodyP, bodyI, startE, startI, sSeq, sRet, sAsg, sExp, sIfS, sNx, sV, sB, sC, PD.s2, toT, sTr, truth, bne_dec, sChain, sAnd, sOr, sNot, sIf, tAnd', tOr', tNot', sNil, sCons, sCall, allD, sN, allR, PD.res, sTup, sLst, sFr, gN, gT, gsNil, gsCons, sIsi, tyName, isSub, sOrE, sM1, sM1T, ST.fAdd_int, fSub, fLe, fLt, fGt, fGe, eq_int, ne_int, cont?, setCont, List.replicate, fLen, sOwn, sApp, q1, q2, sMaxV, q3]
theorem leads_to (V0 : Valid a n m c0) {row : List (Nat × Nat)} (h : RowOk a n m c0 row) (hr : row.length ≤ 1000) (e : cur c0 row row.length = c1) : p_leads_to [ch a c0, ch a c1, .tuple (row.map tkD)] = some (.bool true) := by
  have q1 := walked V0 h hr
  have sl := stps_len c0 row (row.length + 1)
  have q2 := (ix_end (xs := stps c0 row (row.length + 1)) (k := row.length) (v := tN c1) sl (by
    unfold stps
    rw [List.getElem?_map, List.getElem?_range (by omega)]
    show some (tN (cur c0 row row.length)) = _
    rw [e])).1
  have q3 := eq_tN c1 c1
  rw [decide_eq_true rfl] at q3
  have x1 : fIx (ch a c1) (.int 1) = some (tN c1) := rfl
  have rl : (row.map tkD).length = row.length := List.length_map ..
  obtain ⟨C, hC⟩ : ∃ Z, Z = ch a c0 := ⟨_, rfl⟩
  obtain ⟨E, hE⟩ : ∃ Z, Z = ch a c1 := ⟨_, rfl⟩
  obtain ⟨S, hS⟩ : ∃ Z, Z = stps c0 row (row.length + 1) := ⟨_, rfl⟩
  obtain ⟨R, hR⟩ : ∃ Z, Z = row.map tkD := ⟨_, rfl⟩
  obtain ⟨T, hT⟩ : ∃ Z, Z = tN c1 := ⟨_, rfl⟩
  rw [← hC, ← hR, ← hS] at q1
  rw [← hS] at sl
  rw [← hS, ← hT] at q2
  rw [← hT] at q3
  rw [← hE, ← hT] at x1
  rw [← hR] at rl
  rw [← hC, ← hE, ← hR]
  unfold p_leads_to g_leads_to
  simp [bodyP, bodyI, startE, startI, sSeq, sRet, sAsg, sExp, sIfS, sNx, sV, sB, sC, PD.s2, toT, sTr, truth, bne_dec, sChain, sAnd, sOr, sNot, sIf, tAnd', tOr', tNot', sNil, sCons, sCall, allD, sN, allR, PD.res, sTup, sLst, sFr, gN, gT, gsNil, gsCons, sIsi, tyName, isSub, sOrE, sM1, sM1T, ST.fAdd_int, fSub, fLe, fLt, fGt, fGe, eq_int, ne_int, cont?, setCont, List.replicate, fLen, sOwn, sApp, q1, sl, rl, q2, x1, q3]
theorem shows_fewest (hn : n ≤ 3) (V0 : Valid a n m c0) (V1 : Valid a n m c1) {d : Nat} (h : DsA a n c0 c1 d) {row : List (Nat × Nat)} (ok : RowOk a n m c0 row) (hl : row.length = d) (hr : d ≤ 1000) (e : cur c0 row row.length = c1) : p_shows_fewest [ch a c0, ch a c1, .tuple (row.map tkD)] = some (.bool true) := by
  have q1 := distance hn V0 V1
  rw [dsD_some h] at q1
  have q2 := leads_to V0 ok (by omega) e
  have rl : (row.map tkD).length = d := by rw [List.length_map, hl]
  obtain ⟨C, hC⟩ : ∃ Z, Z = ch a c0 := ⟨_, rfl⟩
  obtain ⟨E, hE⟩ : ∃ Z, Z = ch a c1 := ⟨_, rfl⟩
  obtain ⟨R, hR⟩ : ∃ Z, Z = row.map tkD := ⟨_, rfl⟩
  rw [← hC, ← hE] at q1 q2
  rw [← hR] at q2 rl
  rw [← hC, ← hE, ← hR]
  have i1 : fIs (iN d) .none = some (.bool false) := rfl
  unfold p_shows_fewest
  show bodyP g_shows_fewest 4 [C, E, .tuple R] = _
  refine body_rt ?_
  unfold g_shows_fewest
  show Rt _ [.dat C, .dat E, .dat (.tuple R), .un] _
  (refine ST.Rt.nx (by simp [bodyP, bodyI, startE, startI, sSeq, sRet, sAsg, sExp, sIfS, sNx, sV, sB, sC, PD.s2, toT, sTr, truth, bne_dec, sChain, sAnd, sOr, sNot, sIf, tAnd', tOr', tNot', sNil, sCons, sCall, allD, sN, allR, PD.res, sTup, sLst, sFr, gN, gT, gsNil, gsCons, sIsi, tyName, isSub, sOrE, sM1, sM1T, ST.fAdd_int, fSub, fLe, fLt, fGt, fGe, eq_int, ne_int, cont?, setCont, List.replicate, fLen, sOwn, sApp, PD.sCallI, q1]; try exact rfl) ?_)
  (refine ST.Rt.nx (by simp [bodyP, bodyI, startE, startI, sSeq, sRet, sAsg, sExp, sIfS, sNx, sV, sB, sC, PD.s2, toT, sTr, truth, bne_dec, sChain, sAnd, sOr, sNot, sIf, tAnd', tOr', tNot', sNil, sCons, sCall, allD, sN, allR, PD.res, sTup, sLst, sFr, gN, gT, gsNil, gsCons, sIsi, tyName, isSub, sOrE, sM1, sM1T, ST.fAdd_int, fSub, fLe, fLt, fGt, fGe, eq_int, ne_int, cont?, setCont, List.replicate, fLen, sOwn, sApp, PD.sCallI, i1]; try exact rfl) ?_)
  (refine ST.Rt.rt (by simp [bodyP, bodyI, startE, startI, sSeq, sRet, sAsg, sExp, sIfS, sNx, sV, sB, sC, PD.s2, toT, sTr, truth, bne_dec, sChain, sAnd, sOr, sNot, sIf, tAnd', tOr', tNot', sNil, sCons, sCall, allD, sN, allR, PD.res, sTup, sLst, sFr, gN, gT, gsNil, gsCons, sIsi, tyName, isSub, sOrE, sM1, sM1T, ST.fAdd_int, fSub, fLe, fLt, fGt, fGe, eq_int, ne_int, cont?, setCont, List.replicate, fLen, sOwn, sApp, PD.sCallI, rl, q2]; try exact rfl))
/-! ### frozen_distance -/
theorem check_one (V0 : Valid a n m c0) (V1 : Valid a n m c1) (K : Kept a n c0 c1) : p_check_one_class [ch a c0, ch a c1] = some .none := by
  have q := same_class V0 V1 K
  obtain ⟨C, hC⟩ : ∃ Z, Z = ch a c0 := ⟨_, rfl⟩
  obtain ⟨E, hE⟩ : ∃ Z, Z = ch a c1 := ⟨_, rfl⟩
  rw [← hC, ← hE] at q
  rw [← hC, ← hE]
  unfold p_check_one_class g_check_one_class
  simp [bodyP, bodyI, startE, startI, sSeq, sRet, sAsg, sExp, sIfS, sNx, sV, sB, sC, PD.s2, toT, sTr, truth, bne_dec, sChain, sAnd, sOr, sNot, sIf, tAnd', tOr', tNot', sNil, sCons, sCall, allD, sN, allR, PD.res, sTup, sLst, sFr, gN, gT, gsNil, gsCons, sIsi, tyName, isSub, sOrE, sM1, sM1T, ST.fAdd_int, fSub, fLe, fLt, fGt, fGe, eq_int, ne_int, cont?, setCont, List.replicate, fLen, sOwn, sApp, q]
def fdL (a n : Nat) (c o : List Nat) (i : Nat) : List Nat := (List.range i).flatMap fun k => ((plK n c k).zip (plK n o k)).map fun z => dif z.1 z.2
theorem fdL_succ (c o : List Nat) (i : Nat) : fdL a n c o (i + 1) = fdL a n c o i ++ ((plK n c i).zip (plK n o i)).map fun z => dif z.1 z.2 := by
  unfold fdL
  rw [List.range_succ, List.flatMap_append]
  simp
theorem fdL_sum (c o : List Nat) : (fdL a n c o a).sum = fdN a n c o := by
  have : ∀ i, (fdL a n c o i).sum = ((List.range i).map fun k => adP (plK n c k) (plK n o k)).sum := fun i => by
    induction i with
    | zero => rfl
    | succ i ih => rw [fdL_succ, List.sum_append, ih, List.range_succ, List.map_append, List.sum_append]; simp [adP]
  exact this a
theorem zipD_nat (p q : List Nat) : zipD (p.map iN) (q.map iN) = (p.zip q).map fun z => .tuple [iN z.1, iN z.2] := by
  induction p generalizing q with
  | nil => rfl
  | cons x p ih =>
    cases q with
    | nil => rfl
    | cons y q =>
      have := ih q
      unfold zipD at this ⊢
      rw [List.map_cons, List.map_cons, List.zipWith_cons_cons, this]
      rfl
theorem fAbs_dif (i j : Nat) : fAbs [.int ((i : Int) - (j : Int))] = some (iN (dif i j)) := by
  show some (PyData.int (if (i : Int) - (j : Int) < 0 then -((i : Int) - (j : Int)) else (i : Int) - (j : Int))) = some (.int ((dif i j : Nat) : Int))
  unfold dif
  congr 2
  split <;> omega
theorem plK_len (V : Valid a n m cells) {k : Nat} (hk : k < a) : (plK n cells k).length ≤ 4 := by
  have := up_len (plK_asc (n := n) (cells := cells) k) (fun v hv => ((plK_mem V hk).mp hv).1)
  have := V.hn
  omega
theorem frozen_distance (V0 : Valid a n m c0) (V1 : Valid a n m c1) (K : Kept a n c0 c1) (hf : 2 ≤ bare a n c0) : p_frozen_distance [ch a c0, ch a c1] = some (iN (fdN a n c0 c1)) := by
  have q0 := is_frozen V0
  rw [decide_eq_true hf] at q0
  have q1 := check_one V0 V1 K
  have q2 := border_places V0
  have q3 := border_places V1
  have ha := V0.ha
  have ez : ((plc a n c0).map tN).length = a := by unfold plc; simp
  have zp : zipD ((plc a n c0).map tN) ((plc a n c1).map tN) = (List.range a).map fun k => .tuple [tN (plK n c0 k), tN (plK n c1 k)] := by
    unfold plc zipD
    rw [List.map_map, List.map_map]
    apply List.ext_getElem?
    intro i
    rw [List.getElem?_zipWith, List.getElem?_map, List.getElem?_map, List.getElem?_map]
    cases (List.range a)[i]? <;> rfl
  obtain ⟨C, hC⟩ : ∃ Z, Z = ch a c0 := ⟨_, rfl⟩
  obtain ⟨E, hE⟩ : ∃ Z, Z = ch a c1 := ⟨_, rfl⟩
  obtain ⟨P, hP⟩ : ∃ Z, Z = (plc a n c0).map tN := ⟨_, rfl⟩
  obtain ⟨Q, hQ⟩ : ∃ Z, Z = (plc a n c1).map tN := ⟨_, rfl⟩
  rw [← hC] at q0 q1 q2
  rw [← hE] at q1 q3
  rw [← hP] at q2 zp
  rw [← hQ] at q3 zp
  rw [← hC, ← hE]
  have ll : ∀ i, i ≤ a → (fdL a n c0 c1 i).length ≤ i * 4 := fun i => by
    induction i with
    | zero => intro _; exact Nat.le_refl _
    | succ i ih =>
      intro hi
      have := ih (by omega)
      rw [fdL_succ, List.length_append, List.length_map, List.length_zip]
      have := plK_len V0 (k := i) (by omega)
      omega
  let st : Nat → Sl → Sl → Ev := fun i x y => [.dat C, .dat E, .own ((fdL a n c0 c1 i).map iN), x, y, .un, .un]
  have loop : ∃ ρ', l1_frozen_distance (st 0 .un .un) = some (.nx, ρ') ∧ ∃ x y, ρ' = st ((List.range a).map fun k => PyData.tuple [tN (plK n c0 k), tN (plK n c1 k)]).length x y := by
    refine sFor_inv (items := (List.range a).map fun k => .tuple [tN (plK n c0 k), tN (plK n c1 k)]) (ρ1 := st 0 .un .un) (fun i ρ => ∃ x y, ρ = st i x y) ?_ ⟨_, _, rfl⟩ ?_
    · rw [← zp]
      show sZip (sCons (sCall p_border_places [] (sCons (sV 0) sNil)) (sCons (sCall p_border_places [] (sCons (sV 1) sNil)) sNil)) [.dat C, .dat E, .own [], .un, .un, .un, .un] = some (_, [.dat C, .dat E, .own [], .un, .un, .un, .un])
      simp [bodyP, bodyI, startE, startI, sSeq, sRet, sAsg, sExp, sIfS, sNx, sV, sB, sC, PD.s2, toT, sTr, truth, bne_dec, sChain, sAnd, sOr, sNot, sIf, tAnd', tOr', tNot', sNil, sCons, sCall, allD, sN, allR, PD.res, sTup, sLst, sFr, gN, gT, gsNil, gsCons, sIsi, tyName, isSub, sOrE, sM1, sM1T, ST.fAdd_int, fSub, fLe, fLt, fGt, fGe, eq_int, ne_int, cont?, setCont, List.replicate, fLen, sOwn, sApp, sZip, q2, q3]
    · rintro i d ρ hd ⟨x, y, rfl⟩
      rw [List.getElem?_map, Option.map_eq_some_iff] at hd
      obtain ⟨i', h1, rfl⟩ := hd
      obtain ⟨hi, h2⟩ := List.getElem?_eq_some_iff.mp h1
      rw [List.getElem_range] at h2
      rw [List.length_range] at hi
      subst h2
      have l1 := plK_len V0 hi
      have l2 := plK_len V1 hi
      have lz : ((plK n c0 i).zip (plK n c1 i)).length ≤ 4 := by rw [List.length_zip]; omega
      have lf := ll i (by omega)
      have c1e : c1_frozen_distance [.dat C, .dat E, .own ((fdL a n c0 c1 i).map iN), .dat (tN (plK n c0 i)), .dat (tN (plK n c1 i)), .un, .un] = some ((((plK n c0 i).zip (plK n c1 i)).map fun z => dif z.1 z.2).map iN, [.dat C, .dat E, .own ((fdL a n c0 c1 i).map iN), .dat (tN (plK n c0 i)), .dat (tN (plK n c1 i)), .un, .un]) := by
        rw [List.map_map]
        obtain ⟨X, hX⟩ : ∃ Z, Z = (fdL a n c0 c1 i).map iN := ⟨_, rfl⟩
        rw [← hX]
        refine sComp_all ((plK n c0 i).zip (plK n c1 i)) (fun z => .tuple [iN z.1, iN z.2]) _ ?_ rfl (by omega) rfl fun z hz => ⟨_, rfl, rfl, ?_⟩
        · rw [← zipD_nat]
          simp [bodyP, bodyI, startE, startI, sSeq, sRet, sAsg, sExp, sIfS, sNx, sV, sB, sC, PD.s2, toT, sTr, truth, bne_dec, sChain, sAnd, sOr, sNot, sIf, tAnd', tOr', tNot', sNil, sCons, sCall, allD, sN, allR, PD.res, sTup, sLst, sFr, gN, gT, gsNil, gsCons, sIsi, tyName, isSub, sOrE, sM1, sM1T, ST.fAdd_int, fSub, fLe, fLt, fGt, fGe, eq_int, ne_int, cont?, setCont, List.replicate, fLen, sOwn, sApp, sZip]
        · have := fAbs_dif z.1 z.2
          simp [bodyP, bodyI, startE, startI, sSeq, sRet, sAsg, sExp, sIfS, sNx, sV, sB, sC, PD.s2, toT, sTr, truth, bne_dec, sChain, sAnd, sOr, sNot, sIf, tAnd', tOr', tNot', sNil, sCons, sCall, allD, sN, allR, PD.res, sTup, sLst, sFr, gN, gT, gsNil, gsCons, sIsi, tyName, isSub, sOrE, sM1, sM1T, ST.fAdd_int, fSub, fLe, fLt, fGt, fGe, eq_int, ne_int, cont?, setCont, List.replicate, fLen, sOwn, sApp, wipeE, this]
      refine ⟨[.dat C, .dat E, .own ((fdL a n c0 c1 i).map iN), .dat (tN (plK n c0 i)), .dat (tN (plK n c1 i)), .un, .un], .nx, st (i + 1) (.dat (tN (plK n c0 i))) (.dat (tN (plK n c1 i))), rfl, ?_, .inl rfl, _, _, rfl⟩
      show b1_frozen_distance _ = some (.nx, [.dat C, .dat E, .own ((fdL a n c0 c1 (i + 1)).map iN), .dat (tN (plK n c0 i)), .dat (tN (plK n c1 i)), .un, .un])
      rw [fdL_succ, List.map_append]
      have sz : ((fdL a n c0 c1 i).map iN).length + ((((plK n c0 i).zip (plK n c1 i)).map fun z => dif z.1 z.2).map iN).length ≤ 1000000 := by
        rw [List.length_map, List.length_map, List.length_map]
        omega
      obtain ⟨X, hX⟩ : ∃ Z, Z = (fdL a n c0 c1 i).map iN := ⟨_, rfl⟩
      obtain ⟨Y, hY⟩ : ∃ Z, Z = (((plK n c0 i).zip (plK n c1 i)).map fun z => dif z.1 z.2).map iN := ⟨_, rfl⟩
      obtain ⟨A, hA⟩ : ∃ Z, Z = tN (plK n c0 i) := ⟨_, rfl⟩
      obtain ⟨B, hB⟩ : ∃ Z, Z = tN (plK n c1 i) := ⟨_, rfl⟩
      rw [← hX, ← hY] at sz
      rw [← hX, ← hY, ← hA, ← hB] at c1e
      rw [← hX, ← hY, ← hA, ← hB]
      unfold b1_frozen_distance
      simp [bodyP, bodyI, startE, startI, sSeq, sRet, sAsg, sExp, sIfS, sNx, sV, sB, sC, PD.s2, toT, sTr, truth, bne_dec, sChain, sAnd, sOr, sNot, sIf, tAnd', tOr', tNot', sNil, sCons, sCall, allD, sN, allR, PD.res, sTup, sLst, sFr, gN, gT, gsNil, gsCons, sIsi, tyName, isSub, sOrE, sM1, sM1T, ST.fAdd_int, fSub, fLe, fLt, fGt, fGe, eq_int, ne_int, cont?, setCont, List.replicate, fLen, sOwn, sApp, sExt, c1e, sz]
  obtain ⟨ρ', e, x, y, rfl⟩ := loop
  rw [List.length_map, List.length_range] at e
  have e' : l1_frozen_distance [.dat C, .dat E, .own [], .un, .un, .un, .un] = some (.nx, [.dat C, .dat E, .own ((fdL a n c0 c1 a).map iN), x, y, .un, .un]) := e
  have sm := fSum_nat (fdL a n c0 c1 a)
  rw [fdL_sum] at sm
  obtain ⟨X, hX⟩ : ∃ Z, Z = (fdL a n c0 c1 a).map iN := ⟨_, rfl⟩
  rw [← hX] at e' sm
  unfold p_frozen_distance
  show bodyP g_frozen_distance 7 [C, E] = _
  refine body_rt ?_
  unfold g_frozen_distance
  show Rt _ [.dat C, .dat E, .un, .un, .un, .un, .un] _
  (refine ST.Rt.nx (by simp [bodyP, bodyI, startE, startI, sSeq, sRet, sAsg, sExp, sIfS, sNx, sV, sB, sC, PD.s2, toT, sTr, truth, bne_dec, sChain, sAnd, sOr, sNot, sIf, tAnd', tOr', tNot', sNil, sCons, sCall, allD, sN, allR, PD.res, sTup, sLst, sFr, gN, gT, gsNil, gsCons, sIsi, tyName, isSub, sOrE, sM1, sM1T, ST.fAdd_int, fSub, fLe, fLt, fGt, fGe, eq_int, ne_int, cont?, setCont, List.replicate, fLen, sOwn, sApp, PD.sCallI, q0]; try exact rfl) ?_)
  (refine ST.Rt.nx (by simp [bodyP, bodyI, startE, startI, sSeq, sRet, sAsg, sExp, sIfS, sNx, sV, sB, sC, PD.s2, toT, sTr, truth, bne_dec, sChain, sAnd, sOr, sNot, sIf, tAnd', tOr', tNot', sNil, sCons, sCall, allD, sN, allR, PD.res, sTup, sLst, sFr, gN, gT, gsNil, gsCons, sIsi, tyName, isSub, sOrE, sM1, sM1T, ST.fAdd_int, fSub, fLe, fLt, fGt, fGe, eq_int, ne_int, cont?, setCont, List.replicate, fLen, sOwn, sApp, PD.sCallI, q1]; try exact rfl) ?_)
  (refine ST.Rt.nx (by simp [bodyP, bodyI, startE, startI, sSeq, sRet, sAsg, sExp, sIfS, sNx, sV, sB, sC, PD.s2, toT, sTr, truth, bne_dec, sChain, sAnd, sOr, sNot, sIf, tAnd', tOr', tNot', sNil, sCons, sCall, allD, sN, allR, PD.res, sTup, sLst, sFr, gN, gT, gsNil, gsCons, sIsi, tyName, isSub, sOrE, sM1, sM1T, ST.fAdd_int, fSub, fLe, fLt, fGt, fGe, eq_int, ne_int, cont?, setCont, List.replicate, fLen, sOwn, sApp, PD.sCallI, sLst]; try exact rfl) ?_)
  refine Rt.nx e' ?_
  (refine ST.Rt.rt (by simp [bodyP, bodyI, startE, startI, sSeq, sRet, sAsg, sExp, sIfS, sNx, sV, sB, sC, PD.s2, toT, sTr, truth, bne_dec, sChain, sAnd, sOr, sNot, sIf, tAnd', tOr', tNot', sNil, sCons, sCall, allD, sN, allR, PD.res, sTup, sLst, sFr, gN, gT, gsNil, gsCons, sIsi, tyName, isSub, sOrE, sM1, sM1T, ST.fAdd_int, fSub, fLe, fLt, fGt, fGe, eq_int, ne_int, cont?, setCont, List.replicate, fLen, sOwn, sApp, PD.sCallI, sm]; try exact rfl))
end
end ST
/-! k38: the law -/
namespace ST
open PySem PD
section
variable {a n m : Nat} {cells c0 c1 : List Nat}
noncomputable def dsN (a n : Nat) (c0 c : List Nat) : Nat := open Classical in if h : ∃ e, DsA a n c0 c e then h.choose else 0
theorem dsN_is {c : List Nat} {e : Nat} (h : DsA a n c0 c e) : dsN a n c0 c = e := by
  have hh : ∃ e, DsA a n c0 c e := ⟨e, h⟩
  unfold dsN
  rw [dif_pos hh]
  exact hh.choose_spec.one _ h
/-- the cells at which two maps differ -/
def dfC (c o : List Nat) : List Nat := (List.range c.length).filter fun k => !decide (ca c k = ca o k)
theorem dfC_step {c : List Nat} {t : Nat × Nat} (h : t.2 < c.length) (o : List Nat) : (dfC o (step c t)).length ≤ (dfC o c).length + 1 := by
  unfold dfC
  have key : ∀ xs : List Nat, xs.Nodup → (xs.filter fun k => !decide (ca o k = ca (step c t) k)).length ≤ (xs.filter fun k => !decide (ca o k = ca c k)).length + if t.2 ∈ xs then 1 else 0 := fun xs => by
    induction xs with
    | nil => simp
    | cons x xs ih =>
      intro nd
      rw [List.nodup_cons] at nd
      have ih := ih nd.2
      rw [List.filter_cons, List.filter_cons]
      by_cases z : x = t.2
      · rw [z] at nd ⊢
        rw [if_neg nd.1] at ih
        rw [if_pos (List.mem_cons_self ..)]
        split <;> split <;> (try simp only [List.length_cons]) <;> omega
      · have e : ca (step c t) x = ca c x := by
          show ca (c.set t.2 t.1) x = _
          rw [ca_set h, if_neg z]
        rw [e]
        have e2 : (if t.2 ∈ x :: xs then 1 else 0) = if t.2 ∈ xs then 1 else 0 := by
          by_cases y : t.2 ∈ xs
          · rw [if_pos y, if_pos (List.mem_cons_of_mem _ y)]
          · rw [if_neg y, if_neg (fun q => by rcases List.mem_cons.mp q with q | q; exact z q.symm; exact y q)]
        rw [e2]
        split <;> (try simp only [List.length_cons]) <;> omega
  have := key (List.range o.length) List.nodup_range
  split at this <;> omega
theorem dfC_self (c : List Nat) : dfC c c = [] := by
  unfold dfC
  refine List.filter_eq_nil_iff.mpr fun k _ => ?_
  simp
theorem dfC_le (V0 : Valid a n m c0) : ∀ {j : Nat} {c : List Nat}, Rj (tkL a n) c0 j c → (dfC c0 c).length ≤ j
  | 0, c, h => by rw [show c = c0 from h, dfC_self]; exact Nat.le_refl _
  | j + 1, c, ⟨b, hb, t, ht, e⟩ => by
    have h1 := dfC_le V0 hb
    have h2 := dfC_step (tkL_step (RjA.valid V0 hb) ht).1 c0
    rw [e] at h2
    omega
theorem dfC_pos {c o : List Nat} (hl : c.length = o.length) (ne : c ≠ o) : 0 < (dfC c o).length := by
  apply Nat.pos_of_ne_zero
  intro z
  have z := List.length_eq_zero_iff.mp z
  unfold dfC at z
  have z := List.filter_eq_nil_iff.mp z
  apply ne
  apply List.ext_getElem hl
  intro i h1 h2
  have := z i (List.mem_range.mpr h1)
  have e1 := ca_some h1
  have e2 := ca_some h2
  rw [List.getElem?_eq_getElem h1] at e1
  rw [List.getElem?_eq_getElem h2] at e2
  have : ca c i = ca o i := by simpa using this
  rw [← this] at e2
  exact Option.some.inj (e1.trans e2.symm)
theorem min_is {L : List Nat} {v : Nat} (h : v ∈ L) (ge : ∀ x ∈ L, v ≤ x) : fMin1 [.list (L.map iN)] = some (iN v) := by
  have key : ∀ (r : List Nat) (b : Nat), (b = v ∨ v ∈ r) → v ≤ b → (∀ x ∈ r, v ≤ x) → (r.map fun (k : Nat) => (k : Int)).foldl min (b : Int) = (v : Int) := fun r => by
    induction r with
    | nil =>
      intro b h1 _ _
      rcases h1 with h1 | h1
      · rw [h1]; rfl
      · cases h1
    | cons x r ih =>
      intro b h1 h2 h3
      rw [List.map_cons, List.foldl_cons]
      have e : min (b : Int) (x : Int) = ((min b x : Nat) : Int) := by omega
      rw [e]
      have hx := h3 x (List.mem_cons_self ..)
      refine ih (min b x) ?_ (by omega) fun y hy => h3 y (List.mem_cons_of_mem _ hy)
      rcases h1 with h1 | h1
      · left; omega
      · rcases List.mem_cons.mp h1 with h1 | h1
        · left; omega
        · right; exact h1
  show (match intsOf (L.map iN) with | some ns => (minI ns).map PyData.int | none => none) = _
  rw [intsOf_nat]
  cases L with
  | nil => cases h
  | cons x r =>
    show some (PyData.int ((r.map fun (k : Nat) => (k : Int)).foldl min (x : Int))) = _
    rw [key r x (by rcases List.mem_cons.mp h with h | h; exact .inl h.symm; exact .inr h) (ge x (List.mem_cons_self ..)) fun y hy => ge y (List.mem_cons_of_mem _ hy)]
end
theorem ne_noT (T : List (Nat × Nat)) (h : T ≠ []) : fNe (.tuple (T.map tkD)) (.tuple []) = some (.bool true) := by
  have := ne_toD (α := PySem.W.Tup (Nat × Nat)) ⟨T⟩ ⟨[]⟩
  rw [decide_eq_false (fun z => h (by injection z))] at this
  exact this
theorem math_k38 (ns : List Int) (h : ns.length ≤ 63) (hb : ∀ z ∈ ns, Builtin.Int.intBits z ≤ 1048576) : p_law_k38 [.list (ns.map PyData.int)] = some (.bool true) := by
  have r0 : RowI ns [.list (ns.map .int), .int 0, .int 13938, .int 0] := ⟨0, 13938, 0, by omega, rfl⟩
  obtain ⟨a, n, m, r1, e1, ha, hn, hm, r1k⟩ := island3 r0
  obtain ⟨c, r2, e2, V, r2k⟩ := law_map ha ⟨hn.1, by omega⟩ hm r1k
  obtain ⟨Sc, hSc⟩ : ∃ Z, Z = PyData.list (ns.map .int) := ⟨_, rfl⟩
  rw [← hSc] at e1 ⊢
  have n3 : n ≤ 3 := hn.2
  have hlen := V.len_lt
  obtain ⟨v1, r3, e3, hv1, r3k⟩ := taken (many := 9) r2k (by omega) (by omega)
  obtain ⟨s1, r4, e4, ok1, sl1, r4k⟩ := law_walk V r3k (k := v1) (by omega)
  obtain ⟨v2, r5, e5, hv2, r5k⟩ := taken (many := 9) r4k (by omega) (by omega)
  obtain ⟨s2, r6, e6, ok2, sl2, r6k⟩ := law_walk V r5k (k := v2) (by omega)
  obtain ⟨o, ho⟩ : ∃ o, o = cur c s1 s1.length := ⟨_, rfl⟩
  obtain ⟨p, hp⟩ : ∃ p, p = cur c s2 s2.length := ⟨_, rfl⟩
  have Vo : Valid a n m o := by rw [ho]; exact ok1.valid V _ (Nat.le_refl _)
  have Vp : Valid a n m p := by rw [hp]; exact ok2.valid V _ (Nat.le_refl _)
  have ro : Rj (tkL a n) c s1.length o := by rw [ho]; exact RowOk.rj V ok1 _ (Nat.le_refl _)
  have rp : Rj (tkL a n) c s2.length p := by rw [hp]; exact RowOk.rj V ok2 _ (Nat.le_refl _)
  rw [← ho] at e4
  rw [← hp] at e6
  have Ko : Kept a n c o := by
    have := RowOk.kept V ok1 (j := 0) s1.length (by omega)
    rw [Nat.zero_add, cur_zero, ← ho] at this
    exact this
  obtain ⟨d, hd, D1⟩ := Dst.of (tkL a n) ro
  obtain ⟨f, hf, D2⟩ := Dst.of (tkL a n) rp
  obtain ⟨g, _, D3⟩ := Dst.of (tkL a n) (Rj.app (RjA.back V rp) ro)
  have D1' := DsA.symm V D1
  -- distances
  have q1 := distance n3 V Vo
  have q2 := distance n3 Vo V
  have q3 := distance n3 V Vp
  have q4 := distance n3 Vp Vo
  have q5 := distance n3 V V
  rw [dsD_some D1] at q1
  rw [dsD_some D1'] at q2
  rw [dsD_some D2] at q3
  rw [dsD_some D3] at q4
  rw [dsD_some (DsA.zero (a := a) (n := n) (c0 := c))] at q5
  have tri := DsA.tri D1 D2 D3
  obtain ⟨M, q6, q6'⟩ := farthest_ge n3 V
  have dM := q6' o d D1
  -- cells that differ
  have ul : (dfC c o).length ≤ d := dfC_le V D1.1
  have ol : o.length = c.length := by rw [Vo.len, V.len]
  have d0 : d = 0 ↔ c = o := by
    constructor
    · intro z
      subst z
      exact D1.1.symm
    · intro z
      rw [← z] at D1
      exact D1.one _ DsA.zero
  have ecq := eq_ch a c o
  -- frozen
  have q7 := is_frozen V
  -- fewest
  obtain ⟨D, FD, q8⟩ := fewest_some n3 V Vo D1' (by omega)
  have gok := gRow_ok FD Vo D1'
  have gend : cur c (gRow a n D c d) (gRow a n D c d).length = o := by
    rw [gRow_len, gRow_cur D c d d (Nat.le_refl _)]
    exact gw_end FD Vo D1'
  have q9 := shows_fewest n3 V Vo D1 gok (gRow_len D c d) (by omega) gend
  -- takings
  obtain ⟨T, q10, pT⟩ := takings V
  have Tm : ∀ t, t ∈ T ↔ t ∈ tkL a n c := fun t => by rw [pT.mem_iff, ← (tkL_is V).2.mem_iff]
  have Tl : T.length < 1000 := by
    have := pT.length_eq
    have := rdy_len V c.length
    omega
  have td : ∀ t ∈ T, ∃ e, DsA a n (step c t) o e ∧ e ≤ d + 1 ∧ d ≤ e + 1 := fun t ht => by
    obtain ⟨e, k1, k2, k3⟩ := D1'.next Vo ((Tm t).mp ht)
    exact ⟨e, DsA.symm Vo k1, k2, k3⟩
  obtain ⟨L, hL⟩ : ∃ L, L = T.map fun t => dsN a n (step c t) o := ⟨_, rfl⟩
  have Lm : ∀ x ∈ L, x ≤ d + 1 ∧ d ≤ x + 1 := fun x hx => by
    rw [hL] at hx
    obtain ⟨t, ht, rfl⟩ := List.mem_map.mp hx
    obtain ⟨e, k1, k2, k3⟩ := td t ht
    rw [dsN_is k1]
    exact ⟨k2, k3⟩
  have Ln : 0 < d → (d - 1) ∈ L := fun z => by
    obtain ⟨e, rfl⟩ : ∃ e, d = e + 1 := ⟨d - 1, by omega⟩
    obtain ⟨t, ht, k⟩ := D1'.near Vo
    rw [hL]
    exact List.mem_map.mpr ⟨t, (Tm t).mpr ht, dsN_is (DsA.symm Vo k)⟩
  -- a strange map
  obtain ⟨w, r7, e7, Vw, r7k⟩ := law_map ha ⟨hn.1, by omega⟩ hm r6k
  have q11 := distance n3 V Vw
  have q12 : ∃ X Y, p_distance [ch a c, ch a w] = some X ∧ p_fewest [ch a c, ch a w] = some Y ∧ fIs X .none = some (.bool (isNone Y)) ∧ fIs Y .none = some (.bool (isNone Y)) := by
    by_cases z : ∃ e, DsA a n c w e
    · obtain ⟨e, z⟩ := z
      rw [dsD_some z] at q11
      have z' := DsA.symm V z
      have small : e < 900000 := by
        obtain ⟨DD, k1, k2⟩ := steps_from n3 V
        have hmem := (k2.mem w e).mpr z
        -- a row of so many maps
        have lens : ∀ j, j ≤ e → ∃ x, DsA a n c x j := fun j => by
          intro hj
          have gen : ∀ i x, DsA a n c x i → ∀ j, j ≤ i → ∃ y, DsA a n c y j := fun i => by
            induction i with
            | zero =>
              intro x hx j hj
              obtain rfl : j = 0 := by omega
              exact ⟨x, hx⟩
            | succ i ih =>
              intro x hx j hj
              by_cases q : j = i + 1
              · rw [q]; exact ⟨x, hx⟩
              · obtain ⟨t, _, k⟩ := DsA.near V hx
                exact ih _ k j (by omega)
          exact gen e w z j hj
        have inj : (List.range (e + 1)).length ≤ (DD.map (·.2)).length := nodup_leN List.nodup_range fun j hj => by
          obtain ⟨x, hx⟩ := lens j (by have := List.mem_range.mp hj; omega)
          exact List.mem_map.mpr ⟨(x, j), (k2.mem x j).mpr hx, rfl⟩
        have few := few_maps n3 (DD.map (·.1)) k2.nd fun x hx => by
          obtain ⟨⟨y, i⟩, hy, rfl⟩ := List.mem_map.mp hx
          exact RjA.valid V ((k2.mem y i).mp hy).1
        rw [List.length_range, List.length_map] at inj
        rw [List.length_map] at few
        omega
      obtain ⟨D', _, k⟩ := fewest_some n3 V Vw z' small
      exact ⟨_, _, q11, k, rfl, rfl⟩
    · rw [dsD_none z] at q11
      have z' : ¬ ∃ e, DsA a n w c e := fun ⟨e, k⟩ => z ⟨e, DsA.symm Vw k⟩
      exact ⟨_, _, q11, fewest_none n3 V Vw z', rfl, rfl⟩
  obtain ⟨X, Y, q13, q14, q15, q16⟩ := q12
  -- long data behind names
  have x1 : fIx (ch a c) (.int 1) = some (tN c) := rfl
  have x2 : fIx (ch a o) (.int 1) = some (tN o) := rfl
  have cl : fLen [tN c] = some (iN c.length) := len_tN c
  obtain ⟨A, hA⟩ : ∃ Z, Z = ch a c := ⟨_, rfl⟩
  obtain ⟨O, hO⟩ : ∃ Z, Z = ch a o := ⟨_, rfl⟩
  obtain ⟨P, hP⟩ : ∃ Z, Z = ch a p := ⟨_, rfl⟩
  obtain ⟨W, hW⟩ : ∃ Z, Z = ch a w := ⟨_, rfl⟩
  obtain ⟨R, hR⟩ : ∃ Z, Z = (gRow a n D c d).map tkD := ⟨_, rfl⟩
  have Rl : R.length = d := by rw [hR, List.length_map, gRow_len]
  -- the cells that differ, as the law tells them
  have u1 : c1_law_k38 [.dat Sc, .own r6, .dat (iN a), .dat (iN n), .dat (iN m), .dat A, .dat O, .dat P, .dat (iN d), .un, .un, .un, .un, .un, .un] = some ((dfC c o).map iN, [.dat Sc, .own r6, .dat (iN a), .dat (iN n), .dat (iN m), .dat A, .dat O, .dat P, .dat (iN d), .un, .un, .un, .un, .un, .un]) := by
    rw [← hA] at x1
    rw [← hO] at x2
    obtain ⟨Cn, hC⟩ : ∃ Z, Z = c.map iN := ⟨_, rfl⟩
    obtain ⟨C2, hC2⟩ : ∃ Z, Z = o.map iN := ⟨_, rfl⟩
    have Cnl : Cn.length = c.length := by rw [hC, List.length_map]
    change fIx A (.int 1) = some (.tuple (c.map iN)) at x1
    change fIx O (.int 1) = some (.tuple (o.map iN)) at x2
    rw [← hC] at x1
    rw [← hC2] at x2
    refine sComp_on (List.range c.length) iN iN (fun k => !decide (ca c k = ca o k)) (sRg1_small (by simp [bodyP, bodyI, startE, startI, sSeq, sRet, sAsg, sExp, sIfS, sNx, sV, sB, sC, PD.s2, toT, sTr, truth, bne_dec, sChain, sAnd, sOr, sNot, sIf, tAnd', tOr', tNot', sNil, sCons, sCall, allD, sN, allR, PD.res, sTup, sLst, sFr, gN, gT, gsNil, gsCons, sIsi, tyName, isSub, sOrE, sM1, sM1T, ST.fAdd_int, fSub, fLe, fLt, fGt, fGe, eq_int, ne_int, cont?, setCont, List.replicate, fLen, sOwn, sApp, x1, Cnl]) (by omega)) rfl (by simp; omega) rfl fun k hk => ⟨_, rfl, rfl, ?_, ?_⟩
    · have hk := List.mem_range.mp hk
      have i1 : fIx (.tuple Cn) (iN k) = some (iN (ca c k)) := by
        rw [hC]
        exact (ix_at (xs := c.map iN) (j := k) (by rw [List.getElem?_map, ca_some hk]; rfl)).2
      have i2 : fIx (.tuple C2) (iN k) = some (iN (ca o k)) := by
        rw [hC2]
        exact (ix_at (xs := o.map iN) (j := k) (by rw [List.getElem?_map, ca_some (by omega)]; rfl)).2
      simp [bodyP, bodyI, startE, startI, sSeq, sRet, sAsg, sExp, sIfS, sNx, sV, sB, sC, PD.s2, toT, sTr, truth, bne_dec, sChain, sAnd, sOr, sNot, sIf, tAnd', tOr', tNot', sNil, sCons, sCall, allD, sN, allR, PD.res, sTup, sLst, sFr, gN, gT, gsNil, gsCons, sIsi, tyName, isSub, sOrE, sM1, sM1T, ST.fAdd_int, fSub, fLe, fLt, fGt, fGe, eq_int, ne_int, cont?, setCont, List.replicate, fLen, sOwn, sApp, wipeE, x1, x2, i1, i2]
      try omega
    · simp [bodyP, bodyI, startE, startI, sSeq, sRet, sAsg, sExp, sIfS, sNx, sV, sB, sC, PD.s2, toT, sTr, truth, bne_dec, sChain, sAnd, sOr, sNot, sIf, tAnd', tOr', tNot', sNil, sCons, sCall, allD, sN, allR, PD.res, sTup, sLst, sFr, gN, gT, gsNil, gsCons, sIsi, tyName, isSub, sOrE, sM1, sM1T, ST.fAdd_int, fSub, fLe, fLt, fGt, fGe, eq_int, ne_int, cont?, setCont, List.replicate, fLen, sOwn, sApp, wipeE]
  have n9 : ((dfC c o).map iN).length = (dfC c o).length := List.length_map ..
  have u1n : d = 1 → (dfC c o).length = 1 := fun z => by
    have : c ≠ o := fun q => by have := d0.mpr q; omega
    have := dfC_pos ol.symm this
    omega
  -- the distances behind the takings
  have u2 : ∀ s9 s10, c2_law_k38 [.dat Sc, .own r6, .dat (iN a), .dat (iN n), .dat (iN m), .dat A, .dat O, .dat P, .dat (iN d), s9, s10, .un, .un, .un, .un] = some (L.map iN, [.dat Sc, .own r6, .dat (iN a), .dat (iN n), .dat (iN m), .dat A, .dat O, .dat P, .dat (iN d), s9, s10, .un, .un, .un, .un]) := fun s9 s10 => by
    rw [hL, List.map_map]
    rw [← hA] at q10
    refine sComp_all T tkD _ ?_ rfl (by omega) rfl fun t ht => ⟨_, rfl, rfl, ?_⟩
    · obtain ⟨TT, hTT⟩ : ∃ Z, Z = T.map tkD := ⟨_, rfl⟩
      rw [← hTT] at q10 ⊢
      simp [bodyP, bodyI, startE, startI, sSeq, sRet, sAsg, sExp, sIfS, sNx, sV, sB, sC, PD.s2, toT, sTr, truth, bne_dec, sChain, sAnd, sOr, sNot, sIf, tAnd', tOr', tNot', sNil, sCons, sCall, allD, sN, allR, PD.res, sTup, sLst, sFr, gN, gT, gsNil, gsCons, sIsi, tyName, isSub, sOrE, sM1, sM1T, ST.fAdd_int, fSub, fLe, fLt, fGt, fGe, eq_int, ne_int, cont?, setCont, List.replicate, fLen, sOwn, sApp, sSq, q10]
    · have hc := tkL_step V ((Tm t).mp ht)
      have b1 := behind (a := a) (cells := c) (t := t) hc.1 (by omega)
      have b2 := distance n3 hc.2 Vo
      obtain ⟨e, k1, _, _⟩ := td t ht
      rw [dsD_some k1] at b2
      show _ = some (Ob.d (iN (dsN a n (step c t) o)), _)
      rw [dsN_is k1]
      rw [← hA] at b1
      rw [← hO] at b2
      obtain ⟨B, hB⟩ : ∃ Z, Z = ch a (step c t) := ⟨_, rfl⟩
      obtain ⟨G, hG⟩ : ∃ Z, Z = tkD t := ⟨_, rfl⟩
      rw [← hB, ← hG] at b1
      rw [← hB] at b2
      rw [← hG]
      simp [bodyP, bodyI, startE, startI, sSeq, sRet, sAsg, sExp, sIfS, sNx, sV, sB, sC, PD.s2, toT, sTr, truth, bne_dec, sChain, sAnd, sOr, sNot, sIf, tAnd', tOr', tNot', sNil, sCons, sCall, allD, sN, allR, PD.res, sTup, sLst, sFr, gN, gT, gsNil, gsCons, sIsi, tyName, isSub, sOrE, sM1, sM1T, ST.fAdd_int, fSub, fLe, fLt, fGt, fGe, eq_int, ne_int, cont?, setCont, List.replicate, fLen, sOwn, sApp, wipeE, b1, b2]
  have u3 : ∀ s9 s10, c3_law_k38 [.dat Sc, .own r6, .dat (iN a), .dat (iN n), .dat (iN m), .dat A, .dat O, .dat P, .dat (iN d), s9, s10, .dat (.list (L.map iN)), .un, .un, .un] = some ([], [.dat Sc, .own r6, .dat (iN a), .dat (iN n), .dat (iN m), .dat A, .dat O, .dat P, .dat (iN d), s9, s10, .dat (.list (L.map iN)), .un, .un, .un]) := fun s9 s10 => by
    have e : ([] : List PyData) = (L.filter fun _ => false).map iN := by simp
    have Ll : L.length < 1000 := by rw [hL, List.length_map]; exact Tl
    rw [e]
    obtain ⟨LL, hLL⟩ : ∃ Z, Z = L.map iN := ⟨_, rfl⟩
    rw [← hLL]
    refine sComp_on L iN iN (fun _ => false) (by rw [← hLL]; simp [bodyP, bodyI, startE, startI, sSeq, sRet, sAsg, sExp, sIfS, sNx, sV, sB, sC, PD.s2, toT, sTr, truth, bne_dec, sChain, sAnd, sOr, sNot, sIf, tAnd', tOr', tNot', sNil, sCons, sCall, allD, sN, allR, PD.res, sTup, sLst, sFr, gN, gT, gsNil, gsCons, sIsi, tyName, isSub, sOrE, sM1, sM1T, ST.fAdd_int, fSub, fLe, fLt, fGt, fGe, eq_int, ne_int, cont?, setCont, List.replicate, fLen, sOwn, sApp, sSq]) rfl (by omega) rfl fun x hx => ⟨_, rfl, rfl, ?_, fun z => by cases z⟩
    have ab := fAbs_dif x d
    have le : ¬ (1 : Int) < ((dif x d : Nat) : Int) := by
      have := Lm x hx
      unfold dif
      omega
    simp [bodyP, bodyI, startE, startI, sSeq, sRet, sAsg, sExp, sIfS, sNx, sV, sB, sC, PD.s2, toT, sTr, truth, bne_dec, sChain, sAnd, sOr, sNot, sIf, tAnd', tOr', tNot', sNil, sCons, sCall, allD, sN, allR, PD.res, sTup, sLst, sFr, gN, gT, gsNil, gsCons, sIsi, tyName, isSub, sOrE, sM1, sM1T, ST.fAdd_int, fSub, fLe, fLt, fGt, fGe, eq_int, ne_int, cont?, setCont, List.replicate, fLen, sOwn, sApp, wipeE, ab]
    omega
  have hA' := hA
  have hO' := hO
  rw [← hA] at e2 e4 e6 q1 q2 q3 q5 q6 q7 q8 q9 q13 q14 ecq
  rw [← hO] at e4 q1 q2 q4 q8 q9 ecq
  rw [← hP] at e6 q3 q4
  rw [← hW] at e7 q13 q14
  rw [← hR] at q8 q9
  change p__law_taken r2 [.int 9] = some (iN v1, r3) at e3
  change p__law_taken r4 [.int 9] = some (iN v2, r5) at e5
  have t1 : ¬ ((f : Int) + (g : Int) < (d : Int)) := by omega
  have t2 : ¬ ((d : Int) < ((dfC c o).length : Int)) := by omega
  have t3 : ¬ ((M : Int) < (d : Int)) := by omega
  have b1 : fNe (.bool (decide (d = 0))) (.bool (decide (c = o))) = some (.bool false) := by
    rw [decide_eq_decide.mpr d0]
    exact ne_bl _
  have b2 : fIs (iN d) .none = some (.bool false) := rfl
  unfold p_law_k38
  show bodyP g_law_k38 15 [Sc] = _
  refine body_rt ?_
  unfold g_law_k38
  show Rt _ [.dat Sc, .un, .un, .un, .un, .un, .un, .un, .un, .un, .un, .un, .un, .un, .un] _
  (refine ST.Rt.nx (by simp [bodyP, bodyI, startE, startI, sSeq, sRet, sAsg, sExp, sIfS, sNx, sV, sB, sC, PD.s2, toT, sTr, truth, bne_dec, sChain, sAnd, sOr, sNot, sIf, tAnd', tOr', tNot', sNil, sCons, sCall, allD, sN, allR, PD.res, sTup, sLst, sFr, gN, gT, gsNil, gsCons, sIsi, tyName, isSub, sOrE, sM1, sM1T, ST.fAdd_int, fSub, fLe, fLt, fGt, fGe, eq_int, ne_int, cont?, setCont, List.replicate, fLen, sOwn, sApp, PD.sCallI, sLst]; try exact rfl) ?_)
  (refine ST.Rt.nx (by simp [bodyP, bodyI, startE, startI, sSeq, sRet, sAsg, sExp, sIfS, sNx, sV, sB, sC, PD.s2, toT, sTr, truth, bne_dec, sChain, sAnd, sOr, sNot, sIf, tAnd', tOr', tNot', sNil, sCons, sCall, allD, sN, allR, PD.res, sTup, sLst, sFr, gN, gT, gsNil, gsCons, sIsi, tyName, isSub, sOrE, sM1, sM1T, ST.fAdd_int, fSub, fLe, fLt, fGt, fGe, eq_int, ne_int, cont?, setCont, List.replicate, fLen, sOwn, sApp, PD.sCallI, e1]; try exact rfl) ?_)
  (refine ST.Rt.nx (by simp [bodyP, bodyI, startE, startI, sSeq, sRet, sAsg, sExp, sIfS, sNx, sV, sB, sC, PD.s2, toT, sTr, truth, bne_dec, sChain, sAnd, sOr, sNot, sIf, tAnd', tOr', tNot', sNil, sCons, sCall, allD, sN, allR, PD.res, sTup, sLst, sFr, gN, gT, gsNil, gsCons, sIsi, tyName, isSub, sOrE, sM1, sM1T, ST.fAdd_int, fSub, fLe, fLt, fGt, fGe, eq_int, ne_int, cont?, setCont, List.replicate, fLen, sOwn, sApp, PD.sCallI, e2]; try exact rfl) ?_)
  (refine ST.Rt.nx (by simp [bodyP, bodyI, startE, startI, sSeq, sRet, sAsg, sExp, sIfS, sNx, sV, sB, sC, PD.s2, toT, sTr, truth, bne_dec, sChain, sAnd, sOr, sNot, sIf, tAnd', tOr', tNot', sNil, sCons, sCall, allD, sN, allR, PD.res, sTup, sLst, sFr, gN, gT, gsNil, gsCons, sIsi, tyName, isSub, sOrE, sM1, sM1T, ST.fAdd_int, fSub, fLe, fLt, fGt, fGe, eq_int, ne_int, cont?, setCont, List.replicate, fLen, sOwn, sApp, PD.sCallI, e3, e4, e5, e6, ix1]; try exact rfl) ?_)
  (refine ST.Rt.nx (by simp [bodyP, bodyI, startE, startI, sSeq, sRet, sAsg, sExp, sIfS, sNx, sV, sB, sC, PD.s2, toT, sTr, truth, bne_dec, sChain, sAnd, sOr, sNot, sIf, tAnd', tOr', tNot', sNil, sCons, sCall, allD, sN, allR, PD.res, sTup, sLst, sFr, gN, gT, gsNil, gsCons, sIsi, tyName, isSub, sOrE, sM1, sM1T, ST.fAdd_int, fSub, fLe, fLt, fGt, fGe, eq_int, ne_int, cont?, setCont, List.replicate, fLen, sOwn, sApp, PD.sCallI, q1]; try exact rfl) ?_)
  (refine ST.Rt.nx (by simp [bodyP, bodyI, startE, startI, sSeq, sRet, sAsg, sExp, sIfS, sNx, sV, sB, sC, PD.s2, toT, sTr, truth, bne_dec, sChain, sAnd, sOr, sNot, sIf, tAnd', tOr', tNot', sNil, sCons, sCall, allD, sN, allR, PD.res, sTup, sLst, sFr, gN, gT, gsNil, gsCons, sIsi, tyName, isSub, sOrE, sM1, sM1T, ST.fAdd_int, fSub, fLe, fLt, fGt, fGe, eq_int, ne_int, cont?, setCont, List.replicate, fLen, sOwn, sApp, PD.sCallI, b2, q2, q3, q4, q5, t1]; try exact rfl) ?_)
  (refine ST.Rt.nx (by simp [bodyP, bodyI, startE, startI, sSeq, sRet, sAsg, sExp, sIfS, sNx, sV, sB, sC, PD.s2, toT, sTr, truth, bne_dec, sChain, sAnd, sOr, sNot, sIf, tAnd', tOr', tNot', sNil, sCons, sCall, allD, sN, allR, PD.res, sTup, sLst, sFr, gN, gT, gsNil, gsCons, sIsi, tyName, isSub, sOrE, sM1, sM1T, ST.fAdd_int, fSub, fLe, fLt, fGt, fGe, eq_int, ne_int, cont?, setCont, List.replicate, fLen, sOwn, sApp, PD.sCallI, u1, n9]; try exact rfl) ?_)
  -- bounds
  refine Rt.nx (ρ' := [.dat Sc, .own r6, .dat (iN a), .dat (iN n), .dat (iN m), .dat A, .dat O, .dat P, .dat (iN d), .dat (iN (dfC c o).length), .un, .un, .un, .un, .un]) (by
    by_cases hd1 : d = 1
    · have l1 := u1n hd1
      have b1' : fNe (.bool false) (.bool (decide (c = o))) = some (.bool false) := by
        rw [decide_eq_false (fun z => by have := d0.mpr z; omega)]
        rfl
      have t3' : ¬ ((M : Int) < 1) := by omega
      subst hd1
      simp [bodyP, bodyI, startE, startI, sSeq, sRet, sAsg, sExp, sIfS, sNx, sV, sB, sC, PD.s2, toT, sTr, truth, bne_dec, sChain, sAnd, sOr, sNot, sIf, tAnd', tOr', tNot', sNil, sCons, sCall, allD, sN, allR, PD.res, sTup, sLst, sFr, gN, gT, gsNil, gsCons, sIsi, tyName, isSub, sOrE, sM1, sM1T, ST.fAdd_int, fSub, fLe, fLt, fGt, fGe, eq_int, ne_int, cont?, setCont, List.replicate, fLen, sOwn, sApp, l1, ecq, b1', q6, t3']
    · have hd1' : ¬ (d : Int) = 1 := by omega
      simp [bodyP, bodyI, startE, startI, sSeq, sRet, sAsg, sExp, sIfS, sNx, sV, sB, sC, PD.s2, toT, sTr, truth, bne_dec, sChain, sAnd, sOr, sNot, sIf, tAnd', tOr', tNot', sNil, sCons, sCall, allD, sN, allR, PD.res, sTup, sLst, sFr, gN, gT, gsNil, gsCons, sIsi, tyName, isSub, sOrE, sM1, sM1T, ST.fAdd_int, fSub, fLe, fLt, fGt, fGe, eq_int, ne_int, cont?, setCont, List.replicate, fLen, sOwn, sApp, t2, ecq, b1, hd1', q6, t3]) ?_
  -- frozen maps
  refine Rt.nx (ρ' := [.dat Sc, .own r6, .dat (iN a), .dat (iN n), .dat (iN m), .dat A, .dat O, .dat P, .dat (iN d), .dat (iN (dfC c o).length), .un, .un, .un, .un, .un]) (by
    by_cases hf : 2 ≤ bare a n c
    · have F : Frz a n c o := ⟨(Ko.od hf).1.symm, (Ko.od hf).2.symm⟩
      have k1 := frozen_distance V Vo Ko hf
      rw [(fd_dist V Vo F hf).one _ D1, ← hA', ← hO'] at k1
      rw [decide_eq_true hf] at q7
      simp [bodyP, bodyI, startE, startI, sSeq, sRet, sAsg, sExp, sIfS, sNx, sV, sB, sC, PD.s2, toT, sTr, truth, bne_dec, sChain, sAnd, sOr, sNot, sIf, tAnd', tOr', tNot', sNil, sCons, sCall, allD, sN, allR, PD.res, sTup, sLst, sFr, gN, gT, gsNil, gsCons, sIsi, tyName, isSub, sOrE, sM1, sM1T, ST.fAdd_int, fSub, fLe, fLt, fGt, fGe, eq_int, ne_int, cont?, setCont, List.replicate, fLen, sOwn, sApp, q7, k1]
    · rw [decide_eq_false hf] at q7
      simp [bodyP, bodyI, startE, startI, sSeq, sRet, sAsg, sExp, sIfS, sNx, sV, sB, sC, PD.s2, toT, sTr, truth, bne_dec, sChain, sAnd, sOr, sNot, sIf, tAnd', tOr', tNot', sNil, sCons, sCall, allD, sN, allR, PD.res, sTup, sLst, sFr, gN, gT, gsNil, gsCons, sIsi, tyName, isSub, sOrE, sM1, sM1T, ST.fAdd_int, fSub, fLe, fLt, fGt, fGe, eq_int, ne_int, cont?, setCont, List.replicate, fLen, sOwn, sApp, q7]) ?_
  (refine ST.Rt.nx (by simp [bodyP, bodyI, startE, startI, sSeq, sRet, sAsg, sExp, sIfS, sNx, sV, sB, sC, PD.s2, toT, sTr, truth, bne_dec, sChain, sAnd, sOr, sNot, sIf, tAnd', tOr', tNot', sNil, sCons, sCall, allD, sN, allR, PD.res, sTup, sLst, sFr, gN, gT, gsNil, gsCons, sIsi, tyName, isSub, sOrE, sM1, sM1T, ST.fAdd_int, fSub, fLe, fLt, fGt, fGe, eq_int, ne_int, cont?, setCont, List.replicate, fLen, sOwn, sApp, PD.sCallI, q8]; try exact rfl) ?_)
  -- the row
  refine Rt.nx (ρ' := [.dat Sc, .own r6, .dat (iN a), .dat (iN n), .dat (iN m), .dat A, .dat O, .dat P, .dat (iN d), .dat (iN (dfC c o).length), .dat (.tuple R), .un, .un, .un, .un]) (by
    by_cases hd0 : d = 0
    · have R0 : R = [] := List.length_eq_zero_iff.mp (by omega)
      have ne0 : fNe (.tuple []) (.tuple []) = some (.bool false) := rfl
      subst hd0
      rw [R0] at q9 ⊢
      simp [bodyP, bodyI, startE, startI, sSeq, sRet, sAsg, sExp, sIfS, sNx, sV, sB, sC, PD.s2, toT, sTr, truth, bne_dec, sChain, sAnd, sOr, sNot, sIf, tAnd', tOr', tNot', sNil, sCons, sCall, allD, sN, allR, PD.res, sTup, sLst, sFr, gN, gT, gsNil, gsCons, sIsi, tyName, isSub, sOrE, sM1, sM1T, ST.fAdd_int, fSub, fLe, fLt, fGt, fGe, eq_int, ne_int, cont?, setCont, List.replicate, fLen, sOwn, sApp, q9, fIsNot, ne0]
    · obtain ⟨e, he⟩ : ∃ e, d = e + 1 := ⟨d - 1, by omega⟩
      have hm0 := gt_mem FD Vo D1' (i := 0) (by omega)
      have hc0 := tkL_step V hm0
      have k1 : fIx (.tuple R) (.int 0) = some (tkD (gt a n D c 0)) := by
        rw [hR]
        exact (ix_at (xs := (gRow a n D c d).map tkD) (j := 0) (by rw [List.getElem?_map, gRow_get D c (by omega)]; rfl)).2
      have k2 := behind (a := a) (cells := c) (t := gt a n D c 0) hc0.1 (by omega)
      have k3 := distance n3 hc0.2 Vo
      have k4 := gw_far FD Vo D1' 1 (by omega)
      have k5 : DsA a n (step c (gt a n D c 0)) o (d - 1) := DsA.symm Vo k4
      rw [dsD_some k5] at k3
      have k6 : fNe (.tuple R) (.tuple []) = some (.bool true) := by
        rw [hR]
        exact ne_noT _ fun z => by have := congrArg List.length z; rw [gRow_len] at this; simp at this; omega
      have k7 : ((d - 1 : Nat) : Int) = (d : Int) - 1 := by omega
      rw [← hA'] at k2
      rw [← hO'] at k3
      obtain ⟨B, hB⟩ : ∃ Z, Z = ch a (step c (gt a n D c 0)) := ⟨_, rfl⟩
      obtain ⟨G, hG⟩ : ∃ Z, Z = tkD (gt a n D c 0) := ⟨_, rfl⟩
      rw [← hG] at k1
      rw [← hB, ← hG] at k2
      rw [← hB] at k3
      simp [bodyP, bodyI, startE, startI, sSeq, sRet, sAsg, sExp, sIfS, sNx, sV, sB, sC, PD.s2, toT, sTr, truth, bne_dec, sChain, sAnd, sOr, sNot, sIf, tAnd', tOr', tNot', sNil, sCons, sCall, allD, sN, allR, PD.res, sTup, sLst, sFr, gN, gT, gsNil, gsCons, sIsi, tyName, isSub, sOrE, sM1, sM1T, ST.fAdd_int, fSub, fLe, fLt, fGt, fGe, eq_int, ne_int, cont?, setCont, List.replicate, fLen, sOwn, sApp, Rl, q9, fIsNot, k6, k1, k2, k3, k7]) ?_
  refine Rt.nx (ρ' := [.dat Sc, .own r6, .dat (iN a), .dat (iN n), .dat (iN m), .dat A, .dat O, .dat P, .dat (iN d), .dat (iN (dfC c o).length), .dat (.tuple R), .dat (.list (L.map iN)), .un, .un, .un]) (by simp [bodyP, bodyI, startE, startI, sSeq, sRet, sAsg, sExp, sIfS, sNx, sV, sB, sC, PD.s2, toT, sTr, truth, bne_dec, sChain, sAnd, sOr, sNot, sIf, tAnd', tOr', tNot', sNil, sCons, sCall, allD, sN, allR, PD.res, sTup, sLst, sFr, gN, gT, gsNil, gsCons, sIsi, tyName, isSub, sOrE, sM1, sM1T, ST.fAdd_int, fSub, fLe, fLt, fGt, fGe, eq_int, ne_int, cont?, setCont, List.replicate, fLen, sOwn, sApp, u2]) ?_
  refine Rt.nx (ρ' := [.dat Sc, .own r6, .dat (iN a), .dat (iN n), .dat (iN m), .dat A, .dat O, .dat P, .dat (iN d), .dat (iN (dfC c o).length), .dat (.tuple R), .dat (.list (L.map iN)), .un, .un, .un]) (by
    have k0 := u3 (.dat (iN (dfC c o).length)) (.dat (.tuple R))
    have k9 : fNe (.list []) (.list []) = some (.bool false) := rfl
    by_cases hd0 : 0 < d
    · have k1 := min_is (Ln hd0) fun x hx => by have := Lm x hx; omega
      have k7 : ((d - 1 : Nat) : Int) = (d : Int) - 1 := by omega
      obtain ⟨LL, hLL⟩ : ∃ Z, Z = L.map iN := ⟨_, rfl⟩
      rw [← hLL] at k0 k1 ⊢
      simp [bodyP, bodyI, startE, startI, sSeq, sRet, sAsg, sExp, sIfS, sNx, sV, sB, sC, PD.s2, toT, sTr, truth, bne_dec, sChain, sAnd, sOr, sNot, sIf, tAnd', tOr', tNot', sNil, sCons, sCall, allD, sN, allR, PD.res, sTup, sLst, sFr, gN, gT, gsNil, gsCons, sIsi, tyName, isSub, sOrE, sM1, sM1T, ST.fAdd_int, fSub, fLe, fLt, fGt, fGe, eq_int, ne_int, cont?, setCont, List.replicate, fLen, sOwn, sApp, k0, sLst, k9, k1, k7, hd0]
    · obtain rfl : d = 0 := by omega
      obtain ⟨LL, hLL⟩ : ∃ Z, Z = L.map iN := ⟨_, rfl⟩
      rw [← hLL] at k0 ⊢
      have k0' := k0
      simp [bodyP, bodyI, startE, startI, sSeq, sRet, sAsg, sExp, sIfS, sNx, sV, sB, sC, PD.s2, toT, sTr, truth, bne_dec, sChain, sAnd, sOr, sNot, sIf, tAnd', tOr', tNot', sNil, sCons, sCall, allD, sN, allR, PD.res, sTup, sLst, sFr, gN, gT, gsNil, gsCons, sIsi, tyName, isSub, sOrE, sM1, sM1T, ST.fAdd_int, fSub, fLe, fLt, fGt, fGe, eq_int, ne_int, cont?, setCont, List.replicate, fLen, sOwn, sApp, k0, sLst, k9]) ?_
  (refine ST.Rt.nx (by simp [bodyP, bodyI, startE, startI, sSeq, sRet, sAsg, sExp, sIfS, sNx, sV, sB, sC, PD.s2, toT, sTr, truth, bne_dec, sChain, sAnd, sOr, sNot, sIf, tAnd', tOr', tNot', sNil, sCons, sCall, allD, sN, allR, PD.res, sTup, sLst, sFr, gN, gT, gsNil, gsCons, sIsi, tyName, isSub, sOrE, sM1, sM1T, ST.fAdd_int, fSub, fLe, fLt, fGt, fGe, eq_int, ne_int, cont?, setCont, List.replicate, fLen, sOwn, sApp, PD.sCallI, e7]; try exact rfl) ?_)
  have eqb : fEq (.bool (isNone Y)) (.bool (isNone Y)) = some (.bool true) := by cases isNone Y <;> rfl
  (refine ST.Rt.rt (by simp [bodyP, bodyI, startE, startI, sSeq, sRet, sAsg, sExp, sIfS, sNx, sV, sB, sC, PD.s2, toT, sTr, truth, bne_dec, sChain, sAnd, sOr, sNot, sIf, tAnd', tOr', tNot', sNil, sCons, sCall, allD, sN, allR, PD.res, sTup, sLst, sFr, gN, gT, gsNil, gsCons, sIsi, tyName, isSub, sOrE, sM1, sM1T, ST.fAdd_int, fSub, fLe, fLt, fGt, fGe, eq_int, ne_int, cont?, setCont, List.replicate, fLen, sOwn, sApp, PD.sCallI, q13, q14, q15, q16, eqb]; try exact rfl))
end ST
open PySem PySem.W PyProof.Rows PD
set_option maxRecDepth 100000 in
set_option maxHeartbeats 0 in
theorem PySem.Challenge.cw_starlands_k38_across_distances_holds : PySem.Challenge.rw_starlands_k38_across_distances.Holds := by
  w_on; o_law; k_head; (case hw => w_witness2)
  k_fill
  refine PD.walk_ofG (l := PySem.Challenge.rw_starlands_k38_across_distances) (n := 63) (k := 15) (x := "script") (CX := fun _ => L2.CX0) rfl (by decide) rfl ⟨rfl, by decide, by decide⟩ (fun w h Y => PySem.W.kIn_of Y) ?F (fun _ _ _ _ _ h => h)
  intro w mg fa h Y KX G hmg tab
  refine' withDk (x := "_law_taken") (st := S38.st__law_taken) (ps := ["row", "many"]) KX G ?a0 ?l0 ?c0 ?k0 (fun _ _ _ _ _ _ us hl => match us, hl with | [_, _], _ => rfl) ?next0
  (case a0 => k_is); (case l0 => k_is); (case c0 => k_is); (case k0 => k_is)
  intro f__law_taken fd__law_taken D__law_taken
  refine' withDk (x := "_law_island") (st := S38.st__law_island) (ps := ["row", "most"]) KX G ?a1 ?l1 ?c1 ?k1 (fun _ _ _ _ _ _ us hl => match us, hl with | [_, _], _ => rfl) ?next1
  (case a1 => k_is); (case l1 => k_is); (case c1 => k_is); (case k1 => k_is)
  intro f__law_island fd__law_island D__law_island
  refine' withDk (x := "_law_pick") (st := S38.st__law_pick) (ps := ["row", "things"]) KX G ?a2 ?l2 ?c2 ?k2 (fun _ _ _ _ _ _ us hl => match us, hl with | [_, _], _ => rfl) ?next2
  (case a2 => k_is); (case l2 => k_is); (case c2 => k_is); (case k2 => k_is)
  intro f__law_pick fd__law_pick D__law_pick
  refine' withDk (x := "_law_map") (st := S38.st__law_map) (ps := ["row", "arms", "length", "lands"]) KX G ?a3 ?l3 ?c3 ?k3 (fun _ _ _ _ _ _ us hl => match us, hl with | [_, _, _, _], _ => rfl) ?next3
  (case a3 => k_is); (case l3 => k_is); (case c3 => k_is); (case k3 => k_is)
  intro f__law_map fd__law_map D__law_map
  refine' withDk (x := "inner_cell") (st := S38.st_inner_cell) (ps := ["length", "cell"]) KX G ?a4 ?l4 ?c4 ?k4 (fun _ _ _ _ _ _ us hl => match us, hl with | [_, _], _ => rfl) ?next4
  (case a4 => k_is); (case l4 => k_is); (case c4 => k_is); (case k4 => k_is)
  intro f_inner_cell fd_inner_cell D_inner_cell
  refine' withDk (x := "hang_together") (st := S38.st_hang_together) (ps := ["length", "cells"]) KX G ?a5 ?l5 ?c5 ?k5 (fun _ _ _ _ _ _ us hl => match us, hl with | [_, _], _ => rfl) ?next5
  (case a5 => k_is); (case l5 => k_is); (case c5 => k_is); (case k5 => k_is)
  intro f_hang_together fd_hang_together D_hang_together
  refine' withDk (x := "is_pair") (st := S38.st_is_pair) (ps := ["value"]) KX G ?a6 ?l6 ?c6 ?k6 (fun _ _ _ _ _ _ us hl => match us, hl with | [_], _ => rfl) ?next6
  (case a6 => k_is); (case l6 => k_is); (case c6 => k_is); (case k6 => k_is)
  intro f_is_pair fd_is_pair D_is_pair
  refine' withDk (x := "is_whole") (st := S38.st_is_whole) (ps := ["value"]) KX G ?a7 ?l7 ?c7 ?k7 (fun _ _ _ _ _ _ us hl => match us, hl with | [_], _ => rfl) ?next7
  (case a7 => k_is); (case l7 => k_is); (case c7 => k_is); (case k7 => k_is)
  intro f_is_whole fd_is_whole D_is_whole
  refine' withDk (x := "is_integer") (st := S38.st_is_integer) (ps := ["value", "low", "high"]) KX G ?a8 ?l8 ?c8 ?k8 (fun _ _ _ _ _ _ us hl => match us, hl with | [_, _, _], _ => rfl) ?next8
  (case a8 => k_is); (case l8 => k_is); (case c8 => k_is); (case k8 => k_is)
  intro f_is_integer fd_is_integer D_is_integer
  refine' withDg (x := "are_integers") (st := S38.st_are_integers) (ps := ["value", "low", "high"]) KX G tab (by decide +kernel) ?a9 ?l9 ?c9 ?k9 ?lc9 ?h119 ?nP9 (fun _ _ _ _ _ _ us hl => match us, hl with | [_, _, _], _ => rfl) ?next9
  (case a9 => k_is); (case l9 => k_is); (case c9 => k_is); (case k9 => k_is); (case lc9 => k_is); (case h119 => rfl); (case nP9 => kernel_rfl)
  intro f_are_integers fd_are_integers c_are_integers P_are_integers D_are_integers T1_are_integers T2_are_integers T3_are_integers
  refine' withDk (x := "is_chart") (st := S38.st_is_chart) (ps := ["value"]) KX G ?a10 ?l10 ?c10 ?k10 (fun _ _ _ _ _ _ us hl => match us, hl with | [_], _ => rfl) ?next10
  (case a10 => k_is); (case l10 => k_is); (case c10 => k_is); (case k10 => k_is)
  intro f_is_chart fd_is_chart D_is_chart
  refine' withDk (x := "check_chart") (st := S38.st_check_chart) (ps := ["chart"]) KX G ?a11 ?l11 ?c11 ?k11 (fun _ _ _ _ _ _ us hl => match us, hl with | [_], _ => rfl) ?next11
  (case a11 => k_is); (case l11 => k_is); (case c11 => k_is); (case k11 => k_is)
  intro f_check_chart fd_check_chart D_check_chart
  refine' withDk (x := "is_like") (st := S38.st_is_like) (ps := ["one", "other"]) KX G ?a12 ?l12 ?c12 ?k12 (fun _ _ _ _ _ _ us hl => match us, hl with | [_, _], _ => rfl) ?next12
  (case a12 => k_is); (case l12 => k_is); (case c12 => k_is); (case k12 => k_is)
  intro f_is_like fd_is_like D_is_like
  refine' withDk (x := "check_both") (st := S38.st_check_both) (ps := ["one", "other"]) KX G ?a13 ?l13 ?c13 ?k13 (fun _ _ _ _ _ _ us hl => match us, hl with | [_, _], _ => rfl) ?next13
  (case a13 => k_is); (case l13 => k_is); (case c13 => k_is); (case k13 => k_is)
  intro f_check_both fd_check_both D_check_both
  refine' withDk (x := "length_of") (st := S38.st_length_of) (ps := ["chart"]) KX G ?a14 ?l14 ?c14 ?k14 (fun _ _ _ _ _ _ us hl => match us, hl with | [_], _ => rfl) ?next14
  (case a14 => k_is); (case l14 => k_is); (case c14 => k_is); (case k14 => k_is)
  intro f_length_of fd_length_of D_length_of
  refine' withDk (x := "touching_cells") (st := S38.st_touching_cells) (ps := ["arms", "length", "cell"]) KX G ?a15 ?l15 ?c15 ?k15 (fun _ _ _ _ _ _ us hl => match us, hl with | [_, _, _], _ => rfl) ?next15
  (case a15 => k_is); (case l15 => k_is); (case c15 => k_is); (case k15 => k_is)
  intro f_touching_cells fd_touching_cells D_touching_cells
  refine' withDk (x := "touch_table") (st := S38.st_touch_table) (ps := ["chart"]) KX G ?a16 ?l16 ?c16 ?k16 (fun _ _ _ _ _ _ us hl => match us, hl with | [_], _ => rfl) ?next16
  (case a16 => k_is); (case l16 => k_is); (case c16 => k_is); (case k16 => k_is)
  intro f_touch_table fd_touch_table D_touch_table
  refine' withDk (x := "made") (st := S38.st_made) (ps := ["cells", "taking"]) KX G ?a17 ?l17 ?c17 ?k17 (fun _ _ _ _ _ _ us hl => match us, hl with | [_, _], _ => rfl) ?next17
  (case a17 => k_is); (case l17 => k_is); (case c17 => k_is); (case k17 => k_is)
  intro f_made fd_made D_made
  refine' withDk (x := "steps_by") (st := S38.st_steps_by__ready_takings) (ps := ["chart", "choices"]) KX G ?a18 ?l18 ?c18 ?k18 (fun _ _ _ _ _ _ us hl => match us, hl with | [_, _], _ => rfl) ?next18
  (case a18 => k_is); (case l18 => k_is); (case c18 => k_is); (case k18 => k_is)
  intro f_steps_by fd_steps_by D_steps_by
  refine' withDk (x := "can_lose") (st := S38.st_can_lose) (ps := ["loser", "near"]) KX G ?a19 ?l19 ?c19 ?k19 (fun _ _ _ _ _ _ us hl => match us, hl with | [_, _], _ => rfl) ?next19
  (case a19 => k_is); (case l19 => k_is); (case c19 => k_is); (case k19 => k_is)
  intro f_can_lose fd_can_lose D_can_lose
  refine' withDk (x := "ready_takings") (st := S38.st_ready_takings) (ps := ["table", "cells"]) KX G ?a20 ?l20 ?c20 ?k20 (fun _ _ _ _ _ _ us hl => match us, hl with | [_, _], _ => rfl) ?next20
  (case a20 => k_is); (case l20 => k_is); (case c20 => k_is); (case k20 => k_is)
  intro f_ready_takings fd_ready_takings D_ready_takings
  refine' withDk (x := "steps_from") (st := S38.st_steps_from) (ps := ["chart"]) KX G ?a21 ?l21 ?c21 ?k21 (fun _ _ _ _ _ _ us hl => match us, hl with | [_], _ => rfl) ?next21
  (case a21 => k_is); (case l21 => k_is); (case c21 => k_is); (case k21 => k_is)
  intro f_steps_from fd_steps_from D_steps_from
  refine' withDk (x := "distance") (st := S38.st_distance) (ps := ["one", "other"]) KX G ?a22 ?l22 ?c22 ?k22 (fun _ _ _ _ _ _ us hl => match us, hl with | [_, _], _ => rfl) ?next22
  (case a22 => k_is); (case l22 => k_is); (case c22 => k_is); (case k22 => k_is)
  intro f_distance fd_distance D_distance
  refine' withDk (x := "nearing") (st := S38.st_nearing) (ps := ["table", "steps", "cells"]) KX G ?a23 ?l23 ?c23 ?k23 (fun _ _ _ _ _ _ us hl => match us, hl with | [_, _, _], _ => rfl) ?next23
  (case a23 => k_is); (case l23 => k_is); (case c23 => k_is); (case k23 => k_is)
  intro f_nearing fd_nearing D_nearing
  refine' withDk (x := "fewest") (st := S38.st_fewest) (ps := ["one", "other"]) KX G ?a24 ?l24 ?c24 ?k24 (fun _ _ _ _ _ _ us hl => match us, hl with | [_, _], _ => rfl) ?next24
  (case a24 => k_is); (case l24 => k_is); (case c24 => k_is); (case k24 => k_is)
  intro f_fewest fd_fewest D_fewest
  refine' withDk (x := "lands_met") (st := S38.st_lands_met) (ps := ["hub", "row"]) KX G ?a25 ?l25 ?c25 ?k25 (fun _ _ _ _ _ _ us hl => match us, hl with | [_, _], _ => rfl) ?next25
  (case a25 => k_is); (case l25 => k_is); (case c25 => k_is); (case k25 => k_is)
  intro f_lands_met fd_lands_met D_lands_met
  refine' withDk (x := "arm_rows") (st := S38.st_arm_rows) (ps := ["chart"]) KX G ?a26 ?l26 ?c26 ?k26 (fun _ _ _ _ _ _ us hl => match us, hl with | [_], _ => rfl) ?next26
  (case a26 => k_is); (case l26 => k_is); (case c26 => k_is); (case k26 => k_is)
  intro f_arm_rows fd_arm_rows D_arm_rows
  refine' withDk (x := "orders") (st := S38.st_orders) (ps := ["chart"]) KX G ?a27 ?l27 ?c27 ?k27 (fun _ _ _ _ _ _ us hl => match us, hl with | [_], _ => rfl) ?next27
  (case a27 => k_is); (case l27 => k_is); (case c27 => k_is); (case k27 => k_is)
  intro f_orders fd_orders D_orders
  refine' withDk (x := "lands_on") (st := S38.st_lands_on) (ps := ["chart"]) KX G ?a28 ?l28 ?c28 ?k28 (fun _ _ _ _ _ _ us hl => match us, hl with | [_], _ => rfl) ?next28
  (case a28 => k_is); (case l28 => k_is); (case c28 => k_is); (case k28 => k_is)
  intro f_lands_on fd_lands_on D_lands_on
  refine' withDk (x := "bare_arms") (st := S38.st_bare_arms) (ps := ["chart"]) KX G ?a29 ?l29 ?c29 ?k29 (fun _ _ _ _ _ _ us hl => match us, hl with | [_], _ => rfl) ?next29
  (case a29 => k_is); (case l29 => k_is); (case c29 => k_is); (case k29 => k_is)
  intro f_bare_arms fd_bare_arms D_bare_arms
  refine' withDk (x := "is_frozen") (st := S38.st_is_frozen) (ps := ["chart"]) KX G ?a30 ?l30 ?c30 ?k30 (fun _ _ _ _ _ _ us hl => match us, hl with | [_], _ => rfl) ?next30
  (case a30 => k_is); (case l30 => k_is); (case c30 => k_is); (case k30 => k_is)
  intro f_is_frozen fd_is_frozen D_is_frozen
  refine' withDk (x := "_law_near") (st := S38.st__law_near) (ps := ["arms", "length", "cell"]) KX G ?a31 ?l31 ?c31 ?k31 (fun _ _ _ _ _ _ us hl => match us, hl with | [_, _, _], _ => rfl) ?next31
  (case a31 => k_is); (case l31 => k_is); (case c31 => k_is); (case k31 => k_is)
  intro f__law_near fd__law_near D__law_near
  refine' withDk (x := "_law_hangs") (st := S38.st__law_hangs) (ps := ["arms", "length", "some"]) KX G ?a32 ?l32 ?c32 ?k32 (fun _ _ _ _ _ _ us hl => match us, hl with | [_, _, _], _ => rfl) ?next32
  (case a32 => k_is); (case l32 => k_is); (case c32 => k_is); (case k32 => k_is)
  intro f__law_hangs fd__law_hangs D__law_hangs
  refine' withDk (x := "_law_takings") (st := S38.st__law_takings) (ps := ["chart"]) KX G ?a33 ?l33 ?c33 ?k33 (fun _ _ _ _ _ _ us hl => match us, hl with | [_], _ => rfl) ?next33
  (case a33 => k_is); (case l33 => k_is); (case c33 => k_is); (case k33 => k_is)
  intro f__law_takings fd__law_takings D__law_takings
  refine' withDk (x := "_law_behind") (st := S38.st__law_behind) (ps := ["chart", "taking"]) KX G ?a34 ?l34 ?c34 ?k34 (fun _ _ _ _ _ _ us hl => match us, hl with | [_, _], _ => rfl) ?next34
  (case a34 => k_is); (case l34 => k_is); (case c34 => k_is); (case k34 => k_is)
  intro f__law_behind fd__law_behind D__law_behind
  refine' withDk (x := "_law_walk") (st := S38.st__law_walk) (ps := ["row", "chart", "many"]) KX G ?a35 ?l35 ?c35 ?k35 (fun _ _ _ _ _ _ us hl => match us, hl with | [_, _, _], _ => rfl) ?next35
  (case a35 => k_is); (case l35 => k_is); (case c35 => k_is); (case k35 => k_is)
  intro f__law_walk fd__law_walk D__law_walk
  refine' withDk (x := "farthest") (st := S38.st_farthest) (ps := ["chart"]) KX G ?a36 ?l36 ?c36 ?k36 (fun _ _ _ _ _ _ us hl => match us, hl with | [_], _ => rfl) ?next36
  (case a36 => k_is); (case l36 => k_is); (case c36 => k_is); (case k36 => k_is)
  intro f_farthest fd_farthest D_farthest
  refine' withDk (x := "own_lands") (st := S38.st_own_lands) (ps := ["chart"]) KX G ?a37 ?l37 ?c37 ?k37 (fun _ _ _ _ _ _ us hl => match us, hl with | [_], _ => rfl) ?next37
  (case a37 => k_is); (case l37 => k_is); (case c37 => k_is); (case k37 => k_is)
  intro f_own_lands fd_own_lands D_own_lands
  refine' withDk (x := "same_class") (st := S38.st_same_class) (ps := ["one", "other"]) KX G ?a38 ?l38 ?c38 ?k38 (fun _ _ _ _ _ _ us hl => match us, hl with | [_, _], _ => rfl) ?next38
  (case a38 => k_is); (case l38 => k_is); (case c38 => k_is); (case k38 => k_is)
  intro f_same_class fd_same_class D_same_class
  refine' withDk (x := "check_one_class") (st := S38.st_check_one_class) (ps := ["one", "other"]) KX G ?a39 ?l39 ?c39 ?k39 (fun _ _ _ _ _ _ us hl => match us, hl with | [_, _], _ => rfl) ?next39
  (case a39 => k_is); (case l39 => k_is); (case c39 => k_is); (case k39 => k_is)
  intro f_check_one_class fd_check_one_class D_check_one_class
  refine' withDk (x := "places_on") (st := S38.st_places_on) (ps := ["hub", "row"]) KX G ?a40 ?l40 ?c40 ?k40 (fun _ _ _ _ _ _ us hl => match us, hl with | [_, _], _ => rfl) ?next40
  (case a40 => k_is); (case l40 => k_is); (case c40 => k_is); (case k40 => k_is)
  intro f_places_on fd_places_on D_places_on
  refine' withDk (x := "border_places") (st := S38.st_border_places) (ps := ["chart"]) KX G ?a41 ?l41 ?c41 ?k41 (fun _ _ _ _ _ _ us hl => match us, hl with | [_], _ => rfl) ?next41
  (case a41 => k_is); (case l41 => k_is); (case c41 => k_is); (case k41 => k_is)
  intro f_border_places fd_border_places D_border_places
  refine' withDk (x := "frozen_distance") (st := S38.st_frozen_distance) (ps := ["one", "other"]) KX G ?a42 ?l42 ?c42 ?k42 (fun _ _ _ _ _ _ us hl => match us, hl with | [_, _], _ => rfl) ?next42
  (case a42 => k_is); (case l42 => k_is); (case c42 => k_is); (case k42 => k_is)
  intro f_frozen_distance fd_frozen_distance D_frozen_distance
  refine' withDk (x := "is_land") (st := S38.st_is_land) (ps := ["chart", "value"]) KX G ?a43 ?l43 ?c43 ?k43 (fun _ _ _ _ _ _ us hl => match us, hl with | [_, _], _ => rfl) ?next43
  (case a43 => k_is); (case l43 => k_is); (case c43 => k_is); (case k43 => k_is)
  intro f_is_land fd_is_land D_is_land
  refine' withDk (x := "is_taking") (st := S38.st_is_taking) (ps := ["chart", "value"]) KX G ?a44 ?l44 ?c44 ?k44 (fun _ _ _ _ _ _ us hl => match us, hl with | [_, _], _ => rfl) ?next44
  (case a44 => k_is); (case l44 => k_is); (case c44 => k_is); (case k44 => k_is)
  intro f_is_taking fd_is_taking D_is_taking
  refine' withDk (x := "can_make") (st := S38.st_can_make) (ps := ["table", "cells", "taking"]) KX G ?a45 ?l45 ?c45 ?k45 (fun _ _ _ _ _ _ us hl => match us, hl with | [_, _, _], _ => rfl) ?next45
  (case a45 => k_is); (case l45 => k_is); (case c45 => k_is); (case k45 => k_is)
  intro f_can_make fd_can_make D_can_make
  refine' withDk (x := "walked") (st := S38.st_walked) (ps := ["chart", "row"]) KX G ?a46 ?l46 ?c46 ?k46 (fun _ _ _ _ _ _ us hl => match us, hl with | [_, _], _ => rfl) ?next46
  (case a46 => k_is); (case l46 => k_is); (case c46 => k_is); (case k46 => k_is)
  intro f_walked fd_walked D_walked
  refine' withDk (x := "leads_to") (st := S38.st_leads_to) (ps := ["one", "other", "row"]) KX G ?a47 ?l47 ?c47 ?k47 (fun _ _ _ _ _ _ us hl => match us, hl with | [_, _, _], _ => rfl) ?next47
  (case a47 => k_is); (case l47 => k_is); (case c47 => k_is); (case k47 => k_is)
  intro f_leads_to fd_leads_to D_leads_to
  refine' withDk (x := "shows_fewest") (st := S38.st_shows_fewest) (ps := ["one", "other", "value"]) KX G ?a48 ?l48 ?c48 ?k48 (fun _ _ _ _ _ _ us hl => match us, hl with | [_, _, _], _ => rfl) ?next48
  (case a48 => k_is); (case l48 => k_is); (case c48 => k_is); (case k48 => k_is)
  intro f_shows_fewest fd_shows_fewest D_shows_fewest
  refine' withDk (x := "takings") (st := S38.st_takings) (ps := ["chart"]) KX G ?a49 ?l49 ?c49 ?k49 (fun _ _ _ _ _ _ us hl => match us, hl with | [_], _ => rfl) ?next49
  (case a49 => k_is); (case l49 => k_is); (case c49 => k_is); (case k49 => k_is)
  intro f_takings fd_takings D_takings
  refine' withDk (x := "law") (st := S38.st_law) (ps := ["script"]) KX G ?a50 ?l50 ?c50 ?k50 (fun _ _ _ _ _ _ us hl => match us, hl with | [_], _ => rfl) ?next50
  (case a50 => k_is); (case l50 => k_is); (case c50 => k_is); (case k50 => k_is)
  intro f_law fd_law D_law
  refine' withC (x := "MOST_ARMS") KX G ?c_MOST_ARMS ?nc_MOST_ARMS
  (case c_MOST_ARMS => k_is)
  intro C_MOST_ARMS
  refine' withC (x := "MOST_LENGTH") KX G ?c_MOST_LENGTH ?nc_MOST_LENGTH
  (case c_MOST_LENGTH => k_is)
  intro C_MOST_LENGTH
  have B : S38.Bt mg := by
    refine' ⟨PySem.W.mg_none_of KX G ?n_abs, PySem.W.mg_none_of KX G ?n_all, PySem.W.mg_none_of KX G ?n_bool, PySem.W.mg_none_of KX G ?n_divmod, PySem.W.mg_none_of KX G ?n_enumerate, PySem.W.mg_none_of KX G ?n_int, PySem.W.mg_none_of KX G ?n_isinstance, PySem.W.mg_none_of KX G ?n_len, PySem.W.mg_none_of KX G ?n_list, PySem.W.mg_none_of KX G ?n_max, PySem.W.mg_none_of KX G ?n_min, PySem.W.mg_none_of KX G ?n_range, PySem.W.mg_none_of KX G ?n_set, PySem.W.mg_none_of KX G ?n_sorted, PySem.W.mg_none_of KX G ?n_sum, PySem.W.mg_none_of KX G ?n_tuple, PySem.W.mg_none_of KX G ?n_zip, ⟨_, C_MOST_ARMS⟩, ⟨_, C_MOST_LENGTH⟩⟩
    (case n_abs => k_is); (case n_all => k_is); (case n_bool => k_is); (case n_divmod => k_is); (case n_enumerate => k_is); (case n_int => k_is); (case n_isinstance => k_is); (case n_len => k_is); (case n_list => k_is); (case n_max => k_is); (case n_min => k_is); (case n_range => k_is); (case n_set => k_is); (case n_sorted => k_is); (case n_sum => k_is); (case n_tuple => k_is); (case n_zip => k_is)
  have e := hmg.symm.trans D_law.mg
  cases e
  refine lawAtS_of [(c_are_integers, P_are_integers)] ST.p_law_k38 ?kt ?_ ?_ ?_ (D_law.bindsTo fun _ _ _ _ _ _ _ => rfl) (fun ns hl hb => ST.math_k38 ns hl hb) ?_
  case kt => first | kernel_rfl | decide +kernel
  · intro p hp
    simp only [List.mem_cons, List.not_mem_nil, or_false] at hp
    subst hp
    · exact T1_are_integers
  · intro p hp
    simp only [List.mem_cons, List.not_mem_nil, or_false] at hp
    subst hp
    · exact T2_are_integers
  · intro p hp
    simp only [List.mem_cons, List.not_mem_nil, or_false] at hp
    subst hp
    · exact T3_are_integers
  · intro base KB GB hT
    have TB_are_integers := hT (c_are_integers, P_are_integers) (by simp)
    have G__law_taken := S38.ok__law_taken (P := PySem.Challenge.rw_starlands_k38_across_distances.prog) (w := w) (base := base) (T := [(c_are_integers, P_are_integers)].map (·.2)) D__law_taken B
    have G__law_island := S38.ok__law_island (P := PySem.Challenge.rw_starlands_k38_across_distances.prog) (w := w) (base := base) (T := [(c_are_integers, P_are_integers)].map (·.2)) D__law_island B D__law_taken G__law_taken
    have G__law_pick := S38.ok__law_pick (P := PySem.Challenge.rw_starlands_k38_across_distances.prog) (w := w) (base := base) (T := [(c_are_integers, P_are_integers)].map (·.2)) D__law_pick B D__law_taken G__law_taken
    have G__law_map := S38.ok__law_map (P := PySem.Challenge.rw_starlands_k38_across_distances.prog) (w := w) (base := base) (T := [(c_are_integers, P_are_integers)].map (·.2)) D__law_map B D__law_pick G__law_pick
    have G_inner_cell := S38.ok_inner_cell (P := PySem.Challenge.rw_starlands_k38_across_distances.prog) (w := w) (base := base) (T := [(c_are_integers, P_are_integers)].map (·.2)) D_inner_cell B
    have G_hang_together := S38.ok_hang_together (P := PySem.Challenge.rw_starlands_k38_across_distances.prog) (w := w) (base := base) (T := [(c_are_integers, P_are_integers)].map (·.2)) D_hang_together B D_inner_cell G_inner_cell
    have G_is_pair := S38.ok_is_pair (P := PySem.Challenge.rw_starlands_k38_across_distances.prog) (w := w) (base := base) (T := [(c_are_integers, P_are_integers)].map (·.2)) D_is_pair B
    have G_is_whole := S38.ok_is_whole (P := PySem.Challenge.rw_starlands_k38_across_distances.prog) (w := w) (base := base) (T := [(c_are_integers, P_are_integers)].map (·.2)) D_is_whole B
    have G_is_integer := S38.ok_is_integer (P := PySem.Challenge.rw_starlands_k38_across_distances.prog) (w := w) (base := base) (T := [(c_are_integers, P_are_integers)].map (·.2)) D_is_integer B D_is_whole G_is_whole
    have G_are_integers := S38.ok_are_integers (P := PySem.Challenge.rw_starlands_k38_across_distances.prog) (w := w) (base := base) (T := [(c_are_integers, P_are_integers)].map (·.2)) D_are_integers B TB_are_integers (by simp) D_is_integer G_is_integer
    have G_is_chart := S38.ok_is_chart (P := PySem.Challenge.rw_starlands_k38_across_distances.prog) (w := w) (base := base) (T := [(c_are_integers, P_are_integers)].map (·.2)) D_is_chart B D_is_pair G_is_pair D_is_integer G_is_integer D_are_integers G_are_integers D_hang_together G_hang_together
    have G_check_chart := S38.ok_check_chart (P := PySem.Challenge.rw_starlands_k38_across_distances.prog) (w := w) (base := base) (T := [(c_are_integers, P_are_integers)].map (·.2)) D_check_chart B D_is_chart G_is_chart
    have G_is_like := S38.ok_is_like (P := PySem.Challenge.rw_starlands_k38_across_distances.prog) (w := w) (base := base) (T := [(c_are_integers, P_are_integers)].map (·.2)) D_is_like B
    have G_check_both := S38.ok_check_both (P := PySem.Challenge.rw_starlands_k38_across_distances.prog) (w := w) (base := base) (T := [(c_are_integers, P_are_integers)].map (·.2)) D_check_both B D_check_chart G_check_chart D_is_like G_is_like
    have G_length_of := S38.ok_length_of (P := PySem.Challenge.rw_starlands_k38_across_distances.prog) (w := w) (base := base) (T := [(c_are_integers, P_are_integers)].map (·.2)) D_length_of B
    have G_touching_cells := S38.ok_touching_cells (P := PySem.Challenge.rw_starlands_k38_across_distances.prog) (w := w) (base := base) (T := [(c_are_integers, P_are_integers)].map (·.2)) D_touching_cells B D_inner_cell G_inner_cell
    have G_touch_table := S38.ok_touch_table (P := PySem.Challenge.rw_starlands_k38_across_distances.prog) (w := w) (base := base) (T := [(c_are_integers, P_are_integers)].map (·.2)) D_touch_table B D_length_of G_length_of D_touching_cells G_touching_cells
    have G_made := S38.ok_made (P := PySem.Challenge.rw_starlands_k38_across_distances.prog) (w := w) (base := base) (T := [(c_are_integers, P_are_integers)].map (·.2)) D_made B
    have G_can_lose := S38.ok_can_lose (P := PySem.Challenge.rw_starlands_k38_across_distances.prog) (w := w) (base := base) (T := [(c_are_integers, P_are_integers)].map (·.2)) D_can_lose B
    have G_ready_takings := S38.ok_ready_takings (P := PySem.Challenge.rw_starlands_k38_across_distances.prog) (w := w) (base := base) (T := [(c_are_integers, P_are_integers)].map (·.2)) D_ready_takings B D_can_lose G_can_lose
    have G_steps_by__ready_takings := S38.ok_steps_by__ready_takings (P := PySem.Challenge.rw_starlands_k38_across_distances.prog) (w := w) (base := base) (T := [(c_are_integers, P_are_integers)].map (·.2)) D_steps_by B D_touch_table G_touch_table D_ready_takings G_ready_takings D_made G_made
    have G_steps_from := S38.ok_steps_from (P := PySem.Challenge.rw_starlands_k38_across_distances.prog) (w := w) (base := base) (T := [(c_are_integers, P_are_integers)].map (·.2)) D_steps_from B D_ready_takings G_ready_takings D_steps_by G_steps_by__ready_takings
    have G_distance := S38.ok_distance (P := PySem.Challenge.rw_starlands_k38_across_distances.prog) (w := w) (base := base) (T := [(c_are_integers, P_are_integers)].map (·.2)) D_distance B D_check_both G_check_both D_steps_from G_steps_from
    have G_nearing := S38.ok_nearing (P := PySem.Challenge.rw_starlands_k38_across_distances.prog) (w := w) (base := base) (T := [(c_are_integers, P_are_integers)].map (·.2)) D_nearing B D_ready_takings G_ready_takings D_made G_made
    have G_fewest := S38.ok_fewest (P := PySem.Challenge.rw_starlands_k38_across_distances.prog) (w := w) (base := base) (T := [(c_are_integers, P_are_integers)].map (·.2)) D_fewest B D_check_both G_check_both D_steps_from G_steps_from D_touch_table G_touch_table D_nearing G_nearing D_made G_made
    have G_lands_met := S38.ok_lands_met (P := PySem.Challenge.rw_starlands_k38_across_distances.prog) (w := w) (base := base) (T := [(c_are_integers, P_are_integers)].map (·.2)) D_lands_met B
    have G_arm_rows := S38.ok_arm_rows (P := PySem.Challenge.rw_starlands_k38_across_distances.prog) (w := w) (base := base) (T := [(c_are_integers, P_are_integers)].map (·.2)) D_arm_rows B D_length_of G_length_of
    have G_orders := S38.ok_orders (P := PySem.Challenge.rw_starlands_k38_across_distances.prog) (w := w) (base := base) (T := [(c_are_integers, P_are_integers)].map (·.2)) D_orders B D_check_chart G_check_chart D_arm_rows G_arm_rows D_lands_met G_lands_met
    have G_lands_on := S38.ok_lands_on (P := PySem.Challenge.rw_starlands_k38_across_distances.prog) (w := w) (base := base) (T := [(c_are_integers, P_are_integers)].map (·.2)) D_lands_on B D_orders G_orders
    have G_bare_arms := S38.ok_bare_arms (P := PySem.Challenge.rw_starlands_k38_across_distances.prog) (w := w) (base := base) (T := [(c_are_integers, P_are_integers)].map (·.2)) D_bare_arms B D_lands_on G_lands_on
    have G_is_frozen := S38.ok_is_frozen (P := PySem.Challenge.rw_starlands_k38_across_distances.prog) (w := w) (base := base) (T := [(c_are_integers, P_are_integers)].map (·.2)) D_is_frozen B D_bare_arms G_bare_arms
    have G__law_near := S38.ok__law_near (P := PySem.Challenge.rw_starlands_k38_across_distances.prog) (w := w) (base := base) (T := [(c_are_integers, P_are_integers)].map (·.2)) D__law_near B
    have G__law_hangs := S38.ok__law_hangs (P := PySem.Challenge.rw_starlands_k38_across_distances.prog) (w := w) (base := base) (T := [(c_are_integers, P_are_integers)].map (·.2)) D__law_hangs B D__law_near G__law_near
    have G__law_takings := S38.ok__law_takings (P := PySem.Challenge.rw_starlands_k38_across_distances.prog) (w := w) (base := base) (T := [(c_are_integers, P_are_integers)].map (·.2)) D__law_takings B D__law_near G__law_near D__law_hangs G__law_hangs
    have G__law_behind := S38.ok__law_behind (P := PySem.Challenge.rw_starlands_k38_across_distances.prog) (w := w) (base := base) (T := [(c_are_integers, P_are_integers)].map (·.2)) D__law_behind B
    have G__law_walk := S38.ok__law_walk (P := PySem.Challenge.rw_starlands_k38_across_distances.prog) (w := w) (base := base) (T := [(c_are_integers, P_are_integers)].map (·.2)) D__law_walk B D__law_takings G__law_takings D__law_pick G__law_pick D__law_behind G__law_behind
    have G_farthest := S38.ok_farthest (P := PySem.Challenge.rw_starlands_k38_across_distances.prog) (w := w) (base := base) (T := [(c_are_integers, P_are_integers)].map (·.2)) D_farthest B D_check_chart G_check_chart D_steps_from G_steps_from
    have G_own_lands := S38.ok_own_lands (P := PySem.Challenge.rw_starlands_k38_across_distances.prog) (w := w) (base := base) (T := [(c_are_integers, P_are_integers)].map (·.2)) D_own_lands B D_check_chart G_check_chart D_is_frozen G_is_frozen D_arm_rows G_arm_rows
    have G_same_class := S38.ok_same_class (P := PySem.Challenge.rw_starlands_k38_across_distances.prog) (w := w) (base := base) (T := [(c_are_integers, P_are_integers)].map (·.2)) D_same_class B D_check_chart G_check_chart D_is_like G_is_like D_is_frozen G_is_frozen D_orders G_orders D_own_lands G_own_lands
    have G_check_one_class := S38.ok_check_one_class (P := PySem.Challenge.rw_starlands_k38_across_distances.prog) (w := w) (base := base) (T := [(c_are_integers, P_are_integers)].map (·.2)) D_check_one_class B D_same_class G_same_class
    have G_places_on := S38.ok_places_on (P := PySem.Challenge.rw_starlands_k38_across_distances.prog) (w := w) (base := base) (T := [(c_are_integers, P_are_integers)].map (·.2)) D_places_on B
    have G_border_places := S38.ok_border_places (P := PySem.Challenge.rw_starlands_k38_across_distances.prog) (w := w) (base := base) (T := [(c_are_integers, P_are_integers)].map (·.2)) D_border_places B D_check_chart G_check_chart D_arm_rows G_arm_rows D_places_on G_places_on
    have G_frozen_distance := S38.ok_frozen_distance (P := PySem.Challenge.rw_starlands_k38_across_distances.prog) (w := w) (base := base) (T := [(c_are_integers, P_are_integers)].map (·.2)) D_frozen_distance B D_is_frozen G_is_frozen D_check_one_class G_check_one_class D_border_places G_border_places
    have G_is_land := S38.ok_is_land (P := PySem.Challenge.rw_starlands_k38_across_distances.prog) (w := w) (base := base) (T := [(c_are_integers, P_are_integers)].map (·.2)) D_is_land B D_is_integer G_is_integer
    have G_is_taking := S38.ok_is_taking (P := PySem.Challenge.rw_starlands_k38_across_distances.prog) (w := w) (base := base) (T := [(c_are_integers, P_are_integers)].map (·.2)) D_is_taking B D_is_pair G_is_pair D_is_land G_is_land D_is_integer G_is_integer
    have G_can_make := S38.ok_can_make (P := PySem.Challenge.rw_starlands_k38_across_distances.prog) (w := w) (base := base) (T := [(c_are_integers, P_are_integers)].map (·.2)) D_can_make B D_can_lose G_can_lose
    have G_walked := S38.ok_walked (P := PySem.Challenge.rw_starlands_k38_across_distances.prog) (w := w) (base := base) (T := [(c_are_integers, P_are_integers)].map (·.2)) D_walked B D_touch_table G_touch_table D_is_taking G_is_taking D_can_make G_can_make D_made G_made
    have G_leads_to := S38.ok_leads_to (P := PySem.Challenge.rw_starlands_k38_across_distances.prog) (w := w) (base := base) (T := [(c_are_integers, P_are_integers)].map (·.2)) D_leads_to B D_walked G_walked
    have G_shows_fewest := S38.ok_shows_fewest (P := PySem.Challenge.rw_starlands_k38_across_distances.prog) (w := w) (base := base) (T := [(c_are_integers, P_are_integers)].map (·.2)) D_shows_fewest B D_distance G_distance D_leads_to G_leads_to
    have G_takings := S38.ok_takings (P := PySem.Challenge.rw_starlands_k38_across_distances.prog) (w := w) (base := base) (T := [(c_are_integers, P_are_integers)].map (·.2)) D_takings B D_check_chart G_check_chart D_ready_takings G_ready_takings D_touch_table G_touch_table
    have G_law := S38.ok_law (P := PySem.Challenge.rw_starlands_k38_across_distances.prog) (w := w) (base := base) (T := [(c_are_integers, P_are_integers)].map (·.2)) D_law B D__law_island G__law_island D__law_map G__law_map D__law_walk G__law_walk D__law_taken G__law_taken D_distance G_distance D_farthest G_farthest D_is_frozen G_is_frozen D_frozen_distance G_frozen_distance D_fewest G_fewest D_shows_fewest G_shows_fewest D__law_behind G__law_behind D_takings G_takings
    exact G_law

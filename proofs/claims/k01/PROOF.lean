import PyProof.Rows.All
import Wide.All
import OpenK.AllK
import Wide.FinOn
import HandS.ForMost
import HandS.IsInst
import HandS.ExcValue
import HandS.ExcIs
import HandS.Small
import HandS.Dict
import KE.KDictDisplayH
import HandS.Walk
import HandS.TupAny
import HandS.Words
import HandS.Zip
import PyProof.EqAt
import PyProof.EqKinds
import PyProof.TupleCall
import KE.SortData
import HandS.Base
import HandS.Call
import HandS.List
import HandS.Comp
import HandS.Set
import HandS.SetBool
import HandS.Strs
import HandS.SetFor
import PyProof.Rows.SetFrom
import HandS.Nested
import PyProof.Draws
import PyProof.EnumMake
import KE.GoesMore
import HandS.Iter
import HandS.Style
import PyProof.StrLawsRepr
import PyProof.ReprLen
import PyProof.FitsInt
import HandS.TupMul
import PySem.Challenge.RW_heardlate_k01_ways_and_rings
set_option Elab.async false
set_option linter.all false
set_option maxRecDepth 100000
set_option maxHeartbeats 2000000
namespace LW
open PySem PySem.Spec PyProof.Rows L2
/-! ### powers of great ints -/
theorem op_powW {X : Cx} : OpR X (binaryOp .Pow) (rI (fun i j => 0 ≤ j ∧ (Builtin.Int.intBits i : Int) * j ≤ 2 ^ 27) fun i j => .int (i ^ j.toNat)) :=
  opI fun _ _ _ _ _ _ _ hc q => pow_int hc.1 hc.2 q
/-! ### repr of data without dicts -/
def rReprD (K : PySem.W.Frag) : List V → Hp → VK → Prop := fun xs H Q => ∃ a d, xs = [.ref a] ∧ Dp K H (.ref a) d ∧ d.showable = true ∧ d.hasDict = false ∧ d.depth ≤ 60 ∧ d.shown.length ≤ sizeLine ∧ Q (.str d.shown) H
theorem call_reprD {X : Cx} (hg : X.A.guards = some []) (hu : X.A.units + 64 < cLine) : CallR X (.builtin "repr") (rReprD X.K) := by
  intro pins s σ H xs us Q I r h
  obtain ⟨a, d, rfl, hd, hs, hn, hz, hl, q⟩ := h
  obtain rfl := Vals.ref1 r
  obtain ⟨as, rd⟩ := Dp.reads I d _ _ hd (show RelV (.ref a) (.ref a) from rfl)
  exact repr_of_reads' rd hs (PyData.noDict_hsm hn) hg (by omega) (fun _ _ e => e) (fun h' u tk hk => ⟨.str d.shown, H, I.kept (t' := tk) hk, ⟨_, rfl⟩, q⟩) hl
/-! ### defs that may be called where no repr is under way -/
structure FnG (P : Program) (w : World) (K : PySem.W.Frag) (mg : Str → Option Value) (base : Heap) (CX : CXT) (k : Nat) (f : Addr) (fd : FuncData) (ps : List Str) (sp : Sp) : Prop where
  len : ∀ vs H Q E, sp vs H Q E → vs.length = ps.length
  run : ∀ (A : Around) (outer : List Env) (s : Shared) (H : Hp) (args : Args) (us : List Value) (vs : List V) (Q : VK) (E : XK), A.guards = some [] → Room k A → Env0 P w K mg base A outer s H → BindsTo s fd args (ps.zip us) → Vals vs us → sp vs H Q E →
    codeAny (model P w) A (.call (.ref f) args) (CR CX outer P w H s Q E) s
theorem FnG.of {P : Program} {w : World} {K : PySem.W.Frag} {mg : Str → Option Value} {base : Heap} {CX : CXT} {k : Nat} {f : Addr} {fd : FuncData} {ps : List Str} {sp : Sp} (F : FnOk P w K mg base CX k f fd ps sp) :
    FnG P w K mg base CX k f fd ps sp := ⟨F.len, fun A outer s H args us vs Q E _ => F.run A outer s H args us vs Q E⟩
section
variable {X : Cx} {CX : CXT} {k : Nat} {f C : Addr} {fd : FuncData} {ps : List Str} {sp : Sp} {dvs : List V} {ds : List Value} {E : XK} {x m : Str} {p pos apos : Pos} {e o : Expr} {es : List Expr} {ta : TE} {t : TA}
theorem run_fnG {pins : List (Addr × Obj)} {σ : L2.St} {H : Hp} {s : Shared} {Q : VK} {us : List Value} {vs : List V} (F : FnG X.prog X.w X.K X.mg X.base CX k f fd ps sp) (hgd : X.A.guards = some []) (hr : Room k X.A) (hb : Binds X.K fd ps ds) (hd : Vals dvs ds) (hx : Passes CX X E)
    (I : Inv X pins σ H s) (r : Vals vs us) (h : sp (vs ++ dvs) H Q E) : wpAny (model X.prog X.w) X.A (call (.ref f) us) (EP X pins σ Q) X.xe s := by
  have r2 : Vals (vs ++ dvs) (us ++ ds) := r.append hd
  have hl : (us ++ ds).length = ps.length := by rw [← r2.length]; exact F.len _ _ _ _ h
  refine wpAny_call (codeAny_mono (F.run X.A X.stack s H ⟨us, []⟩ (us ++ ds) (vs ++ dvs) Q E hgd hr I.env0 (hb s us I.kIn hl) r2 h) fun r s' hq => ?_)
  cases r with
  | error e => exact hx pins σ H s e s' I hq
  | ok fl =>
    cases fl with
    | ret u => exact I.after hq
    | next => exact False.elim hq
    | brk => exact False.elim hq
    | cont => exact False.elim hq
theorem pe_callG (F : FnG X.prog X.w X.K X.mg X.base CX k f fd ps sp) (hgd : X.A.guards = some []) (hr : Room k X.A) (hg : Gl X x) (hm : X.mg x = some (.ref f)) (hk : PySem.W.keepIn X.K (.ref f) = true) (hb : Binds X.K fd ps ds) (hd : Vals dvs ds) (hx : Passes CX X E)
    (ha : PA X (e :: es) t) (hdb : (x == ("__debug__" : Str)) = false := by decide) (he : starEach (e :: es) X.env = (false, eval e X.env) :: starEach es X.env := by rfl) (hpl : (backTo pos (starEach es X.env)).any (·.1) = false := by rfl) :
    PE X (.Call (.Name x p) (e :: es) [] pos) (tCall sp dvs E t) := by
  refine ⟨fun pins s σ H Q I h => ?_⟩
  refine wpAny_Call_Name_kw (ld_glob I hg hm ?_ hdb)
  refine PySem.W.callWith_K (h₀ := X.base) I.ok.mod.kin hk (thn (ha.run pos pins s σ H _ I h) fun us s1 ⟨vs, H1, I1, r, q⟩ => ⟨I1.kIn, ?_⟩) he hpl
  exact run_fnG F hgd hr hb hd hx I1 r q
end
/-- THE RULE for a def that shows things: as Fun.ok, with the word that no repr is under way -/
theorem okG {P : Program} {w : World} {K : PySem.W.Frag} {mg : Str → Option Value} {base : Heap} {x qual : Str} {st : Stmt} {f : Addr} {fd : FuncData} {N ps : List Str} {k : Nat} {sp : Sp}
    (F : Fun K x qual st f fd) (S : FnScope N ps (defScope st)) (len : ∀ vs H Q E, sp vs H Q E → vs.length = ps.length)
    (hbody : ∀ (cdv : Value) (A : Around) (outer : List Env) (s : Shared) (H : Hp) (vs : List V) (Q : VK) (E : XK),
      (A.deeper (envOfC qual (defScope st) s.heap.objs.size f cdv)).guards = some [] → Room k (A.deeper (envOfC qual (defScope st) s.heap.objs.size f cdv)) → sp vs H Q E →
        ∃ t, PSs (cxOf CX0 P w K mg base N qual (defScope st) f cdv A outer s H E).nox (defBody st) t ∧ t { nx := fun _ H' => Q .non H', rt := Q } (start N vs) H) :
    FnG P w K mg base CX0 (k + 1) f fd ps sp := by
  obtain ⟨oc, od, kV, doc, pm, an, cdv, ct, osl, rfl, lk, hcd⟩ := F.ex
  constructor
  · exact len
  · intro A outer s H args us vs Q E gd room env0 bnd rel prom
    have inK : K.In s.heap := env0.mod.kin.keeps fun a u q => (env0.bs a u q).1
    have noLim : s.heap.NoLimit := env0.mod.nolimit.keeps fun a u q => (env0.bs a u q).1
    have count := len vs H Q E prom
    have kinds : ∀ y ∈ ps.zip us, (defScope st).names.lookup y.1 = some .local ∨ ((defScope st).names.lookup y.1 = some .cell ∧
        ((cellsFrom (s.heap.objs.size + 1) (defScope st).names []).lookup y.1).isSome = true) := by
      rintro ⟨y, u⟩ mem
      cases S.par y (List.of_mem_zip mem).1 with
      | inl q => exact Or.inl q
      | inr q => exact Or.inr ⟨q, PySem.W.cellsFrom_some _ _ _ (Or.inl q)⟩
    apply codeAny_call_function room.depth (inK _ _ lk) rfl S.co S.gen rfl (PySem.W.codeRec_of inK hcd)
    apply bnd
    apply wpAny_newFunctionEnv_cells S.kind kinds
    intro env henv s1 ic
    subst henv
    refine And.intro (noLim.keeps ic.toInCall.keep) (codeAny_func ?_)
    obtain ⟨t, body, goal⟩ := hbody cdv A outer s H vs Q E gd (room.deeper _) prom
    have inv := inv_start (CX := CX0) (P := P) (w := w) (K := K) (mg := mg) (base := base) (f := f) (E := E) S room.hd env0 count rel ic
    apply wpAny_mono (body.nox.run [] s1 (start N vs) H _ inv goal)
    · intro fl s2 said
      cases fl with
      | ret u =>
        obtain ⟨v, σ2, H2, J, rv, q⟩ := said
        exact ⟨v, H2, J.os, J.bare, J.base, J.hok, rv, q⟩
      | next =>
        obtain ⟨σ2, H2, J, q⟩ := said
        exact ⟨V.non, H2, J.os, J.bare, J.base, J.hok, rfl, q⟩
      | brk =>
        obtain ⟨_, _, _, q⟩ := said
        exact q.elim
      | cont =>
        obtain ⟨_, _, _, q⟩ := said
        exact q.elim
    · intro e s2 said
      exact said
/-! ### the law's own call, where no repr is under way -/
theorem caller_clear (env : Env) : (callerA.deeper env).guards = some [] := rfl
/-- the law's call from the abstract heap H of the script -/
theorem law_goes {P : Program} {w : World} {K : PySem.W.Frag} {mg mb : Str → Option Value} {k : Nat} {fa a : Addr} {fd : FuncData} {x : Str} {sp : Sp} {s₁ : Shared} {ns : List Int}
    (KX : K.In s₁.heap) (gns : s₁.heap.Ns mainGlobals mg) (bns : s₁.heap.Ns builtinsNs mb) (boot : ∀ y : Str, y ≠ "__name__" → mb y = bootBuiltins y) (lim : s₁.heap.NoLimit) (gens : s₁.gens = #[]) (room : Room k callerA)
    (F : ∀ base : Heap, K.In base → base.Ns mainGlobals mg → FnG P w K mg base CX0 k fa fd [x] sp) (bnd : ∀ (s : Shared) (u : Value), BindsTo s fd ⟨[u], []⟩ [(x, u)])
    (H : Hp) (hOnly : Only H) (hS : SqL K H a (ns.map V.int)) (hok : HOk P w H s₁.heap) (noK : ∀ b, H b ≠ none → K.lookup b = none) (noD : ∀ b o es ep, s₁.heap.get? b = some o → o.data = .dict es ep → H b = none)
    (prom : sp [.ref a] H (fun v _ => v = .bl true) fun _ _ _ => False) :
    codeAny (model P w) callerA (.call (.ref fa) ⟨[.ref a], []⟩) (fun r s' => r = .ok (.ret (.bool true)) ∧ OldK s₁.heap s'.heap ∧ s'.os = s₁.os ∧ AllBare s'.gens) s₁ := by
  have shown : ∀ {b : Addr} {m : Str → Option Value}, s₁.heap.Ns b m → (hidT s₁.heap H).Ns b m := by
    rintro b m ⟨o, es, ep, e, d, r⟩
    exact ⟨o, es, ep, hidT_get e (noD b o es ep e d), d, r⟩
  have inB : K.In (hidT s₁.heap H) := by
    intro b o e
    refine hidT_get (KX b o e) ?_
    by_cases q : H b = none
    · exact q
    · rw [noK b q] at e
      cases e
  have gB := shown gns
  have modB : Mod K mg (hidT s₁.heap H) := ⟨inB, gB, ⟨mb, shown bns, boot⟩, by
    obtain ⟨mc, c1, c2⟩ := lim
    exact ⟨mc, shown c1, c2⟩⟩
  have start0 : Env0 P w K mg (hidT s₁.heap H) callerA [] s₁ H := by
    refine ⟨rfl, modB, fun b o e => of_hidT e, Nat.le_of_eq (hidT_size _ _), trivial, fun b z => ?_, hok, .of_eq gens⟩
    exact absurd (show b ∈ ([] : List Addr) from z) List.not_mem_nil
  have ran := (F _ inB gB).run callerA [] s₁ H ⟨[.ref a], []⟩ [.ref a] [.ref a] _ _ rfl room start0 (bnd s₁ (.ref a)) (.cons rfl .nil) prom
  apply codeAny_mono ran
  intro r s' said
  match r, said with
  | .error e, said => exact False.elim said
  | .ok .next, said => exact False.elim said
  | .ok .brk, said => exact False.elim said
  | .ok .cont, said => exact False.elim said
  | .ok (.ret u), said =>
    obtain ⟨v, H', os, bare, un, hok', rel, fin⟩ := said
    have fin' : v = .bl true := fin
    subst fin'
    have eu : u = Value.bool true := rel
    subst eu
    refine ⟨rfl, OldK.of_keep ?_, os, bare⟩
    intro b o e
    rcases hOnly b with z | ⟨ob, xs, z⟩
    · exact un.keep b o e z (fun q => absurd (show b ∈ ([] : List Addr) from q) List.not_mem_nil) List.not_mem_nil
    · obtain ⟨e1, _⟩ := hok b _ z
      obtain ⟨e2, _⟩ := hok' b _ (un.frzs b ob _ z)
      rw [e1] at e
      cases e
      exact e2
/-- the same, from the script as it lies -/
theorem law_callG {P : Program} {w : World} {K : PySem.W.Frag} {mg mb : Str → Option Value} {k : Nat} {fa a : Addr} {fd : FuncData} {x : Str} {sp : Sp} {s₁ : Shared} {vs : List Value} {ns : List Int}
    (KX : K.In s₁.heap) (gns : s₁.heap.Ns mainGlobals mg) (bns : s₁.heap.Ns builtinsNs mb) (boot : ∀ y : Str, y ≠ "__name__" → mb y = bootBuiltins y) (lim : s₁.heap.NoLimit) (gens : s₁.gens = #[]) (room : Room k callerA)
    (F : ∀ base : Heap, K.In base → base.Ns mainGlobals mg → FnG P w K mg base CX0 k fa fd [x] sp) (bnd : ∀ (s : Shared) (u : Value), BindsTo s fd ⟨[u], []⟩ [(x, u)])
    (lies : s₁.heap.get? a = some { cls := .type "list", data := .seq vs.toArray }) (whole : IntsAre vs ns) (short : ns.length ≤ sizeLine)
    (prom : ∀ H : Hp, Only H → SqL K H a (ns.map V.int) → sp [.ref a] H (fun v _ => v = .bl true) fun _ _ _ => False) :
    codeAny (model P w) callerA (.call (.ref fa) ⟨[.ref a], []⟩) (fun r s' => r = .ok (.ret (.bool true)) ∧ OldK s₁.heap s'.heap ∧ s'.os = s₁.os ∧ AllBare s'.gens) s₁ := by
  have rel := vals_ints whole
  have size := whole.length
  cases kept : K.lookup a with
  | some o =>
    have e := KX a o kept
    rw [lies] at e
    cases e
    have hS : SqL K (fun _ => none) a (ns.map V.int) := .inr ⟨_, vs.toArray, _, kept, rfl, rfl, rfl, by rw [List.size_toArray, size]; exact short, by simpa using rel⟩
    exact law_goes KX gns bns boot lim gens room F bnd (fun _ => none) (fun _ => .inl rfl) hS (fun b u z => nomatch z) (fun b z => absurd rfl z) (fun _ _ _ _ _ _ => rfl) (prom _ (fun _ => .inl rfl) hS)
  | none =>
    let o0 : Obj := { cls := .type "list", data := .seq vs.toArray }
    let H : Hp := fun b => if b = a then some (.frz o0 (.lst (ns.map V.int))) else none
    have Ha : H a = some (.frz o0 (.lst (ns.map V.int))) := if_pos rfl
    have Hn : ∀ b, b ≠ a → H b = none := fun b q => if_neg q
    have hS : SqL K H a (ns.map V.int) := .inl (.inr ⟨o0, Ha⟩)
    have hOnly : Only H := fun b => by
      by_cases q : b = a
      · exact .inr ⟨o0, _, by rw [q]; exact Ha⟩
      · exact .inl (Hn b q)
    refine law_goes KX gns bns boot lim gens room F bnd H hOnly hS ?_ ?_ ?_ (prom H hOnly hS)
    · intro b u z
      by_cases q : b = a
      · subst q
        rw [Ha] at z
        cases z
        exact ⟨lies, by rw [List.length_map]; exact short, vs, _, rel, lies⟩
      · rw [Hn b q] at z
        cases z
    · intro b z
      by_cases q : b = a
      · rw [q]
        exact kept
      · exact absurd (Hn b q) z
    · intro b o es ep e d
      by_cases q : b = a
      · rw [q, lies] at e
        cases e
        cases d
      · exact Hn b q
/-- the goal that k_head leaves, from the law's promise -/
theorem walk_ofG {l : PySem.W.OpenLaw} {n k : Nat} {q : Program} {loose : List Str} {XP : (Str → Option Value) → Heap → Prop} {YP : World → Heap → Prop} {d : DefRec} {K : Params → PySem.W.Frag} {sp : PySem.W.Frag → Sp} {x : Str}
    (most : l.most = some n) (fits : n ≤ sizeLine) (plain : d.params.defaults = []) (room : Room k callerA)
    (hY : ∀ (w : World) (h : Heap), YP w h → (K w.params).In h)
    (F : ∀ (w : World) (mg : Str → Option Value) (fa : Addr) (h : Heap), (K w.params).In h → h.Ns mainGlobals mg → mg d.name = some (.ref fa) →
      ∃ fd : FuncData, (∀ (s : Shared) (u : Value), BindsTo s fd ⟨[u], []⟩ [(x, u)]) ∧
        ∀ base : Heap, (K w.params).In base → base.Ns mainGlobals mg → FnG l.prog w (K w.params) mg base CX0 k fa fd [x] (sp (K w.params)))
    (prom : ∀ (K : PySem.W.Frag) (H : Hp) (a : Addr) (ns : List Int), ns.length ≤ n → Only H → SqL K H a (ns.map V.int) → sp K [.ref a] H (fun v _ => v = .bl true) fun _ _ _ => False) :
    PySem.W.WalkO q loose XP YP l.row.toRowW d [] (fun f vs => PySem.call f vs) := by
  apply Att.attach_call most plain
  intro w s₀ s₁ mg mb fa o pm cd doc a vs ns G Y ho hd hcd hmg hobj hints hlen hgens
  have KX := hY w _ Y
  obtain ⟨fd, bnd, all⟩ := F w mg fa _ KX G.T.g hmg
  exact law_callG KX G.T.g G.T.b G.T.builtins G.T.nolimit hgens room all bnd hobj hints (Nat.le_trans hlen fits) fun H only lies => prom _ H a ns hlen only lies
end LW

set_option Elab.async false
set_option linter.all false
set_option maxRecDepth 100000
set_option maxHeartbeats 4000000
namespace LW
open PySem PySem.Spec PyProof.Rows L2
/-- a key as data -/
def keyD : Key → PyData
  | .inl i => .int i
  | .inr x => .str x
mutual
/-- data at any depth, dicts too -/
inductive DpX (K : PySem.W.Frag) (H : Hp) : V → PyData → Prop
  | non : DpX K H .non .none
  | bl (b : Bool) : DpX K H (.bl b) (.bool b)
  | int (i : Int) : DpX K H (.int i) (.int i)
  | str (x : Str) : DpX K H (.str x) (.str x)
  | lst {a : Addr} {xs : List V} {ds : List PyData} : a ≠ sysModules → SqL K H a xs → DpXAll K H xs ds → DpX K H (.ref a) (.list ds)
  | tup {a : Addr} {xs : List V} {ds : List PyData} : SqT K H a xs → DpXAll K H xs ds → DpX K H (.ref a) (.tuple ds)
  | dK {a : Addr} {kvs : List (Key × V)} {ds : List PyData} : H a = some (.dK kvs) → DpXAll K H (kvs.map (·.2)) ds → DpX K H (.ref a) (.dict ((kvs.map fun p => keyD p.1).zip ds))
  | dT {a : Addr} {kvs : List (List Key × V)} {ds : List PyData} : H a = some (.dT kvs) → DpXAll K H (kvs.map (·.2)) ds → DpX K H (.ref a) (.dict ((kvs.map fun p => PyData.tuple (p.1.map keyD)).zip ds))
inductive DpXAll (K : PySem.W.Frag) (H : Hp) : List V → List PyData → Prop
  | nil : DpXAll K H [] []
  | cons {v : V} {vs : List V} {d : PyData} {ds : List PyData} : DpX K H v d → DpXAll K H vs ds → DpXAll K H (v :: vs) (d :: ds)
end
theorem DpXAll.len {K : PySem.W.Frag} {H : Hp} : ∀ {vs : List V} {ds : List PyData}, DpXAll K H vs ds → vs.length = ds.length
  | _, _, .nil => rfl
  | _, _, .cons _ t => by simp [DpXAll.len t]
theorem zip_fst {α β : Type} : ∀ {xs : List α} {ys : List β}, xs.length = ys.length → (xs.zip ys).map (·.1) = xs
  | [], [], _ => rfl
  | x :: xs, y :: ys, h => by
    have h' : xs.length = ys.length := by simpa using h
    simp [zip_fst h']
theorem zip_snd {α β : Type} : ∀ {xs : List α} {ys : List β}, xs.length = ys.length → (xs.zip ys).map (·.2) = ys
  | [], [], _ => rfl
  | x :: xs, y :: ys, h => by
    have h' : xs.length = ys.length := by simpa using h
    simp [zip_snd h']
section
variable {X : Cx} {pins : List (Addr × Obj)} {σ : L2.St} {H : Hp} {s : Shared}
theorem keyReads {h : Heap} {k : Key} {v : Value} (q : keyIs k v = true) : Reads h v (keyD k) [] := by
  rcases keyIs_shape q with ⟨i, t, rfl, rfl⟩ | ⟨x, t, rfl, rfl⟩
  · exact Reads.int i t
  · exact Reads.str x t
theorem keysRead {h : Heap} {P : Program} {w : World} : ∀ {es : List DictEntry} {vs : List (Key × Value)}, PySem.Pairs (mixKind P w) es vs → ReadsAll h (es.map (·.key)) (vs.map fun p => keyD p.1) []
  | _, _, .nil => ReadsAll.nil
  | _, _, .cons q _ t => ReadsAll.cons (as := []) (keyReads q) (keysRead t)
theorem pairsVals {P : Program} {w : World} : ∀ {es : List DictEntry} {vs : List (Key × Value)}, PySem.Pairs (mixKind P w) es vs → es.map (·.val) = vs.map (·.2)
  | _, _, .nil => rfl
  | _, _, .cons _ q t => by simp [q, pairsVals t]
theorem kvFst {κ : Type} : ∀ {kvs : List (κ × V)} {vs : List (κ × Value)}, KV kvs vs → kvs.map (·.1) = vs.map (·.1)
  | _, _, .nil => rfl
  | _, _, .cons q t => by simp [q.1, kvFst t]
theorem kvSnd {κ : Type} : ∀ {kvs : List (κ × V)} {vs : List (κ × Value)}, KV kvs vs → Vals (kvs.map (·.2)) (vs.map (·.2))
  | _, _, .nil => .nil
  | _, _, .cons q t => .cons q.2 (kvSnd t)
theorem keysV {h : Heap} : ∀ (k : List Key) (its : List Value), Vals (k.map kV) its → ReadsAll h its (k.map keyD) []
  | [], _, .nil => ReadsAll.nil
  | .inl i :: r, _, .cons q t => by
    obtain ⟨tk, rfl⟩ := q
    exact ReadsAll.cons (as := []) (Reads.int i tk) (keysV r _ t)
  | .inr x :: r, _, .cons q t => by
    obtain ⟨tk, rfl⟩ := q
    exact ReadsAll.cons (as := []) (Reads.str x tk) (keysV r _ t)
theorem tupKeys (I : Inv X pins σ H s) : ∀ {kvs : List (List Key × V)} {xs : List (List Key × Addr × Value)},
    Paired (fun (p : List Key × V) (q : List Key × Addr × Value) => p.1 = q.1 ∧ H q.2.1 = some (.tup (p.1.map kV)) ∧ RelV p.2 q.2.2) kvs xs →
    ReadsAll s.heap (xs.map fun q => Value.ref q.2.1) (kvs.map fun p => PyData.tuple (p.1.map keyD)) [] ∧ Vals (kvs.map (·.2)) (xs.map fun q => q.2.2)
  | _, _, .nil => ⟨ReadsAll.nil, .nil⟩
  | _, _, .cons q t => by
    obtain ⟨h1, h2⟩ := tupKeys I t
    obtain ⟨q1, q2, q3⟩ := q
    obtain ⟨its, rv, ⟨o, ho, hc, n, hd⟩, _⟩ := I.tuple (SqT.of q2)
    exact ⟨ReadsAll.cons (as := []) (Reads.tuple ho hc hd (keysV _ _ rv)) h1, .cons q3 h2⟩
mutual
theorem DpX.reads (I : Inv X pins σ H s) : ∀ {v : V} {d : PyData}, DpX X.K H v d → ∀ u, RelV v u → ∃ as, Reads s.heap u d as ∧ sysModules ∉ as
  | _, _, .non, u, r => by
    cases r
    exact ⟨[], Reads.none, List.not_mem_nil⟩
  | _, _, .bl b, u, r => by
    cases r
    exact ⟨[], Reads.bool b, List.not_mem_nil⟩
  | _, _, .int i, u, r => by
    obtain ⟨t, rfl⟩ := r
    exact ⟨[], Reads.int i t, List.not_mem_nil⟩
  | _, _, .str x, u, r => by
    obtain ⟨t, rfl⟩ := r
    exact ⟨[], Reads.str x t, List.not_mem_nil⟩
  | _, _, .lst ns hs ha, u, r => by
    cases r
    obtain ⟨its, rv, ⟨o, n, ho, hc, _, hd⟩, _⟩ := I.list hs
    obtain ⟨as, hr, hn⟩ := DpXAll.reads I ha its rv
    exact ⟨_, Reads.list ho hc hd hr, fun q => (List.mem_cons.mp q).elim (fun e => ns e.symm) hn⟩
  | _, _, .tup hs ha, u, r => by
    cases r
    obtain ⟨its, rv, ⟨o, ho, hc, n, hd⟩, _⟩ := I.tuple hs
    obtain ⟨as, hr, hn⟩ := DpXAll.reads I ha its rv
    exact ⟨_, Reads.tuple ho hc hd hr, hn⟩
  | _, _, .dK (a := a) (kvs := kvs) (ds := ds) h ha, u, r => by
    cases r
    have ok := I.hok a _ h
    obtain ⟨hz, hS, vs, rkv, o, es, ep, h1, hex, hd, _, pairs, _⟩ := (show kvs.length ≤ sizeLine ∧ (a == sysModules) = false ∧ ∃ vs, KV kvs vs ∧ s.heap.DictOf (mixKind X.prog X.w) a vs from ok)
    have lens := ha.len
    obtain ⟨as, hr, hn⟩ := DpXAll.reads I ha (vs.map (·.2)) (kvSnd rkv)
    have e1 : (kvs.map fun p => keyD p.1) = vs.map fun p => keyD p.1 := by
      have q := congrArg (List.map keyD) (kvFst rkv)
      simpa [List.map_map, Function.comp_def] using q
    refine ⟨a :: [] ++ as, Reads.dict h1 hex.1 hd ?_ ?_, ?_⟩
    · rw [zip_fst (by simpa using lens), e1]
      exact keysRead pairs
    · rw [zip_snd (by simpa using lens), pairsVals pairs]
      exact hr
    · intro q
      rcases List.mem_cons.mp q with e | q
      · exact beq_eq_false_iff_ne.mp hS e.symm
      · exact hn (by simpa using q)
  | _, _, .dT (a := a) (kvs := kvs) (ds := ds) h ha, u, r => by
    cases r
    have ok := I.hok a _ h
    obtain ⟨hz, hS, xs, prd, o, es, ep, h1, hex, hd, hes, _⟩ := (show kvs.length ≤ sizeLine ∧ (a == sysModules) = false ∧ ∃ xs : List (List Key × Addr × Value),
      Paired (fun (p : List Key × V) (q : List Key × Addr × Value) => p.1 = q.1 ∧ H q.2.1 = some (.tup (p.1.map kV)) ∧ RelV p.2 q.2.2) kvs xs ∧
      ∃ o es ep, s.heap.get? a = some o ∧ o.ExactDict ∧ o.data = .dict es ep ∧ es.toList = xs.map (entryOfKey (tupleKind (mixKind X.prog X.w))) ∧ (xs.map (·.1)).Nodup from ok)
    have lens := ha.len
    obtain ⟨k1, k2⟩ := tupKeys I prd
    obtain ⟨as, hr, hn⟩ := DpXAll.reads I ha _ k2
    refine ⟨a :: [] ++ as, Reads.dict h1 hex.1 hd ?_ ?_, ?_⟩
    · rw [zip_fst (by simpa using lens), hes]
      simpa [List.map_map, Function.comp_def, entryOfKey] using k1
    · rw [zip_snd (by simpa using lens), hes]
      simpa [List.map_map, Function.comp_def, entryOfKey] using hr
    · intro q
      rcases List.mem_cons.mp q with e | q
      · exact beq_eq_false_iff_ne.mp hS e.symm
      · exact hn (by simpa using q)
theorem DpXAll.reads (I : Inv X pins σ H s) : ∀ {vs : List V} {ds : List PyData}, DpXAll X.K H vs ds → ∀ us, Vals vs us → ∃ as, ReadsAll s.heap us ds as ∧ sysModules ∉ as
  | _, _, .nil, us, r => by
    cases r
    exact ⟨[], ReadsAll.nil, List.not_mem_nil⟩
  | _, _, .cons h1 h2, us, r => by
    cases r with
    | cons r1 r2 =>
      obtain ⟨as, q1, n1⟩ := DpX.reads I h1 _ r1
      obtain ⟨bs, q2, n2⟩ := DpXAll.reads I h2 _ r2
      exact ⟨_, ReadsAll.cons q1 q2, fun q => (List.mem_append.mp q).elim n1 n2⟩
end
end
/-! ### repr of any such data -/
def rReprX (K : PySem.W.Frag) : List V → Hp → VK → Prop := fun xs H Q => ∃ a d, xs = [.ref a] ∧ DpX K H (.ref a) d ∧ d.showable = true ∧ d.depth ≤ 60 ∧ d.shown.length ≤ sizeLine ∧ Q (.str d.shown) H
theorem call_reprX {X : Cx} (hg : X.A.guards = some []) (hu : X.A.units + 64 < cLine) : CallR X (.builtin "repr") (rReprX X.K) := by
  intro pins s σ H xs us Q I r h
  obtain ⟨a, d, rfl, hd, hs, hz, hl, q⟩ := h
  obtain rfl := Vals.ref1 r
  obtain ⟨as, rd, hn⟩ := DpX.reads I hd (.ref a) (show RelV (.ref a) (.ref a) from rfl)
  exact repr_of_reads' rd hs (fun _ => hn) hg (by omega) (fun _ _ e => e) (fun h' u tk hk => ⟨.str d.shown, H, I.kept (t' := tk) hk, ⟨_, rfl⟩, q⟩) hl
/-! ### a list by a display, with the word that it is not sys.modules -/
def tLstN (t : TA) : TE := fun σ H Q => t σ H fun xs H1 => xs.length ≤ sizeLine ∧ ∀ p, H1 p = none → p ≠ sysModules → Q (.ref p) (upd H1 p (.lst xs))
theorem pe_lstN {X : Cx} {es : List Expr} {t : TA} {pos : Pos} (h : PA X es t) : PE X (.List es pos) (tLstN t) := by
  constructor
  intro pins s σ H Q I hq
  refine wpAny_List_spliced (thn (h.run pos pins s σ H _ I hq) fun us s1 said => ?_)
  obtain ⟨xs, H1, I1, r, z, q⟩ := said
  have free := I1.hok.fresh (Nat.le_refl s1.heap.objs.size)
  refine ⟨by rw [← r.length]; exact z, .ref s1.heap.objs.size, upd H1 s1.heap.objs.size (.lst xs), ?_, rfl, q _ free (Nat.ne_of_gt I1.big)⟩
  exact I1.laid (t' := s1.toks) (fun b u e => Heap.get?_push_of_some _ e) (Nat.le_refl _) ⟨z, us, 0, r, Heap.get?_push_size _ rfl⟩
end LW

set_option Elab.async false
set_option linter.all false
set_option maxRecDepth 100000
set_option maxHeartbeats 2000000
/-! Data as values: their classes, isinstance; comprehensions whose items change nothing that is known. -/
namespace LW
open PySem PySem.Spec PyProof.Rows L2 RZ
/-- the name of a datum's class -/
def tyD : PyData → String
  | .none => "NoneType"
  | .bool _ => "bool"
  | .int _ => "int"
  | .str _ => "str"
  | .list _ => "list"
  | .tuple _ => "tuple"
  | .dict _ => "dict"
theorem sqt_ty {K : PySem.W.Frag} {H : Hp} {a : Addr} {xs : List V} (h : SqT K H a xs) : TyX K H (.ref a) (.type "tuple") := by
  rcases h with (h | ⟨o, h⟩) | ⟨o, its, n, h, c, _⟩
  · exact .base (.tup h)
  · exact .fTuple h
  · exact .kTuple h c
theorem sql_ty {K : PySem.W.Frag} {H : Hp} {a : Addr} {xs : List V} (h : SqL K H a xs) : TyX K H (.ref a) (.type "list") := by
  rcases h with (h | ⟨o, h⟩) | ⟨o, its, n, h, c, _⟩
  · exact .base (.lst h)
  · exact .base (.frz h)
  · exact .kList h c
theorem DpX.ty {K : PySem.W.Frag} {H : Hp} {v : V} {d : PyData} (h : DpX K H v d) : TyX K H v (.type (tyD d)) := by
  cases h with
  | non => exact .base .non
  | bl b => exact .base (.bl b)
  | int i => exact .base (.int i)
  | str x => exact .base (.str x)
  | lst _ s _ => exact sql_ty s
  | tup s _ => exact sqt_ty s
  | dK e _ => exact .base (.dK e)
  | dT e _ => exact .base (.dT e)
/-- isinstance(x, C) of a datum, C a built-in class -/
theorem isi_D {K : PySem.W.Frag} {H : Hp} {Q : VK} {v : V} {d : PyData} {n : String} {b : Bool} (h : DpX K H v d) (e : kitB (tyD d) n = some b) (q : Q (.bl b) H) : rIsi K [v, .ty n] H Q := ⟨v, .ty n, _, _, b, rfl, .ty n, h.ty, kit_ty e, q⟩
def isInt : PyData → Bool
  | .int _ => true
  | _ => false
def isBl : PyData → Bool
  | .bool _ => true
  | _ => false
def isStr : PyData → Bool
  | .str _ => true
  | _ => false
def isTup : PyData → Bool
  | .tuple _ => true
  | _ => false
def isDct : PyData → Bool
  | .dict _ => true
  | _ => false
theorem kit_int : ∀ d : PyData, kitB (tyD d) "int" = some (isInt d || isBl d)
  | .none => (by decide +kernel : kitB "NoneType" "int" = some false)
  | .bool _ => (by decide +kernel : kitB "bool" "int" = some true)
  | .int _ => (by decide +kernel : kitB "int" "int" = some true)
  | .str _ => (by decide +kernel : kitB "str" "int" = some false)
  | .list _ => (by decide +kernel : kitB "list" "int" = some false)
  | .tuple _ => (by decide +kernel : kitB "tuple" "int" = some false)
  | .dict _ => (by decide +kernel : kitB "dict" "int" = some false)
theorem kit_bool : ∀ d : PyData, kitB (tyD d) "bool" = some (isBl d)
  | .none => (by decide +kernel : kitB "NoneType" "bool" = some false)
  | .bool _ => (by decide +kernel : kitB "bool" "bool" = some true)
  | .int _ => (by decide +kernel : kitB "int" "bool" = some false)
  | .str _ => (by decide +kernel : kitB "str" "bool" = some false)
  | .list _ => (by decide +kernel : kitB "list" "bool" = some false)
  | .tuple _ => (by decide +kernel : kitB "tuple" "bool" = some false)
  | .dict _ => (by decide +kernel : kitB "dict" "bool" = some false)
theorem kit_str : ∀ d : PyData, kitB (tyD d) "str" = some (isStr d)
  | .none => (by decide +kernel : kitB "NoneType" "str" = some false)
  | .bool _ => (by decide +kernel : kitB "bool" "str" = some false)
  | .int _ => (by decide +kernel : kitB "int" "str" = some false)
  | .str _ => (by decide +kernel : kitB "str" "str" = some true)
  | .list _ => (by decide +kernel : kitB "list" "str" = some false)
  | .tuple _ => (by decide +kernel : kitB "tuple" "str" = some false)
  | .dict _ => (by decide +kernel : kitB "dict" "str" = some false)
theorem kit_tuple : ∀ d : PyData, kitB (tyD d) "tuple" = some (isTup d)
  | .none => (by decide +kernel : kitB "NoneType" "tuple" = some false)
  | .bool _ => (by decide +kernel : kitB "bool" "tuple" = some false)
  | .int _ => (by decide +kernel : kitB "int" "tuple" = some false)
  | .str _ => (by decide +kernel : kitB "str" "tuple" = some false)
  | .list _ => (by decide +kernel : kitB "list" "tuple" = some false)
  | .tuple _ => (by decide +kernel : kitB "tuple" "tuple" = some true)
  | .dict _ => (by decide +kernel : kitB "dict" "tuple" = some false)
theorem kit_dict : ∀ d : PyData, kitB (tyD d) "dict" = some (isDct d)
  | .none => (by decide +kernel : kitB "NoneType" "dict" = some false)
  | .bool _ => (by decide +kernel : kitB "bool" "dict" = some false)
  | .int _ => (by decide +kernel : kitB "int" "dict" = some false)
  | .str _ => (by decide +kernel : kitB "str" "dict" = some false)
  | .list _ => (by decide +kernel : kitB "list" "dict" = some false)
  | .tuple _ => (by decide +kernel : kitB "tuple" "dict" = some false)
  | .dict _ => (by decide +kernel : kitB "dict" "dict" = some true)
theorem ifF {b : Bool} {p q : Prop} (h : b = false) (x : q) : if b = true then p else q := by rw [h]; exact x
theorem ifT {b : Bool} {p q : Prop} (h : b = true) (x : p) : if b = true then p else q := by rw [if_pos h]; exact x
/-! ### heaps -/
theorem sameT {K : PySem.W.Frag} {H H' : Hp} (s : Same H H') {a : Addr} {xs : List V} (h : SqT K H a xs) : SqT K H' a xs := by
  rcases h with (h | ⟨o, h⟩) | h
  · exact .inl (.inl (s _ _ h))
  · exact .inl (.inr ⟨o, s _ _ h⟩)
  · exact .inr h
theorem sameL {K : PySem.W.Frag} {H H' : Hp} (s : Same H H') {a : Addr} {xs : List V} (h : SqL K H a xs) : SqL K H' a xs := by
  rcases h with (h | ⟨o, h⟩) | h
  · exact .inl (.inl (s _ _ h))
  · exact .inl (.inr ⟨o, s _ _ h⟩)
  · exact .inr h
mutual
theorem DpX.same {K : PySem.W.Frag} {H H' : Hp} (s : Same H H') : ∀ {v : V} {d : PyData}, DpX K H v d → DpX K H' v d
  | _, _, .non => .non
  | _, _, .bl b => .bl b
  | _, _, .int i => .int i
  | _, _, .str x => .str x
  | _, _, .lst n h t => .lst n (sameL s h) (DpXAll.same s t)
  | _, _, .tup h t => .tup (sameT s h) (DpXAll.same s t)
  | _, _, .dK h t => .dK (s _ _ h) (DpXAll.same s t)
  | _, _, .dT h t => .dT (s _ _ h) (DpXAll.same s t)
theorem DpXAll.same {K : PySem.W.Frag} {H H' : Hp} (s : Same H H') : ∀ {vs : List V} {ds : List PyData}, DpXAll K H vs ds → DpXAll K H' vs ds
  | _, _, .nil => .nil
  | _, _, .cons h t => .cons (DpX.same s h) (DpXAll.same s t)
end
theorem same_one {H A : Hp} {p : Addr} {o : HO} (s : Same H A) (n : H p = none) : Same H (upd A p o) := fun b u e => by
  have ne : b ≠ p := by
    rintro rfl
    rw [n] at e
    cases e
  exact (upd_ne ne).trans (s b u e)
/-! ### comprehensions of items that change nothing that is known -/
section
variable {J : It} {n : Nat} {G : Hp → Prop} {Y : Nat → Hp → V → Hp → Prop}
/-- [e for .. in ..] over a walk, the i-th item's value f i -/
theorem lc_pure (w : Walk J n G Y) {g : TG} {te : TE} {vs : List Nat} {σ : L2.St} {H1 : Hp} {D : Addr} {Qd : Hp → Prop} (f : Nat → V) (hn : n ≤ sizeLine) (hD : H1 D = none) (hG : ∀ H, Same H1 H → G H)
    (hs : ∀ i x H H' (C : V → Hp → Prop), i < n → Same H1 H → Y i H x H' → (∀ H2, Same H H2 → C (f i) H2) → g x (wipe σ vs) H' fun σ2 H2 => wipe σ2 vs = wipe σ vs ∧ te σ2 H2 C)
    (hd : ∀ H, Same H1 H → H D = some (.lst ((List.range n).map f)) → Qd H) :
    ∃ W : Nat → Nat → Hp → Prop, (∃ m, W 0 m (upd H1 D (.lst []))) ∧ ∀ i m H, W i m H →
      (J.stop i H ∧ Qd H) ∨ (J.go i H ∧ ∃ Nx : Hp → Prop, (∀ H', Nx H' → ∃ m', m' < m ∧ W (i + 1) m' H') ∧ ∀ x H', J.yld i H x H' → g x (wipe σ vs) H' fun σ2 H2 => wipe σ2 vs = wipe σ vs ∧ tYes σ2 H2 fun b H3 =>
        if b = true then te σ2 H3 fun y H4 => ∃ acc, H4 D = some (.lst acc) ∧ acc.length < sizeLine ∧ Nx (upd H4 D (.lst (acc ++ [y]))) else Nx H3) := by
  refine lc_it w (fun i H => Same H1 H ∧ H D = some (.lst ((List.range i).map f))) ⟨same_one (Same.refl _) hD, upd_same⟩ (fun i H _ h => hG H h.1) (fun i x H H' hi ⟨s, e⟩ y => ?_) fun H h => hd H h.1 h.2
  have q := hs i x H H' (fun y H4 => ∃ acc, H4 D = some (.lst acc) ∧ acc.length < sizeLine ∧ Same H1 (upd H4 D (.lst (acc ++ [y]))) ∧ (upd H4 D (.lst (acc ++ [y]))) D = some (.lst ((List.range (i + 1)).map f))) hi s y fun H2 s2 => by
    refine ⟨_, s2 _ _ e, ?_, same_one (s.trans s2) hD, ?_⟩
    · rw [List.length_map, List.length_range]
      omega
    · rw [upd_same, List.range_succ, List.map_append]
      rfl
  exact q
end
/-! ### a stream: a list of three ints at l that draws change -/
theorem sameD {A B : Hp} {l : Addr} (s : Same A B) : Same (delH A l) (delH B l) := fun b u e => by
  by_cases q : b = l
  · rw [q, delH_same] at e
    cases e
  · rw [delH_ne q] at e ⊢
    exact s b u e
theorem delH_le {A : Hp} {l : Addr} : Same (delH A l) A := fun b u e => by
  by_cases q : b = l
  · rw [q, delH_same] at e
    cases e
  · rwa [delH_ne q] at e
/-- three ints at l -/
def St3 (H : Hp) (l : Addr) : Prop := ∃ x y z : Int, H l = some (.lst [.int x, .int y, .int z])
/-- what holds of H, the stream aside, holds of H', and the stream is one -/
structure Aft (l : Addr) (H H' : Hp) : Prop where
  same : Same (delH H l) (delH H' l)
  st : St3 H' l
theorem Aft.refl {l : Addr} {H : Hp} (h : St3 H l) : Aft l H H := ⟨Same.refl _, h⟩
theorem Aft.trans {l : Addr} {A B C : Hp} (h : Aft l A B) (g : Aft l B C) : Aft l A C := ⟨h.same.trans g.same, g.st⟩
theorem Aft.of {l : Addr} {A B C : Hp} (h : Aft l A B) (s : Same B C) : Aft l A C := ⟨h.same.trans (sameD s), by
  obtain ⟨x, y, z, e⟩ := h.st
  exact ⟨x, y, z, s _ _ e⟩⟩
theorem Aft.draw {l : Addr} {A B : Hp} {x y z : Int} (h : Aft l A B) : Aft l A (upd B l (.lst [.int x, .int y, .int z])) := ⟨fun b o e => by
  have q := h.same b o e
  have n : b ≠ l := by
    rintro rfl
    rw [delH_same] at q
    cases q
  rw [delH_ne n] at q ⊢
  exact (upd_ne n).trans q, ⟨x, y, z, upd_same⟩⟩
theorem Aft.ne {l : Addr} {A B : Hp} (h : Aft l A B) {p : Addr} (n : B p = none) : p ≠ l := by
  rintro rfl
  obtain ⟨x, y, z, e⟩ := h.st
  rw [e] at n
  cases n
theorem Aft.free {l : Addr} {A B : Hp} (h : Aft l A B) {p : Addr} (n : B p = none) : A p = none := by
  have ne := h.ne n
  cases q : A p with
  | none => rfl
  | some o =>
    have z := h.same p o (by rw [delH_ne ne]; exact q)
    rw [delH_ne ne, n] at z
    cases z
/-- an object put where A has none -/
theorem Aft.put {l : Addr} {A B : Hp} (h : Aft l A B) {p : Addr} {o : HO} (n : A p = none) (ne : p ≠ l) : Aft l A (upd B p o) := ⟨fun b u e => by
  have q := h.same b u e
  have nl : b ≠ l := by
    rintro rfl
    rw [delH_same] at e
    cases e
  have np : b ≠ p := by
    rintro rfl
    rw [delH_ne nl, n] at e
    cases e
  rw [delH_ne nl] at q ⊢
  exact (upd_ne np).trans q, by
  obtain ⟨x, y, z, e⟩ := h.st
  exact ⟨x, y, z, (upd_ne ne.symm).trans e⟩⟩
theorem Aft.at {l : Addr} {A B : Hp} (h : Aft l A B) {b : Addr} {o : HO} (e : A b = some o) (n : b ≠ l) : B b = some o := by
  have q := h.same b o (by rw [delH_ne n]; exact e)
  rwa [delH_ne n] at q
theorem Aft.lst {l : Addr} {A B : Hp} (h : Aft l A B) {K : PySem.W.Frag} {b : Addr} {xs : List V} (e : SqL K A b xs) (n : b ≠ l) : SqL K B b xs := by
  rcases e with (e | ⟨o, e⟩) | e
  · exact .inl (.inl (h.at e n))
  · exact .inl (.inr ⟨o, h.at e n⟩)
  · exact .inr e
/-- any loop over a walk: Body is what the turn does with its item, Pv the turn's word -/
theorem loop_it {J : It} {n : Nat} {G : Hp → Prop} {Y : Nat → Hp → V → Hp → Prop} (w : Walk J n G Y) {Body : (Hp → Prop) → V → Hp → Prop} {H0 : Hp} {Qd : Hp → Prop} (Pv : Nat → Hp → Prop) (h0 : Pv 0 H0) (hG : ∀ i H, i ≤ n → Pv i H → G H)
    (hs : ∀ i x H H', i < n → Pv i H → Y i H x H' → Body (Pv (i + 1)) x H') (hd : ∀ H, Pv n H → Qd H) :
    ∃ W : Nat → Nat → Hp → Prop, (∃ m, W 0 m H0) ∧ ∀ i m H, W i m H → (J.stop i H ∧ Qd H) ∨ (J.go i H ∧ ∃ Nx : Hp → Prop, (∀ H', Nx H' → ∃ m', m' < m ∧ W (i + 1) m' H') ∧ ∀ x H', J.yld i H x H' → Body Nx x H') := by
  refine ⟨fun i m H => m = n - i ∧ i ≤ n ∧ Pv i H, ⟨n, (Nat.sub_zero n).symm, Nat.zero_le _, h0⟩, ?_⟩
  rintro i m H ⟨rfl, hi, p⟩
  rcases Nat.lt_or_ge i n with lt | ge
  · exact .inr ⟨w.goes i H lt (hG i H hi p), Pv (i + 1), fun H' p' => ⟨n - (i + 1), by omega, rfl, lt, p'⟩, fun x H' y => hs i x H H' lt p (w.yields i H x H' lt (hG i H hi p) y)⟩
  · obtain rfl : i = n := Nat.le_antisymm hi ge
    exact .inl ⟨w.stops H (hG i H hi p), hd H p⟩
/-! ### rules that ask K, said of a K that is given: within a comprehension the block's own K is not seen to be the def's -/
section
variable {X : Cx}
theorem ix_tupK (K : PySem.W.Frag) (h : X.K = K := by rfl) : IxR X (rIxT K) := by subst h; exact ix_tup
theorem ix_listK (K : PySem.W.Frag) (h : X.K = K := by rfl) : IxR X (rIxL K) := by subst h; exact ix_list
def rLen (K : PySem.W.Frag) : List V → Hp → VK → Prop := fun xs H Q => ∃ p ys, xs = [.ref p] ∧ (SqL K H p ys ∨ SqT K H p ys) ∧ Q (.int ys.length) H
theorem call_lenK (K : PySem.W.Frag) (h : X.K = K := by rfl) : CallR X (.builtin "len") (rLen K) := by subst h; exact call_len_seq
theorem pg_tupK (K : PySem.W.Frag) {es : List Expr} {k : Nat} {t : TGs} {n : Nat} {pos : Pos} (hc : X.calm = true) (h : PGs X es t) (hn : (assignEach es X.env).length = n := by rfl) (hst : (assignEach es X.env).findIdx? (·.1) = none := by rfl) (hK : X.K = K := by rfl) :
    PG X (.Tuple es k pos) (gTup K n t) := by subst hK; exact pg_tup hc h hn hst
theorem op_eqDK (K : PySem.W.Frag) (hu : X.A.units + 64 < cLine) (h : X.K = K := by rfl) : OpR X (compareOp .Eq) (rEqD K) := by subst h; exact op_eqD hu
theorem pe_bmK (K : PySem.W.Frag) {T name id : String} {o e : Expr} {es : List Expr} {to : TE} {t : TA} {r : V → List V → Hp → VK → Prop} {apos cpos : Pos} (pa : PlainAttrs T) (slot : Slot T name id) (hty : typeOf (.builtin id) = pure (.type "method_descriptor")) (hm : MtR X id r) (ho : PE X o to) (ha : PA X (e :: es) t)
    (hbase : attributeBase o name X.env (eval o X.env) = eval o X.env := by rfl)
    (hfew : ((backTo cpos (starEach (e :: es) X.env)).all (fun x => !x.1) && (backToKw cpos (keywordEach [] X.env)).all (fun x => x.1.isSome)
      && decide ((e :: es).length + ([] : List Keyword).length + (if ([] : List Keyword).isEmpty then 0 else 1) < 30)) = true := by rfl)
    (hline : (apos.endLine == cpos.line) = true := by rfl) (hs : starEach (e :: es) X.env = (false, eval e X.env) :: starEach es X.env := by rfl) (hplain : (backTo cpos (starEach es X.env)).any (·.1) = false := by rfl) (hK : X.K = K := by rfl) :
    PE X (.Call (.Attribute o name apos) (e :: es) [] cpos) (tBM K T r to t) := by subst hK; exact pe_bm pa slot hty hm ho ha hbase hfew hline hs hplain
end
theorem walk_zipT {K : PySem.W.Frag} {a b : Addr} {xs ys : List V} {n : Nat} (hn : n = min xs.length ys.length) : Walk (ItzT K a b) n (fun H => SqT K H a xs ∧ SqT K H b ys) (YPair (fun i => xs[i]?) (fun i => ys[i]?)) := by
  subst hn
  refine ⟨fun i H hi q => ⟨xs, ys, xs[i]'(by omega), ys[i]'(by omega), q.1, q.2, List.getElem?_eq_getElem _, List.getElem?_eq_getElem _⟩, fun H q => ⟨xs, ys, q.1, q.2, by omega⟩, fun i H v H' _ q y => ?_⟩
  obtain ⟨T, x, z, h1, h2, h3, h4, h5⟩ := y
  exact ⟨T, x, z, h1, h2, h3, h4 xs q.1, h5 ys q.2⟩
end LW

set_option Elab.async false
set_option linter.all false
set_option maxRecDepth 100000
set_option maxHeartbeats 2000000
/-! Sets whose members are told by a key (texts, first of all): a set IS the list of its members in any order, no two alike. -/
namespace LS
open PySem PySem.Spec PyProof.Rows L2
/-- the list with one more, if it is not there -/
def ins {K : Type} [DecidableEq K] (k : K) (L : List K) : List K := if k ∈ L then L else k :: L
/-- all of them, one after another, into L -/
def insAll {K : Type} [DecidableEq K] : List K → List K → List K
  | [], L => L
  | k :: ks, L => insAll ks (ins k L)
section
variable {K : Type} [DecidableEq K]
theorem ins_nodup {k : K} {L : List K} (h : L.Nodup) : (ins k L).Nodup := by
  unfold ins
  split
  · exact h
  · exact List.nodup_cons.mpr ⟨by assumption, h⟩
theorem mem_ins {k x : K} {L : List K} : x ∈ ins k L ↔ x = k ∨ x ∈ L := by
  unfold ins
  split
  · exact ⟨.inr, fun h => h.elim (fun e => by rw [e]; assumption) id⟩
  · exact List.mem_cons
theorem ins_len {k : K} {L : List K} : (ins k L).length ≤ L.length + 1 := by
  unfold ins
  split
  · exact Nat.le_succ _
  · exact Nat.le_refl _
theorem mem_insAll {x : K} : ∀ {ks L : List K}, x ∈ insAll ks L ↔ x ∈ ks ∨ x ∈ L
  | [], L => by simp [insAll]
  | k :: ks, L => by
    rw [insAll, mem_insAll, mem_ins, List.mem_cons]
    constructor
    · rintro (h | h | h)
      · exact .inl (.inr h)
      · exact .inl (.inl h)
      · exact .inr h
    · rintro ((h | h) | h)
      · exact .inr (.inl h)
      · exact .inl h
      · exact .inr (.inr h)
theorem insAll_len : ∀ {ks L : List K}, (insAll ks L).length ≤ ks.length + L.length
  | [], L => by simp [insAll]
  | k :: ks, L => by
    have h := insAll_len (ks := ks) (L := ins k L)
    have h2 := ins_len (k := k) (L := L)
    rw [insAll, List.length_cons]
    omega
theorem insAll_nodup : ∀ {ks L : List K}, L.Nodup → (insAll ks L).Nodup
  | [], _, h => h
  | k :: ks, L, h => insAll_nodup (ks := ks) (ins_nodup h)
theorem insAll_app : ∀ {ks ls L : List K}, insAll (ks ++ ls) L = insAll ls (insAll ks L)
  | [], _, _ => rfl
  | k :: ks, ls, L => by rw [List.cons_append, insAll, insAll, insAll_app]
end

/-- tells the key of a value -/
structure Kf {P : Program} {w : World} {K : Type} [DecidableEq K] (knd : KeyKind P w K) where
  key : Value → K
  tells : ∀ k v, knd.is k v = true → key v = k
/-- entries and table hold the members L -/
structure Holds {P : Program} {w : World} {K : Type} [DecidableEq K] {knd : KeyKind P w K} (F : Kf knd) (es : Array (Int × Value)) (t : SetTable) (L : List K) : Prop where
  el : ElemsOf knd es.toList
  pm : (es.toList.map fun e => F.key e.2).Perm L
  nd : L.Nodup
  sz : L.length < scanBound
  ft : t.fits es.size = true
  ri : Ris t.place.toList
  ld : w.params.followText "set-order" = true ∨ t.led = true
/-- the set at a has the members L -/
def At {P : Program} {w : World} {K : Type} [DecidableEq K] {knd : KeyKind P w K} (F : Kf knd) (h : Heap) (a : Addr) (L : List K) : Prop :=
  ∃ o es ep t, h.get? a = some o ∧ o.ExactSet ∧ o.data = .set es ep t ∧ Holds F es t L
section
variable {P : Program} {w : World} {K : Type} [DecidableEq K] {knd : KeyKind P w K} {F : Kf knd} {A : Around} {E : Value → Shared → Prop} {s : Shared} {a : Addr} {L : List K} {es es' : Array (Int × Value)} {t t' : SetTable}
theorem Holds.size (H : Holds F es t L) : es.size = L.length := by
  have e := H.pm.length_eq
  rwa [List.length_map, Array.length_toList] at e
theorem Holds.small (H : Holds F es t L) : es.size < scanBound := by rw [H.size]; exact H.sz
theorem Holds.again (H : Holds F es t L) (p : es'.toList.Perm es.toList) (hf : t'.fits es'.size = true) (hr : Ris t'.place.toList) (hl : t'.led = t.led) : Holds F es' t' L :=
  ⟨H.el.perm p, (p.map _).trans H.pm, H.nd, H.sz, hf, hr, H.ld.imp id fun z => by rw [hl]; exact z⟩
theorem Holds.more (H : Holds F es t L) {k : K} {x : Value} (hk : knd.is k x = true) (hx : x.scannable = true) (hn : k ∉ L) (room : L.length + 1 < scanBound) (p : es'.toList.Perm (es.toList ++ [(knd.hash k, x)]))
    (hf : t'.fits es'.size = true) (hr : Ris t'.place.toList) (hl : t'.led = t.led) : Holds F es' t' (k :: L) :=
  ⟨(H.el.push hk hx).perm p, by
    refine (p.map _).trans ?_
    rw [List.map_append]
    refine List.perm_append_comm.trans ?_
    show ((F.key x) :: (es.toList.map fun e => F.key e.2)).Perm (k :: L)
    rw [F.tells k x hk]
    exact H.pm.cons k, List.nodup_cons.mpr ⟨hn, H.nd⟩, room, hf, hr, H.ld.imp id fun z => by rw [hl]; exact z⟩
theorem Holds.plainOff (H : Holds F es t L) : Holds F es { t with plain := false } L := ⟨H.el, H.pm, H.nd, H.sz, SetTable.fits_plain_off H.ft, H.ri, H.ld⟩
theorem Holds.is_iff (H : Holds F es t L) {e : Int × Value} (he : e ∈ es.toList) (k : K) : knd.is k e.2 = true ↔ F.key e.2 = k := by
  obtain ⟨⟨k0, h0, _⟩, _⟩ := H.el e he
  constructor
  · exact F.tells k e.2
  · intro q
    rw [F.tells k0 e.2 h0] at q
    rw [← q]
    exact h0
theorem Holds.mem (H : Holds F es t L) (k : K) : k ∈ L ↔ ∃ e ∈ es.toList, knd.is k e.2 = true := by
  rw [← H.pm.mem_iff, List.mem_map]
  exact ⟨fun ⟨e, he, q⟩ => ⟨e, he, (H.is_iff he k).2 q⟩, fun ⟨e, he, q⟩ => ⟨e, he, (H.is_iff he k).1 q⟩⟩
theorem At.kept {h h' : Heap} (R : At F h a L) (k : ∀ o, h.get? a = some o → h'.get? a = some o) : At F h' a L :=
  let ⟨o, es, ep, t, ho, r⟩ := R; ⟨o, es, ep, t, k o ho, r⟩
theorem At.perm {h : Heap} {M : List K} (R : At F h a L) (p : L.Perm M) : At F h a M :=
  let ⟨o, es, ep, t, ho, hx, hd, r⟩ := R; ⟨o, es, ep, t, ho, hx, hd, ⟨r.el, r.pm.trans p, p.nodup_iff.mp r.nd, by rw [← p.length_eq]; exact r.sz, r.ft, r.ri, r.ld⟩⟩
theorem At.setOf {h : Heap} (R : At F h a L) : h.SetOf knd a (fun k => decide (k ∈ L)) L.length :=
  let ⟨o, es, ep, t, ho, hx, hd, r⟩ := R
  ⟨o, es, ep, t, ho, hx, hd, r.el, fun k => by rw [decide_eq_true_eq]; exact r.mem k, r.small, r.ft, r.size⟩
theorem At.fresh {h : Heap} (o : Obj) (e : o = { cls := .type "set", dict := none, data := .set #[] 0 (.fresh 0 0 (!w.params.followText "set-order")) }) : At F (h.push o) h.objs.size [] := by
  subst e
  refine ⟨_, #[], 0, _, Heap.get?_push_size _ rfl, ⟨rfl, rfl, rfl⟩, rfl, fun e he => absurd he (by simp), by simp, List.nodup_nil, (show (0 : Nat) < scanBound by decide), rfl, List.Pairwise.nil, ?_⟩
  show _ ∨ (!w.params.followText "set-order") = true
  cases w.params.followText "set-order"
  · exact .inr rfl
  · exact .inl rfl
/-- entries stored anew -/
theorem At.put {h : Heap} {o : Obj} {ep : Nat} {t0 : SetTable} {es0 : Array (Int × Value)} (ho : h.get? a = some o) (hx : o.ExactSet) (hd : o.data = .set es0 ep t0) (H : Holds F es t L) :
    (h.update a (Obj.putSet es t)).get? a = some { o with data := .set es (ep + 1) t } ∧ At F (h.update a (Obj.putSet es t)) a L := by
  have g : (h.update a (Obj.putSet es t)).get? a = some { o with data := .set es (ep + 1) t } := by
    rw [← putSet_of es t hd]
    exact Heap.get?_update_self (Obj.putSet es t) ho (by rw [putSet_of es t hd]; rfl)
  exact ⟨g, _, es, ep + 1, t, g, hx, rfl, H⟩

/-! ### one more -/
theorem grow {g : Bool → Sem Unit} (hg : ∀ (b : Bool) (s₁ : Shared) (Q' : Unit → Shared → Prop), Q' () s₁ → wpAny (model P w) A (g b) Q' E s₁) {o : Obj} {es0 : Array (Int × Value)} {ep : Nat} {t0 : SetTable} (ho : s.heap.get? a = some o) (hx : o.ExactSet) (hd : o.data = .set es0 ep t0)
    (H : Holds F es t L) {dm : Bool} {R : Option Bool → Shared → Prop} (hR : ∀ h', Heap.SameBut a s.heap h' → At F h' a L → R (some true) { s with heap := h' }) :
    wpAny (model P w) A (storeSet a es t >>= fun _ => if (!dm && t.tooFull) = true then g (relayAll t es (SetTable.grown es.size)).2.2 >>= fun _ => storeSet a (relayAll t es (SetTable.grown es.size)).1 (relayAll t es (SetTable.grown es.size)).2.1 >>= fun _ => pure (some true)
      else pure (some true)) R E s := by
  obtain ⟨g1, a1⟩ := At.put ho hx hd H
  have b1 := Heap.SameBut.update s.heap a (Obj.putSet es t)
  refine wpAny_bind (wpAny_storeSet_of ho hd ?_ (fits_of_scanBound H.small))
  by_cases c : (!dm && t.tooFull) = true
  · rw [if_pos c]
    have H2 := H.again (relayAll_perm t es (SetTable.grown es.size)) (relayAll_fits t es (SetTable.grown es.size)) (relayAll_ris t es _) (relayAll_led t es _)
    refine wpAny_bind (hg _ _ _ (wpAny_bind (wpAny_storeSet_of g1 rfl (wpAny_pure ?_) (fits_of_scanBound H2.small))))
    exact hR _ (b1.trans (Heap.SameBut.update _ a _)) (At.put g1 hx rfl H2).2
  · rw [if_neg c]
    exact wpAny_pure (hR _ b1 a1)
theorem addHashed {k : K} {x : Value} {Q : Bool → Shared → Prop} (hk : knd.is k x = true) (hx : x.scannable = true) (R : At F s.heap a L) (room : L.length + 1 < scanBound)
    (hQ : ∀ (b : Bool) h', Heap.SameBut a s.heap h' → At F h' a (ins k L) → Q b { s with heap := h' }) : wpAny (model P w) A (setAddHashed a x (knd.hash k)) Q E s := by
  obtain ⟨o, es, ep, t, ho, hex, hd, H⟩ := R
  unfold setAddHashed setAddHashedIn
  refine wpAny_holding (wpAny_bind (wpAny_setState_of ho hd H.ft ?_))
  dsimp only
  rw [byScan_of hx H.small H.el]
  simp only [↓reduceIte]
  unfold setAddByScan
  refine wpAny_bind (wpAny_bind (wpAny_rule (wpAny_bind (wpAny_setScan_of hk ho hd H.ft H.el ?_))))
  cases hf : List.findIdx? (fun e => knd.is k e.2) es.toList with
  | some j =>
    obtain ⟨hj, pj, _⟩ := List.findIdx?_eq_some_iff_getElem.mp hf
    have hm : k ∈ L := (H.mem k).2 ⟨_, List.getElem_mem hj, pj⟩
    refine wpAny_pure (wpAny_pure (hQ _ s.heap (Heap.SameBut.refl a s.heap) ?_))
    unfold ins
    rw [if_pos hm]
    exact ⟨o, es, ep, t, ho, hex, hd, H⟩
  | none =>
    have hm : k ∉ L := fun z => by
      obtain ⟨e, he, q⟩ := (H.mem k).1 z
      rw [List.findIdx?_eq_none_iff.mp hf e he] at q
      cases q
    have ei : ins k L = k :: L := by unfold ins; rw [if_neg hm]
    rw [ei] at hQ
    dsimp only
    have pm := layNew_perm t es (knd.hash k) x
    have hf1 := layNew_fits t es (knd.hash k) x
    have hr1 := layNew_ris t es (knd.hash k) x H.ri
    have hl1 := layNew_led t es (knd.hash k) x
    generalize layNew t es (knd.hash k) x = Z at pm hf1 hr1 hl1 ⊢
    obtain ⟨es1, t1, dm, gv⟩ := Z
    dsimp only at pm hf1 hr1 hl1 ⊢
    rw [Array.toList_push] at pm
    have H1 := H.more hk hx hm room pm hf1 hr1 hl1
    refine wpAny_bind ?_
    have fin : ∀ h', Heap.SameBut a s.heap h' → At F h' a (k :: L) → wpAny (model P w) A (pure true) Q E { s with heap := h' } := fun h' sb r => wpAny_pure (hQ true h' sb r)
    have go : ∀ (b : Bool) {s₁ : Shared} {Q' : Unit → Shared → Prop}, Q' () s₁ → wpAny (model P w) A (match b with | true => rule "set.scan.the-table-gave-way" | false => pure ()) Q' E s₁ := fun b s₁ Q' q => by
      cases b
      · exact wpAny_pure q
      · exact wpAny_rule q
    refine go _ ?_
    split
    · refine wpAny_bind ?_
      rw [hashByValue_scannable 8 hx]
      refine wpAny_pure ?_
      refine grow (F := F) (fun b s₁ Q' q => by cases b <;> first | exact wpAny_pure q | exact wpAny_rule q) ho hex hd (L := k :: L) ?_ fun h' sb r => ?_
      · split
        · exact H1
        · exact H1.plainOff
      · dsimp only
        exact fin h' sb r
    · refine wpAny_bind (wpAny_pure ?_)
      simp only [↓reduceIte]
      refine grow (fun b s₁ Q' q => by cases b <;> first | exact wpAny_pure q | exact wpAny_rule q) ho hex hd H1 fun h' sb r => ?_
      dsimp only
      exact fin h' sb r
end
end LS

set_option Elab.async false
set_option linter.all false
set_option maxRecDepth 100000
set_option maxHeartbeats 3200000
/-! set(xs), sorted(a set): of members that are told by a key. -/
namespace LS
open PySem PySem.Spec PyProof.Rows L2
section
variable {P : Program} {w : World} {K : Type} [DecidableEq K] {knd : KeyKind P w K} {kf : Kf knd} {A : Around} {E : Value → Shared → Prop} {s : Shared} {a : Addr} {L : List K}
theorem insAll_next {ks : List K} {i : Nat} {k : K} (h : ks[i]? = some k) : insAll (ks.take (i + 1)) ([] : List K) = ins k (insAll (ks.take i) []) := by
  rw [List.take_add_one, h, Option.toList_some, insAll_app]
  rfl
/-- set.update's loop: the members of ks, one after another -/
theorem update_loop {I : Addr} {fp wr : List Addr} {G : Array GenState → Array GenState → Prop} {n : Nat} {Pv : Nat → Value → Prop} {St : Nat → Shared → Prop} {R : Result → Shared → Prop} (W : WalksS P w A.in1 I fp wr G n Pv St) (S : Addr) (hSf : S ∉ fp) (ks : List K)
    (hn : n = ks.length) (hb : ks.length + 1 < scanBound) (hval : ∀ i v, Pv i v → ∃ k : K, ks[i]? = some k ∧ knd.is k v = true ∧ v.scannable = true) :
    ∀ (m i : Nat) (s : Shared), n - i = m → i ≤ n → St i s → At kf s.heap S (insAll (ks.take i) []) → (∀ s', Moved (S :: wr) G s s' → At kf s'.heap S (insAll ks []) → R (.ok (.ret .none)) s') →
      codeAny (model P w) A (.builtin "set.update.loop" ⟨[.ref S, .ref I], []⟩) R s := by
  have hSw : S ∉ wr := fun h => hSf (W.sub _ h)
  have up : ∀ b ∈ wr, b ∈ S :: wr := fun b hb => List.mem_cons_of_mem _ hb
  intro m
  induction m with
  | zero =>
    intro i s hm hi st R0 hR
    obtain rfl : i = n := by omega
    refine codeAny_builtin F.entry_set_update_loop ?_
    rw [Around.under_plainId F.plain_set_update_loop _]
    show wpAny _ A.in1 (pyNext (.ref I) >>= _) _ _ s
    refine wpAny_bind (W.done s _ _ st fun s' mv => ?_)
    rw [hn, List.take_length] at R0
    exact wpAny_pure (hR s' (mv.mono up) (R0.kept fun o e => mv.heap S o hSw e))
  | succ m ih =>
    intro i s hm hi st R0 hR
    have hlt : i < n := by omega
    refine codeAny_builtin F.entry_set_update_loop ?_
    rw [Around.under_plainId F.plain_set_update_loop _]
    show wpAny _ A.in1 (pyNext (.ref I) >>= _) _ _ s
    refine wpAny_bind (W.item i s _ _ hlt st fun v s' pv st' mv => ?_)
    obtain ⟨k, hk, hv, hs⟩ := hval i v pv
    have R1 : At kf s'.heap S (insAll (ks.take i) []) := R0.kept fun o e => mv.heap S o hSw e
    show wpAny _ A.in1 (holding [v] (setAdd S v) >>= _) _ _ s'
    refine wpAny_bind (wpAny_holding ?_)
    unfold setAdd
    refine wpAny_holding (wpAny_bind (knd.pyHash hv ?_))
    have room : (insAll (ks.take i) ([] : List K)).length + 1 < scanBound := by
      have h1 := insAll_len (ks := ks.take i) (L := ([] : List K))
      rw [List.length_nil, List.length_take] at h1
      omega
    refine addHashed (s := { s' with toks := s'.toks + 1 }) hv hs R1 room fun b h' sb R2 => ?_
    rw [← insAll_next hk] at R2
    refine wpAny_pure ⟨plainId_quiet F.plain_set_update_loop _, ih (i + 1) _ (by omega) hlt (W.frame _ s' _ _ st' (Nat.le_succ _) fun b hb o e => ?_) R2 fun s'' mv2 R3 => ?_⟩
    · exact (sb.2 b fun z => hSf (z ▸ hb)).trans e
    · refine hR s'' (Moved.trans W.gtrans ((mv.mono up).then_heap (Nat.le_succ _) fun b o hb e => ?_) mv2) R3
      exact (sb.2 b fun z => hb (z ▸ List.mem_cons_self)).trans e

/-- the object that a new set is -/
abbrev newSetO (w : World) : Obj := { cls := .type "set", dict := none, data := .set #[] 0 (.fresh 0 0 (!w.params.followText "set-order")) }
/-- set(xs), xs a list or a tuple -/
theorem make (kf : Kf knd) {l : Addr} {items : Array Value} (ks : List K) {Q : Value → Shared → Prop} (hh : A.handled = none) (hl : s.heap.IsList l items ∨ s.heap.IsTuple l items) (hz : items.size = ks.length) (hb : ks.length + 1 < scanBound)
    (hval : ∀ (i : Nat) (v : Value), items[i]? = some v → ∃ k : K, ks[i]? = some k ∧ knd.is k v = true ∧ v.scannable = true)
    (h : ∀ (h' : Heap) (tk : Nat), At kf h' s.heap.objs.size (insAll ks []) → (∀ b o, s.heap.get? b = some o → h'.get? b = some o) → Q (.ref s.heap.objs.size) { s with heap := h', toks := tk }) :
    wpAny (model P w) A (call (.type "set") [.ref l]) Q E s := by
  obtain ⟨c, tl, hmro⟩ := F.called_set.mro
  have hmade := F.called_set.made
  have hsub := F.called_set.sub
  have h1 := F.called_set.notType
  have h2 := F.called_set.canCreate
  have hct := F.typeCall_set_1 (.ref l)
  refine wpAny_call (codeAny_of_tree ?_)
  show wpAny _ _ (callAny (.type "set") _) _ _ _
  refine wpAny_pure ⟨Code.quiet_builtin _ (by decide +kernel), codeAny_builtin F.entry_type_call ?_⟩
  rw [Around.under_plain (weight_type_call_type "set" [.ref l] []) rfl]
  repeat (any_goals (first | assumption | wp_step))
  refine codeAny_mono (code_set_led1 (.ref l) (E := E) (Q₁ := fun v s₁ => v = .ref s.heap.objs.size ∧ s₁ = { s with heap := s.heap.push (newSetO w) }) ⟨rfl, rfl⟩) fun r s₁ hr => ?_
  match r, hr with
  | .error e, hr => exact hr
  | .ok (.ret obj), ⟨e1, e2⟩ =>
    subst e1 e2
    have hS : (s.heap.push (newSetO w)).get? s.heap.objs.size = some (newSetO w) := Heap.get?_push_size _ rfl
    have hT : Shared.TypeIs { s with heap := s.heap.push (newSetO w) } (.ref s.heap.objs.size) "set" := ⟨_, hS, rfl⟩
    have hli := F.called_set.init.lookup
    have hbi := F.called_set.init.bind (.ref s.heap.objs.size)
    repeat (any_goals (first | assumption | wp_step))
    refine codeAny_mono (codeAny_call_builtin (R := wants (fun r s₂ => r = .none ∧ ∃ h' tk, s₂ = { s with heap := h', toks := tk } ∧ At kf h' s.heap.objs.size (insAll ks []) ∧ (∀ b o, s.heap.get? b = some o → h'.get? b = some o)) E) F.called_set.init.plain F.entry_set_init
      (check_set_init_1 hT ?_)) fun r₂ s₂ hr₂ => ?_
    · have hh3 : A.in1.in1.in1.handled = none := by simp [hh]
      have zS : (s.heap.push (newSetO w)).objs.size = s.heap.objs.size + 1 := Heap.size_push ..
      have done : ∀ {I : Addr} {s' : Shared}, I = s.heap.objs.size + 1 → ∀ {s0 : Shared}, Moved (s.heap.objs.size :: [I]) (fun a b => b = a) s0 s' → (∀ b o, s.heap.get? b = some o → s0.heap.get? b = some o) → s0.gens = s.gens → s0.drawn = s.drawn → s0.os = s.os → At kf s'.heap s.heap.objs.size (insAll ks []) →
          ∃ h' tk, s' = { s with heap := h', toks := tk } ∧ At kf h' s.heap.objs.size (insAll ks []) ∧ (∀ b o, s.heap.get? b = some o → h'.get? b = some o) := fun {I s'} eI {s0} mv k0 g0 d0 o0 R => by
        obtain ⟨h', g2, d2, tk', os2⟩ := s'
        have eg : g2 = s.gens := (show g2 = s0.gens from mv.gens).trans g0
        have ed : d2 = s.drawn := (show d2 = s0.drawn from mv.drawn).trans d0
        have eo : os2 = s.os := (show os2 = s0.os from mv.os).trans o0
        subst eg ed eo
        refine ⟨h', tk', rfl, R, fun b o e => mv.heap b o (fun z => ?_) (k0 b o e)⟩
        have lt := Heap.lt_size e
        rw [eI] at z
        simp only [List.mem_cons, List.not_mem_nil, or_false] at z
        rcases z with z | z
        · exact absurd lt (by rw [z]; exact Nat.lt_irrefl _)
        · exact absurd lt (by rw [z]; exact Nat.not_lt_of_le (Nat.le_succ _))
      rcases hl with hl | hl
      · obtain ⟨⟨cls, dd, dat, sl⟩, ho, hc, n, hd⟩ := hl
        simp only at hc hd
        subst hc hd
        have ho' : (s.heap.push (newSetO w)).get? l = some { cls := .type "list", dict := dd, data := .seq items n, slots := sl } := Heap.get?_push_of_some _ ho
        have u1 := F.sub_list_set
        have u2 := F.sub_list_frozenset
        have u3 : (Value.type "list" == Value.type "dict") = false := by decide
        have hl1 : (s.heap.push (newSetO w)).IsList l items := ⟨_, ho', rfl, n, rfl⟩
        have lt := Heap.lt_size ho
        have hne : l ≠ (s.heap.push (newSetO w)).objs.size := by rw [zS]; exact Nat.ne_of_lt (Nat.lt_succ_of_lt lt)
        unfold Builtin.«set.__init__» noKeywords Builtin.Frozenset.updateFrom
        generalize hPI : pyIter = PI
        wp_walk
        subst hPI
        refine wpAny_pyIter_list hl1 (wpAny_bind (wpAny_runValue ?_))
        refine update_loop (kf := kf) ((Walks.list hh3 _ l hne items).toS) s.heap.objs.size (by rw [zS]; simp only [List.mem_cons, List.not_mem_nil, or_false, not_or]; exact ⟨Nat.ne_of_lt (Nat.lt_succ_self _), Nat.ne_of_gt lt⟩) ks hz hb hval (items.size - 0) 0 _ rfl (Nat.zero_le _) ⟨⟨_, Heap.get?_push_size _ rfl, rfl, rfl⟩, hl1.push _⟩ ?_ fun s' mv R => ?_
        · rw [List.take_zero]
          exact (At.fresh _ rfl).kept fun o e => Heap.get?_push_of_some _ e
        · obtain ⟨h', tk, e, R', k'⟩ := done zS mv (fun b o e => Heap.get?_push_of_some _ (Heap.get?_push_of_some _ e)) rfl rfl rfl R
          show wpAny _ _ _ _ _ _
          refine wpAny_pure ?_
          show wpAny _ _ (ret Value.none) _ _ _
          exact wpAny_pure ⟨rfl, h', tk, e, R', k'⟩
      · obtain ⟨⟨cls, dd, dat, sl⟩, ho, hc, n, hd⟩ := hl
        simp only at hc hd
        subst hc hd
        have ho' : (s.heap.push (newSetO w)).get? l = some { cls := .type "tuple", dict := dd, data := .seq items n, slots := sl } := Heap.get?_push_of_some _ ho
        have u1 := F.sub_tuple_set
        have u2 := F.sub_tuple_frozenset
        have u3 : (Value.type "tuple" == Value.type "dict") = false := by decide
        have hl1 : (s.heap.push (newSetO w)).IsTuple l items := ⟨_, ho', rfl, n, rfl⟩
        have lt := Heap.lt_size ho
        have hne : l ≠ (s.heap.push (newSetO w)).objs.size := by rw [zS]; exact Nat.ne_of_lt (Nat.lt_succ_of_lt lt)
        unfold Builtin.«set.__init__» noKeywords Builtin.Frozenset.updateFrom
        generalize hPI : pyIter = PI
        wp_walk
        subst hPI
        refine wpAny_pyIter_tuple hl1 (wpAny_bind (wpAny_runValue ?_))
        refine update_loop (kf := kf) ((Walks.tuple hh3 _ l hne items).toS) s.heap.objs.size (by rw [zS]; simp only [List.mem_cons, List.not_mem_nil, or_false, not_or]; exact ⟨Nat.ne_of_lt (Nat.lt_succ_self _), Nat.ne_of_gt lt⟩) ks hz hb hval (items.size - 0) 0 _ rfl (Nat.zero_le _) ⟨⟨_, Heap.get?_push_size _ rfl, rfl, rfl⟩, hl1.push _⟩ ?_ fun s' mv R => ?_
        · rw [List.take_zero]
          exact (At.fresh _ rfl).kept fun o e => Heap.get?_push_of_some _ e
        · obtain ⟨h', tk, e, R', k'⟩ := done zS mv (fun b o e => Heap.get?_push_of_some _ (Heap.get?_push_of_some _ e)) rfl rfl rfl R
          show wpAny _ _ _ _ _ _
          refine wpAny_pure ?_
          show wpAny _ _ (ret Value.none) _ _ _
          exact wpAny_pure ⟨rfl, h', tk, e, R', k'⟩
    · match r₂, hr₂ with
      | .error e, hr₂ => exact hr₂
      | .ok (.ret r), ⟨e1, h', tk, e2, R', k'⟩ =>
        subst e1 e2
        repeat (any_goals (first | assumption | wp_step))
        exact h _ _ R' k'
      | .ok .next, hr₂ => exact hr₂.elim
      | .ok .brk, hr₂ => exact hr₂.elim
      | .ok .cont, hr₂ => exact hr₂.elim
  | .ok .next, hr => exact hr.elim
  | .ok .brk, hr => exact hr.elim
  | .ok .cont, hr => exact hr.elim
end
end LS

set_option Elab.async false
set_option linter.all false
set_option maxRecDepth 100000
set_option maxHeartbeats 3200000
/-! Sets of texts: tracked, sorted, made by comprehensions. -/
namespace LS
open PySem PySem.Spec PyProof.Rows L2
/-- texts -/
def keyT : Value → Str
  | .str k _ => k
  | _ => Str.empty
def txt (P : Program) (w : World) : Kf (PySem.strKind P w) where
  key := keyT
  tells := fun k v h => by
    obtain ⟨t, rfl⟩ := Value.isStrOf_shape h
    rfl
theorem is_T (P : Program) (w : World) (k : Str) (t : Tok) : (PySem.strKind P w).is k (.str k t) = true := strKind_is P w k t
abbrev AtT (P : Program) (w : World) (h : Heap) (a : Addr) (L : List Str) : Prop := At (txt P w) h a L
theorem vals_T {P : Program} {w : World} {es : Array (Int × Value)} {t : SetTable} {L : List Str} (H : Holds (txt P w) es t L) {out : List Value} (p : out.Perm (es.toList.map (·.2))) :
    ∃ ks : List Str, ks.Perm L ∧ StrsAre out ks := by
  refine ⟨out.map keyT, ?_, ?_⟩
  · have q := p.map keyT
    rw [List.map_map] at q
    exact q.trans H.pm
  · have all : ∀ v ∈ out, ∃ k t, v = .str k t := fun v hv => by
      obtain ⟨e, he, q⟩ := List.mem_map.mp (p.mem_iff.mp hv)
      obtain ⟨⟨k, hk, _⟩, _⟩ := H.el e he
      obtain ⟨t, ht⟩ := Value.isStrOf_shape hk
      exact ⟨k, t, by rw [← q, ht]⟩
    clear p
    induction out with
    | nil => exact .nil
    | cons v out ih =>
      obtain ⟨k, t, rfl⟩ := all v List.mem_cons_self
      exact .cons k t (ih fun u hu => all u (List.mem_cons_of_mem _ hu))
/-- texts in their order -/
def strLe (a b : Str) : Bool := decide (a.cps.toList ≤ b.cps.toList)
theorem strLe_of : PySem.W.dataLe false (fun b : Str => PyData.str b) = strLe := PySem.W.dataLe_str id
theorem strLe_anti {a b : Str} (h1 : strLe a b = true) (h2 : strLe b a = true) : a = b := by
  have e : a.cps.toList = b.cps.toList := List.le_antisymm (of_decide_eq_true h1) (of_decide_eq_true h2)
  cases a
  cases b
  exact congrArg Str.mk (Array.toList_inj.mp e)
theorem strLe_trans (a b c : Str) (h1 : strLe a b = true) (h2 : strLe b c = true) : strLe a c = true := decide_eq_true (List.le_trans (of_decide_eq_true h1) (of_decide_eq_true h2))
theorem strLe_total (a b : Str) : (strLe a b || strLe b a) = true := by
  rw [Bool.or_eq_true]
  exact (List.le_total a.cps.toList b.cps.toList).imp decide_eq_true decide_eq_true
/-- sorted texts -/
def sortT (L : List Str) : List Str := L.mergeSort strLe
theorem sortT_perm (L : List Str) : (sortT L).Perm L := List.mergeSort_perm L strLe
theorem sortT_srt (L : List Str) : (sortT L).Pairwise fun a b => strLe a b = true := List.pairwise_mergeSort strLe_trans strLe_total L
theorem sortT_eq {L M : List Str} (p : L.Perm M) : sortT L = sortT M :=
  ((sortT_perm L).trans (p.trans (sortT_perm M).symm)).eq_of_pairwise (fun a b _ _ h1 h2 => strLe_anti h1 h2) (sortT_srt L) (sortT_srt M)
theorem mem_sortT {L : List Str} {x : Str} : x ∈ sortT L ↔ x ∈ L := (sortT_perm L).mem_iff
theorem each_T : ∀ {vs : List Value} {ks : List Str}, StrsAre vs ks → PySem.W.EachIs (fun v b => ∃ t, v = Value.str b t) vs ks
  | _, _, .nil => .nil
  | _, _, .cons k t h => .cons ⟨t, rfl⟩ (each_T h)
theorem strs_T : ∀ {vs : List Value} {ks : List Str}, PySem.W.EachIs (fun v b => ∃ t, v = Value.str b t) vs ks → StrsAre vs ks
  | _, _, .nil => .nil
  | _, _, .cons ⟨t, e⟩ h => by
    rw [e]
    exact .cons _ t (strs_T h)
section
variable {P : Program} {w : World} {A : Around} {E : Value → Shared → Prop} {s : Shared} {a : Addr} {L : List Str}
/-- found.add(k) -/
theorem call_addT {k : Str} {u : Tok} {Q : Value → Shared → Prop} (R : AtT P w s.heap a L) (room : L.length + 1 < scanBound) (hQ : ∀ h', Heap.SameBut a s.heap h' → AtT P w h' a (ins k L) → Q .none { s with heap := h', toks := s.toks + 1 }) :
    wpAny (model P w) A (call (.builtin "set.add") [.ref a, .str k u]) Q E s := by
  refine wpAny_call_entry F.slot_set_add R.setOf.typeIs F.entry_set_add ?_ (F.args_set_add_2 _ _)
  unfold Builtin.«set.add» Builtin.Frozenset.oneOther
  simp only [List.isEmpty_nil, bind_assoc]
  unfold Builtin.Frozenset.addrOf setAdd
  refine wpAny_bind (wpAny_pure ?_)
  try dsimp only
  refine wpAny_bind (wpAny_pure ?_)
  try dsimp only
  refine wpAny_bind (wpAny_holding (wpAny_bind ((PySem.strKind P w).pyHash (is_T P w k u) ?_)))
  refine addHashed (s := { s with toks := s.toks + 1 }) (is_T P w k u) rfl R room fun b h' sb r => ?_
  show wpAny _ _ (ret Value.none) _ _ _
  exact wpAny_pure ⟨_, rfl, hQ h' sb r⟩
/-- sorted(found) -/
theorem sorted_T {Q : Value → Shared → Prop} (R : AtT P w s.heap a L) (hh : A.handled = none) (hu : A.units + 3 < cLine)
    (hQ : ∀ (s' : Shared) (p : Addr) (out : List Value), (∀ b o, s.heap.get? b = some o → s'.heap.get? b = some o) → s'.gens = s.gens → s'.os = s.os → s.heap.objs.size ≤ p → (∃ n, s'.heap.get? p = some (seqObj "list" out.toArray n)) → StrsAre out (sortT L) → Q (.ref p) s') :
    wpAny (model P w) A (call (.builtin "sorted") [.ref a]) Q E s := by
  obtain ⟨o, es, ep, t, ho, hx, hd, H⟩ := R
  refine Calls.call_function_entry kind_sorted plain_sorted entry_sorted (args_sorted1 _) ?_
  unfold Builtin.«sorted»
  refine wpAny_bind (m := checkCount "sorted" 1 1 _) (wpAny_pure ?_)
  refine wpAny_bind (collect_set (A := A.in1) hh ⟨o, ho, hx.1, hd⟩ H.ft H.small H.ri H.ld fun s1 vs k1 z1 g1 o1 pm => ?_)
  obtain ⟨ks, pk, hv⟩ := vals_T H pm
  have hl : ks.length < scanBound := by rw [pk.length_eq]; exact H.sz
  have hvl : vs.length = ks.length := StrsAre.len_eq hv
  have hz : ks.length ≤ sizeLine := fits_of_scanBound hl
  refine wpAny_bind (wpAny_newList ?_ (by rw [hvl]; exact hz))
  have hoL : (s1.heap.push (seqObj "list" vs.toArray 0)).get? s1.heap.objs.size = some (seqObj "list" vs.toArray 0) := Heap.get?_push_size _ rfl
  have each : PySem.W.EachIs (fun v b => ∃ t, v = Value.str b t) vs ks := each_T hv
  refine wpAny_bind (wpAny_holding (PySem.W.list_sort_data (enc := fun b : Str => PyData.str b) (R := fun v b => ∃ t, v = Value.str b t) hoL each (each.mono fun v b ⟨t, e⟩ => ⟨[], by rw [e]; exact .str _ _, by simp⟩)
    (PySem.W.AllAlike.of fun b b' => rfl) (PySem.W.Sortable.others fun b => ⟨by simp, by simp⟩) hz (fun b hb => ?_) fun out hl2 e2 => ?_))
  · have z : (PyData.str b).depth = 0 := by simp [PyData.depth]
    rw [z, PyProof.Rows.units_in1]
    omega
  obtain ⟨c, hc⟩ := sortedHeap_at (vs := vs) (out := out.toArray) hoL
  rw [strLe_of] at e2
  refine wpAny_pure ⟨_, rfl, hQ _ s1.heap.objs.size out (fun b u e => ?_) g1 o1 z1 ⟨c, hc⟩ ?_⟩
  · have q := k1 b u e
    have lt := Heap.lt_size q
    show (sortedHeap (s1.heap.push (seqObj "list" vs.toArray 0)) s1.heap.objs.size vs out.toArray).get? b = some u
    rw [sortedHeap_old (Nat.ne_of_lt lt) (by rw [size_push']; exact Nat.lt_succ_of_lt lt)]
    exact Heap.get?_push_of_some _ q
  · rw [← sortT_eq pk]
    exact strs_T e2
end
end LS

set_option Elab.async false
set_option linter.all false
set_option maxRecDepth 100000
set_option maxHeartbeats 3200000
/-! Sets of texts, tracked: set(xs), sorted, len, in. -/
namespace LS
open PySem PySem.Spec PyProof.Rows L2
/-- the set of texts at a, as a tracked thing -/
def TxO (P : Program) (w : World) (a : Addr) (L : List Str) : HO := .ext fun h => AtT P w h a L
theorem txO_new {P : Program} {w : World} {H : Hp} {h : Heap} {a : Addr} {L : List Str} (R : AtT P w h a L) : ObjOk P w H h a (TxO P w a L) := by
  have ⟨o, _, _, _, ho, _⟩ := R
  exact ⟨R, ⟨o, ho⟩, fun h1 h2 p k => At.kept p k⟩
section
variable {X : Cx} {pins : List (Addr × Obj)} {σ : L2.St} {H : Hp} {s : Shared}
theorem txO_get {a : Addr} {L : List Str} (I : Inv X pins σ H s) (ha : H a = some (TxO X.prog X.w a L)) : AtT X.prog X.w s.heap a L := (I.hok a _ ha).1
/-- a text put in -/
theorem addT_ok {E : Value → Shared → Prop} {D : Addr} {L : List Str} {y : Str} {u : Tok} {Q : Value → Shared → Prop} (I : Inv X pins σ H s) (hD : H D = some (TxO X.prog X.w D L)) (room : L.length + 1 < scanBound)
    (h : ∀ s', Inv X pins σ (upd H D (TxO X.prog X.w D (ins y L))) s' → Q .none s') : wpAny (model X.prog X.w) X.A (call (.builtin "set.add") [.ref D, .str y u]) Q E s := by
  refine call_addT (txO_get I hD) room fun h' sb R => ?_
  have ⟨o, _, _, _, ho, _⟩ := R
  exact h _ (I.write (e := D) (t' := s.toks + 1) (by rw [hD]; trivial) (.inl rfl) (fun b u hb hu => (sb.2 b hb).trans hu) ⟨o, ho⟩ (txO_new R))
/-- sorted(found) -/
def rSortT (P : Program) (w : World) : List V → Hp → VK → Prop := fun xs H Q => ∃ (a : Addr) (L : List Str), xs = [V.ref a] ∧ H a = some (TxO P w a L) ∧ ∀ p, H p = none → Q (.ref p) (upd H p (.lst ((sortT L).map V.str)))
theorem cr_sortT (hc : X.calm = true) (hu : X.A.units + 3 < cLine) : CallR X (.builtin "sorted") (rSortT X.prog X.w) := by
  intro pins s σ H xs us Q I r h
  obtain ⟨a, L, rfl, ha, q⟩ := h
  have R := txO_get I ha
  obtain rfl := Vals.ref1 r
  refine sorted_T R (I.ok.hd hc) hu fun s' p out k g o hp ⟨n, hg⟩ hi => ?_
  have hz : ((sortT L).map V.str).length ≤ sizeLine := by
    obtain ⟨_, _, _, _, _, _, _, Hd⟩ := R
    rw [List.length_map, (sortT_perm L).length_eq]
    exact fits_of_scanBound Hd.sz
  have hn : H p = none := I.hok.fresh hp
  have J : Inv X pins σ (upd H p (.lst ((sortT L).map V.str))) { s with heap := s'.heap, gens := s'.gens, drawn := s'.drawn, toks := s'.toks } :=
    I.call (ch := []) (Un.laid k hp hn) (I.hok.laid k hp ⟨hz, out, n, vals_of_strs hi, hg⟩) (by rw [g]; exact I.bare) (fun _ z => nomatch z)
  have e : s' = { s with heap := s'.heap, gens := s'.gens, drawn := s'.drawn, toks := s'.toks } := by
    cases s'
    cases s
    cases o
    rfl
  rw [e]
  exact ⟨.ref p, _, J, rfl, q p hn⟩
/-- set(xs) of a list or a tuple of texts -/
def rSetT (P : Program) (w : World) (K : PySem.W.Frag) : List V → Hp → VK → Prop := fun xs H Q => ∃ (l : Addr) (ys : List Str), xs = [V.ref l] ∧ (SqL K H l (ys.map V.str) ∨ SqT K H l (ys.map V.str)) ∧ ys.length + 1 < scanBound ∧ ∀ p, H p = none → Q (.ref p) (upd H p (TxO P w p (insAll ys [])))
theorem strs_get : ∀ {us : List Value} {ys : List Str}, StrsAre us ys → ∀ (i : Nat) (v : Value), us[i]? = some v → ∃ k t, ys[i]? = some k ∧ v = Value.str k t
  | _, _, .nil, i, v, h => by simp at h
  | _, _, .cons n t hr, 0, v, h => ⟨n, t, rfl, by simpa using h.symm⟩
  | _, _, .cons n t hr, i + 1, v, h => strs_get hr i v (by simpa using h)
theorem cr_setT (hc : X.calm = true) : CallR X (.type "set") (rSetT X.prog X.w X.K) := by
  intro pins s σ H xs us Q I r h
  obtain ⟨l, ys, rfl, hq, room, q⟩ := h
  obtain rfl := Vals.ref1 r
  have go : ∀ its : List Value, Vals (ys.map V.str) its → (s.heap.IsList l its.toArray ∨ s.heap.IsTuple l its.toArray) → wpAny (model X.prog X.w) X.A (call (.type "set") [.ref l]) (EP X pins σ Q) X.xe s := fun its rv hl => by
    have hS : StrsAre its ys := strsAre_of rv
    refine make (txt X.prog X.w) ys (I.ok.hd hc) hl (by rw [List.size_toArray, ← rv.length, List.length_map]) room (fun i v hv => ?_) fun h' tk R k => ?_
    · obtain ⟨y, t, hy, rfl⟩ := strs_get hS i v (by simpa using hv)
      exact ⟨y, hy, is_T _ _ y t, rfl⟩
    · have hn : H s.heap.objs.size = none := I.hok.fresh (Nat.le_refl _)
      exact ⟨.ref s.heap.objs.size, _, I.laid (t' := tk) k (Nat.le_refl _) (txO_new R), rfl, q _ hn⟩
  rcases hq with hq | hq
  · obtain ⟨its, rv, pl, _⟩ := I.list hq
    exact go its rv (.inl pl.isList)
  · obtain ⟨its, rv, pl, _⟩ := I.tuple hq
    exact go its rv (.inr pl)
/-- len(found) -/
def rLenT (P : Program) (w : World) : List V → Hp → VK → Prop := fun xs H Q => ∃ (a : Addr) (L : List Str), xs = [V.ref a] ∧ H a = some (TxO P w a L) ∧ Q (.int L.length) H
theorem cr_lenT : CallR X (.builtin "len") (rLenT X.prog X.w) := by
  intro pins s σ H xs us Q I r h
  obtain ⟨a, L, rfl, ha, q⟩ := h
  obtain rfl := Vals.ref1 r
  obtain ⟨o, es, ep, t, ho, hex, hd, Hd⟩ := txO_get I ha
  have hs := Hd.small
  refine call_len_set ho hex hd Hd.ft (by unfold scanBound at hs; omega) ⟨.int L.length, H, I.tok _, ⟨_, by rw [Hd.size]⟩, q⟩
/-- k in found, k not in found -/
def rInT (P : Program) (w : World) (f : Bool → Bool) : V → V → Hp → VK → Prop := fun x y H Q => ∃ k a L, x = V.str k ∧ y = V.ref a ∧ H a = some (TxO P w a L) ∧ Q (.bl (f (decide (k ∈ L)))) H
theorem or_inT : OpR X (compareOp .In) (rInT X.prog X.w id) := by
  intro pins s σ H x y v u Q I rx ry h
  obtain ⟨k, a, L, rfl, rfl, ha, q⟩ := h
  obtain ⟨tk, rfl⟩ := rx
  cases ry
  exact wpAny_inSet_of (is_T _ _ k tk) rfl (txO_get I ha).setOf ⟨.bl _, H, I.tok _, rfl, q⟩
theorem or_notinT : OpR X (compareOp .NotIn) (rInT X.prog X.w fun b => !b) := by
  intro pins s σ H x y v u Q I rx ry h
  obtain ⟨k, a, L, rfl, rfl, ha, q⟩ := h
  obtain ⟨tk, rfl⟩ := rx
  cases ry
  exact wpAny_notInSet_of (is_T _ _ k tk) rfl (txO_get I ha).setOf ⟨.bl _, H, I.tok _, rfl, q⟩
end
end LS

set_option Elab.async false
set_option linter.all false
set_option maxRecDepth 100000
set_option maxHeartbeats 3200000
/-! A set of texts made by a comprehension with two fors. -/
namespace LS
open PySem PySem.Spec PyProof.Rows L2
/-- {elt for t0 in i0 for t1 in i1} -/
abbrev SC2 (elt t0 i0 t1 i1 : Expr) (scope : Scope) (pos : Pos) : Expr := .SetComp elt [⟨t0, i0, [], 0⟩, ⟨t1, i1, [], 0⟩] scope pos
section
variable {prog : Program} {w : World} {A : Around} {R : Result → Shared → Prop} {s : Shared} {env : Env} {elt t0 i0 t1 i1 : Expr} {scope : Scope} {pos : Pos} {it acc : Value}
/-- the second clause's start -/
theorem start_in (h0 : codeAny (model prog w) A (.compLoop (SC2 elt t0 i0 t1 i1 scope pos) 1 it acc env) R s)
    (h : wpAny (model prog w) A (pyIter it) (fun u s' => codeAny (model prog w) A (.compLoop (SC2 elt t0 i0 t1 i1 scope pos) 1 u acc env) R s') (notedBy (model prog w) A env fun x s' => R (.error x) s') s) :
    codeAny (model prog w) A (.compStart (SC2 elt t0 i0 t1 i1 scope pos) 1 it acc env) R s := by
  refine codeAny_of_tree ?_
  show wpAny _ _ ((compStart (SC2 elt t0 i0 t1 i1 scope pos) 1 it acc env).onRaise (fun x => noteFrame x env >>= fun _ => standAt theWindowsPlace)) _ _ s
  refine wpAny_notedAt ?_
  unfold compStart
  show wpAny _ _ (ask >>= _) _ _ s
  refine wpAny_bind (wpAny_askSetting (wpAny_ite ?_))
  split
  · first
      | exact wpAny_pure ⟨rfl, h0⟩
      | exact wpAny_bind (wpAny_pure (wpAny_pure ⟨rfl, h0⟩))
  · refine wpAny_bind (wpAny_rule ?_)
    first
      | exact wpAny_bind (wpAny_standAt (wpAny_bind (wpAny_mono h (fun u s' h' => wpAny_pure ⟨rfl, h'⟩) fun _ _ x => x)))
      | (show wpAny _ _ (standAt i1.pos >>= _) _ _ s; exact wpAny_bind (wpAny_standAt (wpAny_bind (wpAny_mono h (fun u s' h' => wpAny_pure ⟨rfl, h'⟩) fun _ _ x => x))))
/-- the second clause's loop, a turn -/
theorem loop_in (I : Nat → Shared → Prop) (turn : ∀ n s, I n s → wpAny (model prog w) A (pyNext it) (fun r s₁ => match r with
      | none => R (.ok .next) s₁
      | some v => wpAny (model prog w) A (letOwnedTupleGo t1 it v) (fun _ s₂ => wpAny (model prog w) A (assign t1 env v) (fun _ s₃ => wpAny (model prog w) A (eval elt env) (fun y s₄ =>
          wpAny (model prog w) A (call (.builtin "set.add") [acc, y]) (fun _ s₅ => ∃ m, m < n ∧ I m s₅) (fun _ _ => False) s₄) (fun _ _ => False) s₃) (fun _ _ => False) s₂) (fun _ _ => False) s₁) (fun _ _ => False) s)
    (n : Nat) (h : I n s) : codeAny (model prog w) A (.compLoop (SC2 elt t0 i0 t1 i1 scope pos) 1 it acc env) R s := by
  refine codeAny_loop rfl I (fun n s hI => ?_) n h
  show wpAny _ A ((compTurn (SC2 elt t0 i0 t1 i1 scope pos) 1 it acc env).onRaise (fun x => noteFrame x env >>= fun _ => theTreesLotGoes x)) _ _ s
  refine wpAny_noted ?_
  show wpAny _ _ (standAt i1.pos >>= _) _ _ s
  refine wpAny_bind (wpAny_standAt (wpAny_bind (wpAny_mono (turn n s hI) (fun r s₁ h₁ => ?_) fun _ _ z => z.elim)))
  cases r with
  | none => exact wpAny_pure h₁
  | some v =>
    refine wpAny_bind (wpAny_mono h₁ (fun _ s₂ h₂ => ?_) fun _ _ z => z.elim)
    refine wpAny_bind (wpAny_mono h₂ (fun _ s₃ h₃ => ?_) fun _ _ z => z.elim)
    refine wpAny_bind (wpAny_pure ?_)
    exact wpAny_bind (wpAny_bind (wpAny_mono h₃ (fun y s₄ h₄ => wpAny_bind (wpAny_standAt (wpAny_bind (wpAny_mono h₄ (fun _ s₅ h₅ => wpAny_pure (wpAny_pure ⟨rfl, h₅⟩)) fun _ _ z => z.elim)))) fun _ _ z => z.elim))
/-- the first clause's loop, a turn -/
theorem loop_out (hs : ∀ x, foldedSetIterable i1 env x = pure x) (I : Nat → Shared → Prop) (turn : ∀ n s, I n s → wpAny (model prog w) A (pyNext it) (fun r s₁ => match r with
      | none => R (.ok .next) s₁
      | some v => wpAny (model prog w) A (letOwnedTupleGo t0 it v) (fun _ s₂ => wpAny (model prog w) A (assign t0 env v) (fun _ s₃ => wpAny (model prog w) A (eval i1 env) (fun x s₄ => wpAny (model prog w) A (pyIter x) (fun it1 s₅ =>
          codeAny (model prog w) A (.compStart (SC2 elt t0 i0 t1 i1 scope pos) 1 it1 acc env) (fun r s' => match r with
            | .ok _ => ∃ m, m < n ∧ I m s'
            | .error _ => False) s₅) (fun _ _ => False) s₄) (fun _ _ => False) s₃) (fun _ _ => False) s₂) (fun _ _ => False) s₁) (fun _ _ => False) s)
    (n : Nat) (h : I n s) : codeAny (model prog w) A (.compLoop (SC2 elt t0 i0 t1 i1 scope pos) 0 it acc env) R s := by
  refine codeAny_loop rfl I (fun n s hI => ?_) n h
  show wpAny _ A ((compTurn (SC2 elt t0 i0 t1 i1 scope pos) 0 it acc env).onRaise (fun x => noteFrame x env >>= fun _ => theTreesLotGoes x)) _ _ s
  refine wpAny_noted ?_
  show wpAny _ _ (standAt i0.pos >>= _) _ _ s
  refine wpAny_bind (wpAny_standAt (wpAny_bind (wpAny_mono (turn n s hI) (fun r s₁ h₁ => ?_) fun _ _ z => z.elim)))
  cases r with
  | none => exact wpAny_pure h₁
  | some v =>
    refine wpAny_bind (wpAny_mono h₁ (fun _ s₂ h₂ => ?_) fun _ _ z => z.elim)
    refine wpAny_bind (wpAny_mono h₂ (fun _ s₃ h₃ => ?_) fun _ _ z => z.elim)
    refine wpAny_bind (wpAny_pure ?_)
    refine wpAny_bind (wpAny_mono h₃ (fun x s₄ h₄ => ?_) fun _ _ z => z.elim)
    refine wpAny_bind (wpAny_standAt (wpAny_bind (wpAny_of_eq (hs x) (wpAny_bind (wpAny_holding (wpAny_mono h₄ (fun it1 s₅ h₅ => ?_) fun _ _ z => z.elim))))))
    refine wpAny_bind (wpAny_runOwn ?_)
    rw [Around.mark_none]
    refine codeAny_mono h₅ fun r s' hr => ?_
    match r, hr with
    | .error e, hr => exact hr.elim
    | .ok f, hr =>
      first
        | exact wpAny_pure ⟨rfl, hr⟩
        | exact wpAny_bind (wpAny_pure (wpAny_pure ⟨rfl, hr⟩))
end

/-- behind the first clause's store the second source's own loop, from which Nx is reached; vs: the block's names, vs1: those of the second target -/
def tSc2 (P : Program) (w : World) (wi : TI) (g : TG) (wi1 : TI) (g1 : TG) (te : TE) (vs vs1 : List Nat) : TE := fun σ H Q => wi σ H fun J H1 => ∀ D, H1 D = none → ∃ W : Nat → Nat → Hp → Prop, (∃ m, W 0 m (upd H1 D (TxO P w D []))) ∧ ∀ i m H, W i m H →
  (J.stop i H ∧ Q (.ref D) H) ∨ (J.go i H ∧ ∃ Nx : Hp → Prop, (∀ H', Nx H' → ∃ m', m' < m ∧ W (i + 1) m' H') ∧ ∀ x H', J.yld i H x H' → g x (wipe σ vs) H' fun σ2 H2 => wipe σ2 vs = wipe σ vs ∧
    wi1 σ2 H2 fun J1 H4 => ∃ W1 : Nat → Nat → Hp → Prop, (∃ m, W1 0 m H4) ∧ ∀ j k H, W1 j k H →
      (J1.stop j H ∧ Nx H) ∨ (J1.go j H ∧ ∃ Nx1 : Hp → Prop, (∀ H', Nx1 H' → ∃ k', k' < k ∧ W1 (j + 1) k' H') ∧ ∀ x H', J1.yld j H x H' → g1 x (wipe σ2 vs1) H' fun σ3 H5 => wipe σ3 vs1 = wipe σ2 vs1 ∧
        te σ3 H5 fun y H7 => ∃ c L, y = .str c ∧ H7 D = some (TxO P w D L) ∧ L.length + 1 < scanBound ∧ Nx1 (upd H7 D (TxO P w D (ins c L)))))
section
variable {X : Cx}
theorem sc2_core {pins : List (Addr × Obj)} {s : Shared} {σ : L2.St} {H : Hp} {Q : VK} {elt tg iter tg1 iter1 : Expr} {scope : Scope} {own : List (Str × Nat)} {vs1 : List Nat} {pos pos' : Pos} {wi wi1 : TI} {g g1 : TG} {te : TE} {use : Option (Value → Sem Unit)} {Qf : Value → Shared → Prop}
    (hc : X.calm = true) (hN : X.N.Nodup) (I : Inv X pins σ H s) (hi : PI X tg iter wi) (ok : BlkOk X.N X.env.scope scope own) (hv : ∀ i ∈ vs1, i ∈ own.map (·.2))
    (hb : ∀ (s : Shared) (H : Hp) (C : Addr) (cl : List (Str × Addr)) (fp : List Addr), PG (X.blk s H scope (compEnvC scope cl C X.env) fp) tg g ∧ PE (X.blk s H scope (compEnvC scope cl C X.env) fp) elt te ∧
      PI (X.blk s H scope (compEnvC scope cl C X.env) fp) tg1 iter1 wi1 ∧ PG (X.blk s H scope (compEnvC scope cl C X.env) fp) tg1 g1)
    (hs : ∀ x, foldedSetIterable iter X.env x = pure x) (hs1 : ∀ env x, foldedSetIterable iter1 env x = pure x)
    (h : tSc2 X.prog X.w wi g wi1 g1 te (own.map (·.2)) vs1 σ H Q)
    (hRR : ∀ D C s' m H', Inv X pins σ H' s' → Q (.ref D) H' → s'.heap.Ns C m → FpOk X pins H' C → compPost (model X.prog X.w) X.A X.xe use Qf (.ref D) C (.ok .next) s') :
    wpAny (model X.prog X.w) X.A (comprehension (SC2 elt tg iter tg1 iter1 scope pos) scope X.env pos' (newSet (.type "set")) false (eval iter X.env) use) Qf X.xe s := by
  have hfree : ∀ y ∈ scope.names, y.2 = .free → ∃ c, X.env.cells.lookup y.1 = some c := fun y hy e => (ok.free y hy e).elim (fun k => I.ok.has _ (.inl k)) fun k => I.ok.has _ (.inr k)
  refine wpAny_comprehension_free (use := use) rfl hs (closure_ok hfree) ok.kind (fun y hy e => by rw [ok.uniq y hy, e]) (thn (hi.run pins s σ H _ I h) fun xv s1 hx => thn hx fun itv s2 h2 => ?_)
  obtain ⟨it, fp, tn, J, H2, rfl, I2, T, st2, f2, q⟩ := h2
  refine PpSet.newSet_ok (newEnv_comp ?_)
  -- the new set
  obtain ⟨D, hD⟩ : ∃ D, D = s2.heap.objs.size := ⟨_, rfl⟩
  obtain ⟨s3, hs3⟩ : ∃ s3 : Shared, s3 = { s2 with heap := s2.heap.push (newSetO X.w) } := ⟨_, rfl⟩
  obtain ⟨H3, hH3⟩ : ∃ H3, H3 = upd H2 D (TxO X.prog X.w D []) := ⟨_, rfl⟩
  have hDn : H2 D = none := I2.hok.fresh (Nat.le_of_eq hD.symm)
  obtain ⟨W, ⟨m0, w0⟩, turn⟩ := q D hDn
  have I3 : Inv X pins σ H3 s3 := by
    rw [hs3, hH3]
    refine I2.laid (t' := s2.toks) (fun b o e => Heap.get?_push_of_some _ e) (Nat.le_of_eq hD.symm) ?_
    rw [hD]
    exact txO_new (At.fresh _ rfl)
  have f3 : ∀ b ∈ fp, FpOk X pins H3 b ∧ b < s3.heap.objs.size := fun b hb => by
    obtain ⟨o, e, _⟩ := T.obj _ _ st2 b hb
    have lt := Heap.lt_size e
    refine ⟨⟨?_, (f2 b hb).2⟩, by rw [hs3]; show b < (s2.heap.push _).objs.size; rw [Heap.size_push]; exact Nat.lt_succ_of_lt lt⟩
    rw [hH3, upd_ne (by rw [hD]; exact Nat.ne_of_lt lt)]
    exact (f2 b hb).1
  have st3 : tn 0 s3.heap := T.keep _ _ _ st2 fun b _ o e => by rw [hs3]; exact Heap.get?_push_of_some _ e
  rw [← hH3] at w0
  clear q
  -- the block
  have I4 := block_start I3 ok hN f3
  obtain ⟨pg, pe, pi1, pg1⟩ := hb s3 H3 s3.heap.objs.size (cellsFrom (s3.heap.objs.size + 1) scope.names (cloFrom X.env.cells scope.names [])) fp
  rw [← hs3, ← hD]
  show codeAny _ _ (.compStart (SC2 elt tg iter tg1 iter1 scope pos) 0 (.ref it) (.ref D) (compEnvC scope (cellsFrom (s3.heap.objs.size + 1) scope.names (cloFrom X.env.cells scope.names [])) s3.heap.objs.size X.env)) (compPost (model X.prog X.w) X.A X.xe use Qf (.ref D) s3.heap.objs.size) { s3 with heap := pushCells (s3.heap.push { cls := .type "dict", data := .dict #[] }) scope.names }
  generalize hce : compEnvC scope (cellsFrom (s3.heap.objs.size + 1) scope.names (cloFrom X.env.cells scope.names [])) s3.heap.objs.size X.env = ce at I4 pg pe pi1 pg1 ⊢
  have cL : ce.locals = s3.heap.objs.size := by rw [← hce]; rfl
  generalize hs4 : ({ s3 with heap := pushCells (s3.heap.push { cls := .type "dict", data := .dict #[] }) scope.names } : Shared) = s4 at I4 ⊢
  have st4 : tn 0 s4.heap := T.keep _ _ _ st3 fun b _ o e => by rw [← hs4]; exact pushCells_keeps _ _ _ _ (Heap.get?_push_of_some _ e)
  -- what a turn of the first loop finds
  have fpo : ∀ {σ' : L2.St} {H' : Hp} {s' : Shared}, Inv (X.blk s3 H3 scope ce fp) [] σ' H' s' → (∀ b ∈ fp, H' b = none) → ∀ b ∈ fp, FpOk (X.blk s3 H3 scope ce fp) [] H' b := fun {σ' H' s'} I' hn b hb =>
    ⟨hn b hb, (I'.ok.exf b hb).1, I'.ok.exfs b hb, .inl hb, fun x c e => (I'.ok.exf b hb).2 x c e, fun p hp => absurd (show p ∈ ([] : List (Addr × Obj)) ++ [] from hp) (by simp)⟩
  have nfp : ∀ b ∈ fp, H3 b = none := fun b hb => (f3 b hb).1.1
  have loop : codeAny (model X.prog X.w) X.A (.compLoop (SC2 elt tg iter tg1 iter1 scope pos) 0 (.ref it) (.ref D) ce) (compPost (model X.prog X.w) X.A X.xe use Qf (.ref D) s3.heap.objs.size) s4 := by
    refine loop_out (hs1 ce) (fun n s' => ∃ i H', Inv (X.blk s3 H3 scope ce fp) [] (wipe σ (own.map (·.2))) H' s' ∧ tn i s'.heap ∧ (∀ b ∈ fp, H' b = none) ∧ W i n H') ?_ m0 ⟨0, H3, I4, st4, nfp, w0⟩
    rintro n s5 ⟨i, H5, I5, st5, n5, w5⟩
    rcases turn i n H5 w5 with ⟨stop, qq⟩ | ⟨go, Nx, hNx, step⟩
    · refine thnF (T.done (X.blk s3 H3 scope ce fp) rfl rfl rfl hc i [] s5 _ H5 (fun _ _ => False) I5 (fpo I5 n5) st5 stop) fun r s6 ⟨hr, I6⟩ => ?_
      subst hr
      have I7 : Inv X pins σ H5 s6 := I3.call' (ch := fp) I6.os I6.base I6.hok I6.bare fun b hb => ⟨(f3 b hb).1.2.2.2.1, (f3 b hb).1.2.1, (f3 b hb).1.2.2.2.2.1, (f3 b hb).1.2.2.2.2.2⟩
      have nC : H5 s3.heap.objs.size = none := by
        rw [← cL]
        exact I6.free
      obtain ⟨m, hn, _⟩ := I6.loc
      have hn : s6.heap.Ns ce.locals m := hn
      rw [cL] at hn
      exact hRR D s3.heap.objs.size s6 m H5 I7 qq hn (I3.fpOk (Nat.le_refl _) nC)
    · refine thnF (T.item (X.blk s3 H3 scope ce fp) rfl rfl rfl hc i [] s5 _ H5 (fun _ _ => False) I5 (fpo I5 n5) st5 go) fun r s6 ⟨u, hr, h6⟩ => ?_
      subst hr
      refine thnF h6 fun _ s7 ⟨x, H7, I7, r7, y7, st7, n7⟩ => ?_
      have I7' := I7.pinned (fpo I7 n7) (T.obj _ _ st7)
      refine thnF (pg.run _ s7 _ H7 x u _ I7' r7 (step x H7 y7)) fun _ s8 ⟨σ8, H8, I8, hw8, q8⟩ => ?_
      obtain ⟨pn, hpn⟩ : ∃ pn, pn = [] ++ pinsAt fp s7.heap := ⟨_, rfl⟩
      rw [← hpn] at I8
      -- back to the first loop
      have back : ∀ {σ9 : L2.St} {s' : Shared} {H' : Hp}, Inv (X.blk s3 H3 scope ce fp) pn σ9 H' s' → (wipe σ (own.map (·.2))).length = σ9.length → (∀ (j : Nat) v, (wipe σ (own.map (·.2)))[j]? = some (some v) → σ9[j]? = some (some v)) → Nx H' →
          ∃ m, m < n ∧ ∃ i H', Inv (X.blk s3 H3 scope ce fp) [] (wipe σ (own.map (·.2))) H' s' ∧ tn i s'.heap ∧ (∀ b ∈ fp, H' b = none) ∧ W i m H' := fun {σ9 s' H'} I' hl hk nx => by
        obtain ⟨m', hm, w'⟩ := hNx H' nx
        rw [hpn] at I'
        have pin' : ∀ b ∈ fp, ∀ o, s7.heap.get? b = some o → s'.heap.get? b = some o ∧ H' b = none := fun b hb o e =>
          let z := I'.pin (b, o) (List.mem_append_right _ (List.mem_append_right _ (mem_pinsAt hb e)))
          ⟨z.1, z.2.1⟩
        refine ⟨m', hm, i + 1, H', (I'.unpinned (pins := [])).weak hl hk, T.keep _ _ _ st7 fun b hb o e => (pin' b hb o e).1, fun b hb => ?_, w'⟩
        obtain ⟨o, e, _⟩ := T.obj _ _ st7 b hb
        exact (pin' b hb o e).2
      have hl9 : (wipe σ (own.map (·.2))).length = (wipe σ8 vs1).length := by rw [wipe_length σ8 vs1, ← hw8, wipe_length]
      have hk9 : ∀ (j : Nat) v, (wipe σ (own.map (·.2)))[j]? = some (some v) → (wipe σ8 vs1)[j]? = some (some v) := fun j v e => by
        rw [← hw8] at e
        obtain ⟨e1, e2⟩ := wipe_some e
        rw [wipe_out fun z => e2 (hv j z)]
        exact e1
      refine thnF (pi1.run _ s8 σ8 H8 _ I8 q8) fun xv s9 hx => thnF hx fun itv s10 h10 => ?_
      obtain ⟨it1, fp1, tn1, J1, H10, rfl, I10, T1, st10, f10, W1, ⟨m1, w1⟩, turn1⟩ := h10
      have fpo1 : ∀ {H' : Hp}, (∀ b ∈ fp1, H' b = none) → ∀ b ∈ fp1, FpOk (X.blk s3 H3 scope ce fp) pn H' b := fun hn b hb => ⟨hn b hb, (f10 b hb).2⟩
      have loop1 : codeAny (model X.prog X.w) X.A (.compLoop (SC2 elt tg iter tg1 iter1 scope pos) 1 (.ref it1) (.ref D) ce) (fun r s' => match r with
          | .ok _ => ∃ m, m < n ∧ ∃ i H', Inv (X.blk s3 H3 scope ce fp) [] (wipe σ (own.map (·.2))) H' s' ∧ tn i s'.heap ∧ (∀ b ∈ fp, H' b = none) ∧ W i m H'
          | .error _ => False) s10 := by
        refine loop_in (fun k s' => ∃ j H', Inv (X.blk s3 H3 scope ce fp) pn (wipe σ8 vs1) H' s' ∧ tn1 j s'.heap ∧ (∀ b ∈ fp1, H' b = none) ∧ W1 j k H') ?_ m1 ⟨0, H10, I10.weak (wipe_length _ _) (fun j v e => (wipe_some e).1), st10, fun b hb => (f10 b hb).1, w1⟩
        rintro k s11 ⟨j, H11, I11, st11, n11, w11⟩
        rcases turn1 j k H11 w11 with ⟨stop1, nx1⟩ | ⟨go1, Nx1, hNx1, step1⟩
        · refine thnF (T1.done (X.blk s3 H3 scope ce fp) rfl rfl rfl hc j _ s11 (wipe σ8 vs1) H11 (fun _ _ => False) I11 (fpo1 n11) st11 stop1) fun r s12 ⟨hr, I12⟩ => ?_
          subst hr
          exact back I12 hl9 hk9 nx1
        · refine thnF (T1.item (X.blk s3 H3 scope ce fp) rfl rfl rfl hc j _ s11 (wipe σ8 vs1) H11 (fun _ _ => False) I11 (fpo1 n11) st11 go1) fun r s12 ⟨u1, hr, h12⟩ => ?_
          subst hr
          refine thnF h12 fun _ s13 ⟨x1, H13, I13, r13, y13, st13, n13⟩ => ?_
          have I13' := I13.pinned (fpo1 n13) (T1.obj _ _ st13)
          refine thnF (pg1.run _ s13 (wipe σ8 vs1) H13 x1 u1 _ I13' r13 (step1 x1 H13 y13)) fun _ s14 ⟨σ14, H14, I14, hw14, q14⟩ => ?_
          refine thnF (pe.run _ s14 σ14 H14 _ I14 q14) fun z s15 ⟨yv, H15, I15, r15, c, L, ey, hD15, room, nx⟩ => ?_
          subst ey
          obtain ⟨tk, rfl⟩ := r15
          refine addT_ok (X := (X.blk s3 H3 scope ce fp)) I15 hD15 room fun s16 I16 => ?_
          obtain ⟨m', hm, w'⟩ := hNx1 _ nx
          have pin' : ∀ b ∈ fp1, ∀ o, s13.heap.get? b = some o → s16.heap.get? b = some o ∧ (upd H15 D (TxO X.prog X.w D (ins c L))) b = none := fun b hb o e =>
            let z := I16.pin (b, o) (List.mem_append_right _ (List.mem_append_right _ (mem_pinsAt hb e)))
            ⟨z.1, z.2.1⟩
          refine ⟨m', hm, j + 1, _, I16.unpinned.weak (by rw [← hw14, wipe_length]) (fun j v e => by rw [← hw14] at e; exact (wipe_some e).1), T1.keep _ _ _ st13 fun b hb o e => (pin' b hb o e).1, fun b hb => ?_, w'⟩
          obtain ⟨o, e, _⟩ := T1.obj _ _ st13 b hb
          exact (pin' b hb o e).2
      exact start_in loop1 (T1.self X.A 0 _ _ _ st10 loop1)
  exact PpSet.codeAny_compStart_set loop (T.self X.A 0 _ _ _ st4 loop)
/-- as a value -/
theorem pe_sc2 {elt tg iter tg1 iter1 : Expr} {scope : Scope} {own : List (Str × Nat)} {vs1 : List Nat} {pos : Pos} {wi wi1 : TI} {g g1 : TG} {te : TE} (hc : X.calm = true) (hN : X.N.Nodup) (hi : PI X tg iter wi) (ok : BlkOk X.N X.env.scope scope own) (hv : ∀ i ∈ vs1, i ∈ own.map (·.2))
    (b1 : ∀ (s : Shared) (H : Hp) (C : Addr) (cl : List (Str × Addr)) (fp : List Addr), PG (X.blk s H scope (compEnvC scope cl C X.env) fp) tg g)
    (b2 : ∀ (s : Shared) (H : Hp) (C : Addr) (cl : List (Str × Addr)) (fp : List Addr), PE (X.blk s H scope (compEnvC scope cl C X.env) fp) elt te)
    (b3 : ∀ (s : Shared) (H : Hp) (C : Addr) (cl : List (Str × Addr)) (fp : List Addr), PI (X.blk s H scope (compEnvC scope cl C X.env) fp) tg1 iter1 wi1)
    (b4 : ∀ (s : Shared) (H : Hp) (C : Addr) (cl : List (Str × Addr)) (fp : List Addr), PG (X.blk s H scope (compEnvC scope cl C X.env) fp) tg1 g1)
    (hs : ∀ x, foldedSetIterable iter X.env x = pure x := by intro _; rfl) (hs1 : ∀ env x, foldedSetIterable iter1 env x = pure x := by intro _ _; rfl) :
    PE X (.SetComp elt [⟨tg, iter, [], 0⟩, ⟨tg1, iter1, [], 0⟩] scope pos) (tSc2 X.prog X.w wi g wi1 g1 te (own.map (·.2)) vs1) := by
  refine ⟨fun pins s σ H Q I h => ?_⟩
  rw [PpSet.eval_SetComp]
  refine sc2_core hc hN I hi ok hv (fun s H C cl fp => ⟨b1 s H C cl fp, b2 s H C cl fp, b3 s H C cl fp, b4 s H C cl fp⟩) hs hs1 h fun D C s' m H' I' q hn f => ⟨m, hn, fun h'' sb => ?_⟩
  obtain ⟨f0, f1, f2, f3, f4, f5⟩ := f
  exact ⟨.ref D, H', I'.turned (t' := s'.toks) (fun b o hb e => (sb.2 b hb).trans e) f0 f1 f3 f4 f5, rfl, q⟩
end
end LS

set_option Elab.async false
set_option linter.all false
set_option maxRecDepth 100000
set_option maxHeartbeats 2000000
/-! for i, x in enumerate(t), t a tuple. -/
namespace LW
open PySem PySem.Spec PyProof.Rows L2
theorem enumNewT (l : Addr) (items : Array Value) : Meets (Builtin.«enumerate.__new__» ⟨[.type "enumerate", .ref l], []⟩) (fun _ R s => s.heap.IsTuple l items ∧
      R (.ok (.ret (.ref (s.heap.push { cls := .type "tuple_iterator", data := .fields #[.ref l, .int 0 0] }).objs.size)))
        { s with heap := (s.heap.push { cls := .type "tuple_iterator", data := .fields #[.ref l, .int 0 0] }).push { cls := .type "enumerate", data := .fields #[.none, .bool false, .ref s.heap.objs.size, rawInt 0, .none, .none] } }) :=
  .of_wp fun prog w A R s ⟨hT, h⟩ => by
    obtain ⟨hp, g, d, tk, os⟩ := s
    have hsub := sub_enumerate
    wp_walk
    refine wpAny_stack_any fun st => wpAny_pure ?_
    split
    · rename_i c _ _ _ _ _
      cases (c == Value.type "enumerate") <;> (wp_walk using wpAny_pyIter_tuple hT; exact ⟨_, rfl, h⟩)
    · wp_walk using wpAny_pyIter_tuple hT
      exact ⟨_, rfl, h⟩
section
variable {prog : Program} {w : World} {A : Around} {E : Value → Shared → Prop} {s : Shared}
/-- enumerate(t): the enumerator, and the tuple's iterator below it -/
theorem call_enumT {l : Addr} {items : Array Value} {Q : Value → Shared → Prop} (hT : s.heap.IsTuple l items)
    (h : ∀ h', IsEnum h' (s.heap.objs.size + 1) s.heap.objs.size 0 .none → h'.IsTupleIter s.heap.objs.size l 0 → (∀ b o, s.heap.get? b = some o → h'.get? b = some o) → Q (.ref (s.heap.objs.size + 1)) { s with heap := h' }) :
    wpAny (model prog w) A (call (.type "enumerate") [.ref l]) Q E s := by
  obtain ⟨T, eT⟩ : ∃ T : Obj, T = { cls := .type "tuple_iterator", data := .fields #[.ref l, .int 0 0] } := ⟨_, rfl⟩
  obtain ⟨U, eU⟩ : ∃ U : Obj, U = { cls := .type "enumerate", data := .fields #[.none, .bool false, .ref s.heap.objs.size, rawInt 0, .none, .none] } := ⟨_, rfl⟩
  have m := enumNewT l items
  refine callType_new F.called_enumerate (by decide) (F.typeCall_enumerate_1 _) (F.newCall_enumerate_1 _) (fun obj => F.args_object_init_2 obj _) F.entry_enumerate_new m ⟨hT, ?_⟩
  rw [← eT, ← eU]
  have hz : (s.heap.push T).objs.size = s.heap.objs.size + 1 := Heap.size_push ..
  show _ ∧ _
  rw [hz]
  have g1 : ((s.heap.push T).push U).get? (s.heap.objs.size + 1) = some U := by
    have q := Heap.get?_push_size (s.heap.push T) (o := U) (by rw [eU]; rfl)
    rwa [hz] at q
  have g0 : ((s.heap.push T).push U).get? s.heap.objs.size = some T := Heap.get?_push_of_some _ (Heap.get?_push_size _ (by rw [eT]; rfl))
  rw [eU] at g1
  rw [eT] at g0
  refine ⟨⟨_, by rw [eU]; exact g1, rfl⟩, h _ (by rw [eU]; exact g1) ⟨_, by rw [eU, eT]; rw [eU] at g0; exact g0, rfl, rfl⟩ fun b o x => Heap.get?_push_of_some _ (Heap.get?_push_of_some _ x)⟩
end
/-- the tuple at a as it stands at each turn, each item in a new pair -/
def IteT (K : PySem.W.Frag) (a : Addr) : It :=
  ⟨fun i H => ∃ (xs : List V) (x : V), SqT K H a xs ∧ xs[i]? = some x, fun i H v H' => ∃ T x, v = .ref T ∧ H T = none ∧ H' = upd H T (.tup [.int (i : Nat), x]) ∧ ∀ xs, SqT K H a xs → xs[i]? = some x, fun i H => ∃ xs : List V, SqT K H a xs ∧ xs.length = i⟩
theorem walk_enumT {K : PySem.W.Frag} {a : Addr} {xs : List V} : Walk (IteT K a) xs.length (fun H => SqT K H a xs) (YPair (fun i => some (.int (i : Nat))) (fun i => xs[i]?)) :=
  ⟨fun i _ hi q => ⟨xs, xs[i], q, by simp [hi]⟩, fun _ q => ⟨xs, q, rfl⟩, fun i H v H' _ q y => by
    obtain ⟨T, x, h1, h2, h3, h4⟩ := y
    exact ⟨T, .int (i : Nat), x, h1, h2, h3, rfl, h4 xs q⟩⟩
theorem turn_enumT {P : Program} {w : World} {K : PySem.W.Frag} {elts : List Expr} {kk : Nat} {tpos : Pos} (a e it : Addr) :
    Turn P w K (.Tuple elts kk tpos) (IteT K a) [e, it] e (fun i h => (∃ old, IsEnum h e it ((i : Nat) : Int) old) ∧ h.IsTupleIter it a i ∧ e ≠ it ∧ a ≠ it ∧ e ≠ a) where
  mem := List.mem_cons_self
  obj := fun i h ⟨⟨old, he⟩, ⟨o, ho, hc, hd⟩, _⟩ b hb => by
    rcases List.mem_cons.mp hb with rfl | hb
    · exact ⟨_, he, fun v q => nomatch q⟩
    · rw [List.mem_singleton.mp hb]
      exact ⟨o, ho, fun v q => by rw [hd] at q; cases q⟩
  keep := fun i h h' ⟨⟨old, he⟩, hi, r⟩ k => ⟨⟨old, k e List.mem_cons_self _ he⟩, hi.at fun o q => k it (by simp) o q, r⟩
  item := by
    intro X hP hw hK hc i pins s σ H E I hf st hg
    subst hP hw hK
    obtain ⟨⟨old, he⟩, hit, hne, hai, hea⟩ := st
    obtain ⟨xs, x, hq, hx⟩ := hg
    obtain ⟨its, rv, p, hz⟩ := I.tuple hq
    have hi : i < its.toArray.size := by
      rw [List.size_toArray, ← rv.length]
      exact (List.getElem?_eq_some_iff.mp hx).1
    have lt : ∀ b ∈ [e, it], b < s.heap.objs.size := fun b hb => by
      rcases List.mem_cons.mp hb with rfl | hb
      · exact Heap.lt_size he
      · rw [List.mem_singleton.mp hb]
        exact let ⟨_, q, _⟩ := hit; Heap.lt_size q
    refine wpAny_pyNext_enum_itemD (Draws.tuple (prog := X.prog) (w := X.w) (A := X.A.in1) (I.ok.hd hc) it a hai its.toArray) he ⟨hit, p⟩ hi hne (by simp [hne, hea]) fun u h' tk pu ho st' hT hsz hk => ?_
    obtain ⟨u', hu, ru⟩ := rv.get hx
    have eu : u = u' := by
      have q : its[i]? = some u := by simpa using pu
      rw [hu] at q
      exact (Option.some.inj q).symm
    subst eu
    refine ⟨_, rfl, wpAny_letOwnedTupleGo_enum (s := { s with heap := h', toks := tk + 1 }) ho fun h'' he' sb => ?_⟩
    have hT2 := (sb.2 _ (Nat.ne_of_gt (lt e List.mem_cons_self))).trans hT
    have new : ObjOk X.prog X.w (upd H s.heap.objs.size (.tup [.int (i : Nat), x])) h'' s.heap.objs.size (.tup [.int (i : Nat), x]) :=
      ⟨by show 2 ≤ sizeLine; decide, [.int i tk, u], .cons ⟨_, rfl⟩ (.cons ru .nil), ⟨_, hT2, rfl, _, rfl⟩⟩
    have I1 : Inv X pins σ (upd H s.heap.objs.size (.tup [.int (i : Nat), x])) { s with heap := h'', toks := tk + 1 } :=
      I.turnedNew (ch := [e, it]) (fun b ob hb q => (sb.2 b fun z => hb (by simp [z])).trans (hk b ob (fun z => hb (by simp [z])) (fun z => hb (by simp [z])) q)) hf (Nat.le_refl _) new
    refine ⟨.ref s.heap.objs.size, _, I1, rfl, ⟨_, x, rfl, I.hok.fresh (Nat.le_refl _), rfl, fun ys hy => ?_⟩, ⟨⟨u, ?_⟩, st'.1.at fun o q => (sb.2 it (Ne.symm hne)).trans q, hne, hai, hea⟩, fun b hb => ?_⟩
    · rw [I.tuple_inj hy hq]
      exact hx
    · have e1 : ((i + 1 : Nat) : Int) = (i : Int) + 1 := by omega
      rw [e1]
      exact he'
    · rw [upd_ne (Nat.ne_of_lt (lt b hb))]
      exact (hf b hb).1
  done := by
    intro X hP hw hK hc i pins s σ H E I hf st hg
    subst hP hw hK
    obtain ⟨⟨old, he⟩, hit, hne, hai, hea⟩ := st
    obtain ⟨xs, hq, hx⟩ := hg
    obtain ⟨its, rv, p, hz⟩ := I.tuple hq
    obtain ⟨f0, f1, f2, f3, f4, f5⟩ := hf it (by simp)
    have ei : i = its.toArray.size := by rw [List.size_toArray, ← rv.length, hx]
    exact wpAny_pyNext_enum_endD (Draws.tuple (A := X.A.in1) (I.ok.hd hc) it a hai its.toArray) he (by rw [← ei]; exact ⟨hit, p⟩) fun h' eb => ⟨rfl, I.turned (t' := s.toks) (fun b o hb q => eb b o hb q) f0 f1 f3 f4 f5⟩
  self := fun A i s Q E ⟨⟨_, he⟩, _⟩ h => wpAny_pyIter_enum he h
def iEnumT (K : PySem.W.Frag) (ta : TA) : TI := fun σ H R => ta σ H fun vs H1 => ∃ a xs, vs = [.ref a] ∧ SqT K H1 a xs ∧ R (IteT K a) H1
theorem pi_enumT {X : Cx} {e : Expr} {ta : TA} {p pos tpos : Pos} {elts : List Expr} {kk : Nat} (hg : Gl X "enumerate") (hm : X.mg "enumerate" = none) (ha : PA X [e] ta) (hs : starEach [e] X.env = [(false, eval e X.env)] := by rfl) :
    PI X (.Tuple elts kk tpos) (.Call (.Name "enumerate" p) [e] [] pos) (iEnumT X.K ta) := by
  refine ⟨fun pins s σ H R I h => ?_⟩
  refine Call_ (ld_blt I hg hm boot_enumerate (PyProof.Rows.callWith_type1 (thn (ha.run pos pins s σ H _ I h) fun us s1 ⟨vs, H1, I1, r1, a, xs, ex, hq, q⟩ => ?_) hs rfl))
  subst ex
  obtain rfl := Vals.ref1 r1
  obtain ⟨its, rv, p', hz⟩ := I1.tuple hq
  have la : a < s1.heap.objs.size := let ⟨_, ho, _⟩ := p'; Heap.lt_size ho
  refine call_enumT p' fun h' he hit hk => wpAny_pyIter_enum he ?_
  have I2 : Inv X pins σ H1 { s1 with heap := h' } := I1.kept (t' := s1.toks) hk
  refine ⟨s1.heap.objs.size + 1, [s1.heap.objs.size + 1, s1.heap.objs.size], _, _, H1, rfl, I2, turn_enumT a (s1.heap.objs.size + 1) s1.heap.objs.size, ⟨⟨.none, he⟩, hit, Nat.succ_ne_self _, Nat.ne_of_lt la, Nat.ne_of_gt (Nat.lt_succ_of_lt la)⟩, fun b hb => ?_, q⟩
  have le : s1.heap.objs.size ≤ b := by
    rcases List.mem_cons.mp hb with rfl | hb
    · exact Nat.le_succ _
    · rw [List.mem_singleton.mp hb]
      exact Nat.le_refl _
  exact I1.fpOk le (I1.hok.fresh le)
end LW

set_option Elab.async false
set_option linter.all false
set_option maxRecDepth 100000
set_option maxHeartbeats 2000000
namespace K01
open PySem PySem.Spec PyProof.Rows L2 LW
def top (i : Nat) : Stmt := PySem.Challenge.pw_heardlate_k01_ways_and_rings.main.body.getD i (.Pass ⟨0, 0, 0, 0⟩)
abbrev sStream : Stmt := top 20
abbrev sDraw : Stmt := top 21
abbrev sPick : Stmt := top 22
/-- a stream of draws: three ints, whichever -/
def Stm (H : Hp) (l : Addr) : Prop := ∃ x y z : Int, H l = some (.lst [.int x, .int y, .int z])
structure TxtB (mg : Str → Option Value) : Prop where
  len : mg "len" = none
  int : mg "int" = none
  abs : mg "abs" = none
  max : mg "max" = none
/-- _law_stream(script, at): a new stream -/
def spStream (K : PySem.W.Frag) : Sp := fun vs H Q _ => ∃ (a : Addr) (ns : List Int) (i : Nat), vs = [.ref a, .int i] ∧ SqL K H a (ns.map V.int) ∧
  ∀ (p : Addr) (x y z : Int), H p = none → Q (.ref p) (upd H p (.lst [.int x, .int y, .int z]))
/-- _law_draw(stream, total): some number below total -/
def spDraw : Sp := fun vs H Q _ => ∃ (l : Addr) (n : Int), vs = [.ref l, .int n] ∧ Stm H l ∧ 0 < n ∧ n < 1000000 ∧
  ∀ (k x y z : Int), 0 ≤ k → k < n → Q (.int k) (upd H l (.lst [.int x, .int y, .int z]))
/-- _law_pick(stream, items): one of the items -/
def spPick (K : PySem.W.Frag) : Sp := fun vs H Q _ => ∃ (l b : Addr) (xs : List V), vs = [.ref l, .ref b] ∧ Stm H l ∧ b ≠ l ∧ (SqL K H b xs ∨ SqT K H b xs) ∧ 0 < xs.length ∧ xs.length < 1000000 ∧
  ∀ (v : V) (x y z : Int), v ∈ xs → Q v (upd H l (.lst [.int x, .int y, .int z]))
theorem mod_mul_ok {a b m : Int} (h : 0 < m) (h2 : m ≤ 2 ^ 63) : CMul (a % m) b := by
  have h0 := Int.emod_nonneg a (show m ≠ 0 by omega)
  have h1 := Int.emod_lt_of_pos a h
  exact .inl ⟨by omega, by omega⟩
theorem sql_upd {K : PySem.W.Frag} {H : Hp} {b l : Addr} {xs : List V} {o : HO} (h : SqL K H b xs) (n : b ≠ l) : SqL K (upd H l o) b xs := by
  rcases h with (h | ⟨u, h⟩) | h
  · exact .inl (.inl ((upd_ne n).trans h))
  · exact .inl (.inr ⟨u, (upd_ne n).trans h⟩)
  · exact .inr h
theorem sqt_upd {K : PySem.W.Frag} {H : Hp} {b l : Addr} {xs : List V} {o : HO} (h : SqT K H b xs) (n : b ≠ l) : SqT K (upd H l o) b xs := by
  rcases h with (h | ⟨u, h⟩) | h
  · exact .inl (.inl ((upd_ne n).trans h))
  · exact .inl (.inr ⟨u, (upd_ne n).trans h⟩)
  · exact .inr h
section
variable {P : Program} {w : World} {K : PySem.W.Frag} {mg : Str → Option Value} {base : Heap}
theorem scStream : FnScope ["script", "at", "cell", "great", "mixed"] ["script", "at"] (defScope sStream) := ⟨rfl, rfl, rfl, by decide +kernel, rfl, by decide +kernel, by decide +kernel⟩
theorem ok_stream {f : Addr} {fd : FuncData} (F : Fun K "_law_stream" "_law_stream" sStream f fd) (T : TxtB mg) : FnOk P w K mg base CX0 1 f fd ["script", "at"] (spStream K) := by
  refine F.ok scStream (fun vs H Q E h => ?_) (fun cdv A outer s H vs Q E hr h => ?_)
  · obtain ⟨a, ns, i, rfl, _⟩ := h
    rfl
  · obtain ⟨a, ns, i, rfl, hS, k⟩ := h
    refine ⟨_, (pss_cons (ps_set (i := 2) scStream.nd rfl (.inl rfl) (pe_op op_add (pe_op op_mul pe_int (pv 1)) pe_int))
      (pss_cons (ps_if (pt_cmpR op_lt (pv 1) (pe_callB call_len_seq (by rfl) T.len (by decide +kernel) (pa_cons (pv 0) pa_nil)) (nomark _))
        (pss_one (ps_set (i := 2) scStream.nd rfl (.inl rfl) (pe_ix ix_list (pv 0) (pv 1) (fun _ _ => rfl))))
        pss_nil)
      (pss_cons (ps_set (i := 3) scStream.nd rfl (.inl rfl) (pe_op op_mod (pe_callTy call_int1 (by rfl) T.int (by decide +kernel) (pa_cons (pe_callB call_abs (by rfl) T.abs (by decide +kernel) (pa_cons (pv 2) pa_nil)) pa_nil)) (pe_op op_powW (pe_op op_pow pe_int pe_int) pe_int)))
      (pss_cons (ps_set (i := 4) scStream.nd rfl (.inl rfl) (pe_op op_add (pe_op op_add (pe_op op_add (pe_op op_mul (pe_op op_mod (pe_callTy call_int1 (by rfl) T.int (by decide +kernel) (pa_cons (pv 3) pa_nil)) pe_int) pe_int) (pe_op op_mul pe_int (pv 1))) (pe_op op_mul pe_int (pe_callTy call_int1 (by rfl) T.int (by decide +kernel) (pa_cons (pe_cmpR op_lt (pv 2) pe_int (nomark _)) pa_nil)))) pe_int))
      (pss_one (ps_ret (pe_lst (pa_cons (pe_callB (call_max2 rfl) (by rfl) T.max (by decide +kernel) (pa_cons pe_int (pa_cons (pe_op op_sub (pv 3) (pe_op op_pow pe_int pe_int)) pa_nil))) (pa_cons (pe_op op_mod (pe_callTy call_int1 (by rfl) T.int (by decide +kernel) (pa_cons (pv 4) pa_nil)) pe_int) (pa_cons pe_int pa_nil)))))))))), ?_⟩
    refine ⟨_, rfl, _, _, rfl, rfl, .inl ⟨by decide, by decide⟩, _, _, rfl, rfl, ?_⟩
    refine ⟨_, rfl, _, rfl, a, _, rfl, .inl hS, _, _, rfl, rfl, _, rfl, ?_⟩
    refine ite2 (fun c => ?_) (fun c => ?_)
    · have hi : i < ns.length := by
        have c' := of_decide_eq_true c
        rw [List.length_map] at c'
        omega
      refine ⟨_, rfl, _, rfl, a, _, _, V.int ns[i], rfl, rfl, hS, atI_nat (by simp [hi]), ?_⟩
      refine ⟨_, rfl, _, rfl, .inl ⟨_, rfl, _, _, rfl, rfl, ⟨by decide, by decide, by decide⟩, _, _, rfl, rfl, ⟨by decide, by decide +kernel⟩, _, _, rfl, rfl, (show (0 : Int) < _ by decide +kernel), ?_⟩⟩
      refine ⟨_, rfl, .inl ⟨_, rfl, _, _, rfl, rfl, (show (0 : Int) < _ by decide), _, _, rfl, rfl, mod_mul_ok (by decide) (by decide), _, rfl, _, _, rfl, rfl, .inl ⟨by decide, by decide⟩, _, _, rfl, rfl, _, rfl, _, _, rfl, rfl, .inr ⟨_, rfl, _, _, rfl, rfl, .inl ⟨by decide, by decide⟩, _, _, rfl, rfl, _, _, rfl, rfl, ?_⟩⟩⟩
      refine ⟨_, rfl, _, _, rfl, rfl, ⟨by decide, by decide, by decide⟩, _, _, rfl, rfl, _, _, rfl, _, rfl, .inl ⟨_, rfl, _, _, rfl, rfl, (show (0 : Int) < _ by decide), (by show 3 ≤ sizeLine; decide), fun p hp => k p _ _ _ hp⟩⟩
    · refine ⟨_, rfl, _, rfl, .inl ⟨_, rfl, _, _, rfl, rfl, ⟨by decide, by decide, by decide⟩, _, _, rfl, rfl, ⟨by decide, by decide +kernel⟩, _, _, rfl, rfl, (show (0 : Int) < _ by decide +kernel), ?_⟩⟩
      refine ⟨_, rfl, .inl ⟨_, rfl, _, _, rfl, rfl, (show (0 : Int) < _ by decide), _, _, rfl, rfl, mod_mul_ok (by decide) (by decide), _, rfl, _, _, rfl, rfl, .inl ⟨by decide, by decide⟩, _, _, rfl, rfl, _, rfl, _, _, rfl, rfl, .inr ⟨_, rfl, _, _, rfl, rfl, .inl ⟨by decide, by decide⟩, _, _, rfl, rfl, _, _, rfl, rfl, ?_⟩⟩⟩
      refine ⟨_, rfl, _, _, rfl, rfl, ⟨by decide, by decide, by decide⟩, _, _, rfl, rfl, _, _, rfl, _, rfl, .inl ⟨_, rfl, _, _, rfl, rfl, (show (0 : Int) < _ by decide), (by show 3 ≤ sizeLine; decide), fun p hp => k p _ _ _ hp⟩⟩
theorem scDraw : FnScope ["stream", "total", "found", "one", "two"] ["stream", "total"] (defScope sDraw) := ⟨rfl, rfl, rfl, by decide +kernel, rfl, by decide +kernel, by decide +kernel⟩
theorem ok_draw {f : Addr} {fd : FuncData} (F : Fun K "_law_draw" "_law_draw" sDraw f fd) (T : TxtB mg) : FnOk P w K mg base CX0 1 f fd ["stream", "total"] spDraw := by
  refine F.ok scDraw (fun vs H Q E h => ?_) (fun cdv A outer s H vs Q E hr h => ?_)
  · obtain ⟨l, n, rfl, _⟩ := h
    rfl
  · obtain ⟨l, n, rfl, ⟨x, y, z, hl⟩, h1, h2, k⟩ := h
    refine ⟨_, (pss_cons (ps_if (pt_cmpR op_gt (pe_ix ix_list (pv 0) pe_int (fun _ _ => rfl)) pe_int (nomark _))
        (pss_cons (ps_set (i := 2) scDraw.nd rfl (.inl rfl) (pe_op op_mod (pe_callTy call_int1 (by rfl) T.int (by decide +kernel) (pa_cons (pe_ix ix_list (pv 0) pe_int (fun _ _ => rfl)) pa_nil)) (pv 1)))
        (pss_cons (ps_asg (pe_op op_fdiv (pe_ix ix_list (pv 0) pe_int (fun _ _ => rfl)) (pv 1)) (pg_sub (pv 0) pe_int set_list))
        (pss_one (ps_ret (pv 2)))))
        pss_nil)
      (pss_cons (ps_asg (pe_op op_add (pe_ix ix_list (pv 0) pe_int (fun _ _ => rfl)) pe_int) (pg_sub (pv 0) pe_int set_list))
      (pss_cons (ps_set (i := 3) scDraw.nd rfl (.inl rfl) (pe_op op_mod (pe_callTy call_int1 (by rfl) T.int (by decide +kernel) (pa_cons (pe_op op_add (pe_ix ix_list (pv 0) pe_int (fun _ _ => rfl)) (pe_op op_mul pe_int (pe_ix ix_list (pv 0) pe_int (fun _ _ => rfl)))) pa_nil)) pe_int))
      (pss_cons (ps_set (i := 4) scDraw.nd rfl (.inl rfl) (pe_op op_add (pe_op op_mul (pe_op op_mod (pe_callTy call_int1 (by rfl) T.int (by decide +kernel) (pa_cons (pe_op op_mul (pv 3) (pv 3)) pa_nil)) pe_int) (pv 3)) (pe_op op_mul pe_int (pe_ix ix_list (pv 0) pe_int (fun _ _ => rfl)))))
      (pss_cons (ps_set (i := 4) scDraw.nd rfl (.inl rfl) (pe_op op_mod (pe_callTy call_int1 (by rfl) T.int (by decide +kernel) (pa_cons (pv 4) pa_nil)) pe_int))
      (pss_one (ps_ret (pe_op op_mod (pe_callTy call_int1 (by rfl) T.int (by decide +kernel) (pa_cons (pe_op op_fdiv (pv 4) pe_int) pa_nil)) (pv 1))))))))), ?_⟩
    refine ⟨_, rfl, l, _, _, _, rfl, rfl, SqL.of hl, rfl, _, _, rfl, rfl, _, rfl, ?_⟩
    refine ite2 (fun c => ?_) (fun c => ?_)
    · refine ⟨_, rfl, l, _, _, _, rfl, rfl, SqL.of hl, rfl, .inl ⟨_, rfl, _, rfl, _, _, rfl, rfl, h1, ?_⟩⟩
      refine ⟨_, rfl, l, _, _, _, rfl, rfl, SqL.of hl, rfl, _, rfl, _, _, rfl, rfl, ⟨h1, by omega⟩, _, rfl, l, _, _, 0, rfl, rfl, hl, rfl, ?_⟩
      exact ⟨_, rfl, k _ _ _ _ (Int.emod_nonneg _ (by omega)) (Int.emod_lt_of_pos _ h1)⟩
    · refine ⟨_, rfl, l, _, _, _, rfl, rfl, SqL.of hl, rfl, _, _, rfl, rfl, _, rfl, l, _, _, 2, rfl, rfl, hl, rfl, ?_⟩
      refine ⟨_, rfl, l, _, _, _, rfl, rfl, SqL.of upd_same, rfl, _, rfl, l, _, _, _, rfl, rfl, SqL.of upd_same, rfl, _, _, rfl, rfl, .inl ⟨by decide, by decide⟩, _, _, rfl, rfl, .inl ⟨_, rfl, _, _, rfl, rfl, (show (0 : Int) < _ by decide), ?_⟩⟩
      refine ⟨_, rfl, _, rfl, _, _, rfl, rfl, mod_mul_ok (by decide) (by decide), .inl ⟨_, rfl, _, _, rfl, rfl, (show (0 : Int) < _ by decide), _, rfl, _, _, rfl, rfl, mod_mul_ok (by decide) (by decide), _, rfl, l, _, _, _, rfl, rfl, SqL.of upd_same, rfl, _, _, rfl, rfl, .inl ⟨by decide, by decide⟩, _, _, rfl, rfl, ?_⟩⟩
      refine ⟨_, rfl, .inl ⟨_, rfl, _, _, rfl, rfl, (show (0 : Int) < _ by decide), ?_⟩⟩
      exact ⟨_, rfl, _, _, rfl, rfl, ⟨by decide, by decide⟩, .inl ⟨_, rfl, _, rfl, _, _, rfl, rfl, h1, k _ _ _ _ (Int.emod_nonneg _ (by omega)) (Int.emod_lt_of_pos _ h1)⟩⟩
structure TxtD (K : PySem.W.Frag) (mg : Str → Option Value) (fD : Addr) (fdD : FuncData) : Prop where
  gD : mg "_law_draw" = some (.ref fD)
  kD : PySem.W.keepIn K (.ref fD) = true
  bD : Binds K fdD ["stream", "total"] []
theorem scPick : FnScope ["stream", "items"] ["stream", "items"] (defScope sPick) := ⟨rfl, rfl, rfl, by decide +kernel, rfl, by decide +kernel, by decide +kernel⟩
theorem ok_pick {f fD : Addr} {fd fdD : FuncData} (F : Fun K "_law_pick" "_law_pick" sPick f fd) (B : TxtB mg) (GD : FnOk P w K mg base CX0 1 fD fdD ["stream", "total"] spDraw) (T : TxtD K mg fD fdD) : FnOk P w K mg base CX0 2 f fd ["stream", "items"] (spPick K) := by
  refine F.ok scPick (fun vs H Q E h => ?_) (fun cdv A outer s H vs Q E hr h => ?_)
  · obtain ⟨l, b, xs, rfl, _⟩ := h
    rfl
  · obtain ⟨l, b, xs, rfl, st, nb, hS, h1, h2, k⟩ := h
    refine ⟨_, (pss_one (ps_ret (pe_ix ix_seq (pv 1) (pe_call GD hr rfl T.gD T.kD T.bD .nil pass0 (pa_cons (pv 0) (pa_cons (pe_callB call_len_seq (by rfl) B.len (by decide +kernel) (pa_cons (pv 1) pa_nil)) pa_nil))) (fun _ _ => rfl)))), ?_⟩
    refine ⟨_, rfl, _, rfl, _, rfl, b, xs, rfl, hS, l, _, rfl, st, by omega, by omega, fun i x y z g1 g2 => ?_⟩
    obtain ⟨j, rfl⟩ := Int.eq_ofNat_of_zero_le g1
    have hj : j < xs.length := by omega
    have e : xs[j]? = some xs[j] := List.getElem?_eq_getElem hj
    rcases hS with hS | hS
    · exact .inl ⟨b, xs, _, xs[j], rfl, rfl, sql_upd hS nb, atI_nat e, k _ _ _ _ (List.getElem_mem hj)⟩
    · exact .inr (.inl ⟨b, xs, _, xs[j], rfl, rfl, sqt_upd hS nb, atI_nat e, k _ _ _ _ (List.getElem_mem hj)⟩)
end
end K01

set_option Elab.async false
set_option linter.all false
set_option maxRecDepth 100000
set_option maxHeartbeats 2000000
namespace K01
open PySem PySem.Spec PyProof.Rows L2 LW
abbrev sIsInteger : Stmt := top 1
abbrev sIsBetween : Stmt := top 2
abbrev sIsName : Stmt := top 4
structure TxtC (mg : Str → Option Value) : Prop where
  isinstance : mg "isinstance" = none
  int : mg "int" = none
  bool : mg "bool" = none
  str : mg "str" = none
  tuple : mg "tuple" = none
  all : mg "all" = none
  len : mg "len" = none
/-- a def that tells something of one datum -/
def spD (K : PySem.W.Frag) (ok : PyData → Bool) (f : PyData → Bool) : Sp := fun vs H Q _ => ∃ v d, vs = [v] ∧ DpX K H v d ∧ ok d = true ∧ ∀ H', Same H H' → Q (.bl (f d)) H'
def btw (lo hi : Int) : PyData → Bool
  | .int i => decide (lo ≤ i) && decide (i ≤ hi)
  | _ => false
def shortS : PyData → Bool
  | .str s => decide (s.length ≤ 100)
  | _ => true
def signOk (c : Nat) : Bool := decide (97 ≤ c) && decide (c ≤ 122)
def nameB : PyData → Bool
  | .str s => decide (1 ≤ s.length) && decide (s.length ≤ 8) && s.cps.toList.all signOk
  | _ => false
def spBtw (K : PySem.W.Frag) : Sp := fun vs H Q _ => ∃ v d lo hi, vs = [v, .int lo, .int hi] ∧ DpX K H v d ∧ ∀ H', Same H H' → Q (.bl (btw lo hi d)) H'
theorem sign_lt (a b : Nat) : decide ([a] < [b]) = decide (a < b) := by
  by_cases h : a < b
  · rw [decide_eq_true h]
    exact decide_eq_true (List.cons_lt_cons_iff.mpr (.inl h))
  · rw [decide_eq_false h]
    refine decide_eq_false fun z => ?_
    rcases List.cons_lt_cons_iff.mp z with z | ⟨_, z⟩
    · exact h z
    · exact absurd z (by simp)
theorem range_signs {β : Type} (a : Array Nat) (g : Nat → β) : ((List.range a.size).map fun i => g (a.getD i 0)) = a.toList.map g := by
  apply List.ext_getElem
  · simp
  · intro i h1 h2
    have hi : i < a.size := by simpa using h1
    simp [hi, Array.getD]
section
variable {P : Program} {w : World} {K : PySem.W.Frag} {mg : Str → Option Value} {base : Heap}
theorem scInt : FnScope ["value"] ["value"] (defScope sIsInteger) := ⟨rfl, rfl, rfl, by decide +kernel, rfl, by decide +kernel, by decide +kernel⟩
theorem ok_isInteger {f : Addr} {fd : FuncData} (F : Fun K "is_integer" "is_integer" sIsInteger f fd) (T : TxtC mg) : FnOk P w K mg base CX0 1 f fd ["value"] (spD K (fun _ => true) isInt) := by
  refine F.ok scInt (fun vs H Q E h => ?_) (fun cdv A outer s H vs Q E hr h => ?_)
  · obtain ⟨v, d, rfl, _⟩ := h
    rfl
  · obtain ⟨v, d, rfl, D, _, k⟩ := h
    refine ⟨_, (pss_one (ps_ret (pe_and (pe_callB call_isi (by rfl) T.isinstance (by decide +kernel) (pa_cons (pv 0) (pa_cons (pe_bltn (v := .ty "int") (by rfl) T.int (by decide +kernel) rfl) pa_nil))) (pe_one (pe_not (pe_callB call_isi (by rfl) T.isinstance (by decide +kernel) (pa_cons (pv 0) (pa_cons (pe_bltn (v := .ty "bool") (by rfl) T.bool (by decide +kernel) rfl) pa_nil)))))))), ?_⟩
    have k := k H (Same.refl H)
    refine ⟨_, rfl, _, _, _, _, _, rfl, .ty _, D.ty, kit_ty (kit_int d), _, rfl, ?_⟩
    have r : ∀ b, isBl d = b → Q (.bl (!b)) H → tNotV (tCB (rIsi K) (tCons (tVar 0) (tCons (tC (V.ty "bool")) tNil))) (L2.start ["value"] [v]) H Q := fun b e q => ⟨_, rfl, _, _, _, _, _, rfl, .ty _, D.ty, kit_ty (kit_bool d), _, rfl, by rw [e]; exact q⟩
    cases d with
    | bool b => exact r true rfl k
    | int i => exact r false rfl k
    | _ => exact k
structure TxtI (K : PySem.W.Frag) (mg : Str → Option Value) (fI : Addr) (fdI : FuncData) : Prop where
  gI : mg "is_integer" = some (.ref fI)
  kI : PySem.W.keepIn K (.ref fI) = true
  bI : Binds K fdI ["value"] []
theorem scBtw : FnScope ["value", "least", "most"] ["value", "least", "most"] (defScope sIsBetween) := ⟨rfl, rfl, rfl, by decide +kernel, rfl, by decide +kernel, by decide +kernel⟩
theorem ok_isBetween {f fI : Addr} {fd fdI : FuncData} (F : Fun K "is_between" "is_between" sIsBetween f fd) (GI : FnOk P w K mg base CX0 1 fI fdI ["value"] (spD K (fun _ => true) isInt)) (I : TxtI K mg fI fdI) :
    FnOk P w K mg base CX0 2 f fd ["value", "least", "most"] (spBtw K) := by
  refine F.ok scBtw (fun vs H Q E h => ?_) (fun cdv A outer s H vs Q E hr h => ?_)
  · obtain ⟨v, d, lo, hi, rfl, _⟩ := h
    rfl
  · obtain ⟨v, d, lo, hi, rfl, D, k⟩ := h
    refine ⟨_, (pss_one (ps_ret (pe_and (pe_call GI hr rfl I.gI I.kI I.bI .nil pass0 (pa_cons (pv 0) pa_nil)) (pe_one (pe_chain op_le op_le (pv 1) (pv 0) (pv 2)))))), ?_⟩
    refine ⟨_, rfl, _, d, rfl, D, rfl, fun H' s' => ⟨_, rfl, ?_⟩⟩
    have k := k H' s'
    cases D with
    | int i => 
      refine ⟨_, rfl, _, rfl, _, _, rfl, rfl, _, rfl, ?_⟩
      by_cases c : lo ≤ i
      · have e : btw lo hi (.int i) = decide (i ≤ hi) := by
          show (decide (lo ≤ i) && _) = _
          rw [decide_eq_true c]
          rfl
        rw [e] at k
        rw [decide_eq_true c]
        exact ⟨_, rfl, _, _, rfl, rfl, k⟩
      · have e : btw lo hi (.int i) = false := by
          show (decide (lo ≤ i) && _) = _
          rw [decide_eq_false c]
          rfl
        rw [e] at k
        rw [decide_eq_false c]
        exact k
    | _ => exact k
theorem scName : FnScope ["value", "sign"] ["value"] (defScope sIsName) := ⟨rfl, rfl, rfl, by decide +kernel, rfl, by decide +kernel, by decide +kernel⟩
theorem ok_isName {f : Addr} {fd : FuncData} (F : Fun K "is_name" "is_name" sIsName f fd) (T : TxtC mg) : FnOk P w K mg base CX0 1 f fd ["value"] (spD K shortS nameB) := by
  refine F.ok scName (fun vs H Q E h => ?_) (fun cdv A outer s H vs Q E hr h => ?_)
  · obtain ⟨v, d, rfl, _⟩ := h
    rfl
  · obtain ⟨v, d, rfl, D, short, k⟩ := h
    refine ⟨_, (pss_cons (ps_if (PW.pt (pw_or (pt_not (pt_val (pe_callB call_isi (by rfl) T.isinstance (by decide +kernel) (pa_cons (pv 0) (pa_cons (pe_bltn (v := .ty "str") (by rfl) T.str (by decide +kernel) rfl) pa_nil))))) (pw_or1 (pt_not (pt_chain op_le op_le pe_int (pe_callB call_len_str (by rfl) T.len (by decide +kernel) (pa_cons (pv 0) pa_nil)) pe_int)))))
        (pss_one (ps_ret pe_bl))
        pss_nil)
      (pss_one (ps_ret (pe_callB (cr_all rfl) (by rfl) T.all (by decide +kernel) (pa_cons (pe_lc (own := [("sign", 1)]) (g := gName 1) (tt := tYes) (by rfl) scName.nd (pi_str (pv 0)) (blkOk_by (own := [("sign", 1)]) (N := ["value", "sign"]) (sc := defScope sIsName) (by decide +kernel)) (fun _ _ _ _ _ => (pg_name (i := 1) scName.nd rfl (.inl rfl))) (fun _ _ _ _ _ => pts_nil) (fun _ _ _ _ _ => (pe_chain op_le_str op_le_str pe_str (pv 1) pe_str))) pa_nil))))), ?_⟩
    refine ⟨_, rfl, _, _, _, _, _, rfl, .ty _, D.ty, kit_ty (kit_str d), _, rfl, ?_⟩
    cases D with
    | str x =>
      have hx : x.length ≤ 100 := of_decide_eq_true short
      have hs : x.length ≤ sizeLine := Nat.le_trans hx (by decide)
      refine ⟨_, rfl, _, rfl, hs, _, _, rfl, rfl, _, rfl, ?_⟩
      have no : nameB (.str x) = false → Q (.bl false) H := fun e => by
        have q := k H (Same.refl H)
        rwa [e] at q
      refine ite2 (fun c1 => ?_) (fun c1 => ?_)
      · have h1 : 1 ≤ x.length := by
          have z := of_decide_eq_true c1
          omega
        refine ⟨_, _, rfl, rfl, _, rfl, ite2 (fun c2 => no ?_) (fun c2 => ?_)⟩
        · have z : ¬ ((x.length : Int) ≤ 8) := fun z => by
            rw [decide_eq_true z] at c2
            cases c2
          show (decide (1 ≤ x.length) && decide (x.length ≤ 8) && _) = false
          rw [decide_eq_false (show ¬ x.length ≤ 8 by omega), Bool.and_false, Bool.false_and]
        · have h8 : x.length ≤ 8 := by
            by_cases z : (x.length : Int) ≤ 8
            · omega
            · exact absurd (by rw [decide_eq_false z]; rfl) c2
          refine ⟨_, rfl, _, rfl, fun D hD => lc_pure walk_str (fun i => .bl (signOk (x.cps.getD i 0))) ?_ hD (fun _ _ => trivial) (fun i v H1 H2 C hi s1 ⟨e, c, hc, ev⟩ q => ?_) fun H1 s1 hL => ?_⟩
          · exact Nat.le_trans h8 (by decide)
          · subst e ev
            have q := q H2 (Same.refl H2)
            have ec : x.cps.getD i 0 = c := by rw [Array.getD_eq_getD_getElem?, hc]; rfl
            rw [ec] at q
            refine ⟨rfl, _, rfl, _, _, rfl, rfl, _, rfl, ?_⟩
            have e1 : (!decide ([c] < [97])) = decide (97 ≤ c) := by
              rw [sign_lt]
              by_cases z : c < 97
              · rw [decide_eq_true z, decide_eq_false (by omega)]; rfl
              · rw [decide_eq_false z, decide_eq_true (by omega)]; rfl
            have e2 : (!decide ([122] < [c])) = decide (c ≤ 122) := by
              rw [sign_lt]
              by_cases z : 122 < c
              · rw [decide_eq_true z, decide_eq_false (by omega)]; rfl
              · rw [decide_eq_false z, decide_eq_true (by omega)]; rfl
            show if (!decide ([c] < [97])) = true then _ else _
            rw [e1]
            refine ite2 (fun z => ?_) (fun z => ?_)
            · have z2 : signOk c = (!decide ([122] < [c])) := by rw [e2]; show (decide (97 ≤ c) && _) = _; rw [z]; rfl
              rw [z2] at q
              exact ⟨_, _, rfl, rfl, q⟩
            · have z2 : signOk c = false := by show (decide (97 ≤ c) && _) = _; rw [show decide (97 ≤ c) = false from by simpa using z]; rfl
              rw [z2] at q
              exact q
          · refine ⟨_, x.cps.toList.map signOk, rfl, SqL.of (hL.trans ?_), ?_⟩
            · rw [List.map_map]
              exact congrArg (fun l => some (HO.lst l)) (range_signs x.cps fun c => V.bl (signOk c))
            · have e : nameB (.str x) = (x.cps.toList.map signOk).all id := by
                show (decide (1 ≤ x.length) && decide (x.length ≤ 8) && x.cps.toList.all signOk) = _
                rw [decide_eq_true h1, decide_eq_true h8, List.all_map]
                rfl
              rw [← e]
              exact k H1 s1
      · refine ⟨_, rfl, no ?_⟩
        show (decide (1 ≤ x.length) && decide (x.length ≤ 8) && _) = false
        rw [show decide (1 ≤ x.length) = false from decide_eq_false fun z => c1 (decide_eq_true (by omega)), Bool.false_and, Bool.false_and]
    | _ => exact k H (Same.refl H)
end
end K01

set_option Elab.async false
set_option linter.all false
set_option maxRecDepth 100000
set_option maxHeartbeats 2000000
namespace K01
open PySem PySem.Spec PyProof.Rows L2 LW
abbrev sIsArcs : Stmt := top 11
abbrev sIsArc : Stmt := top 14
abbrev sCheckArcs : Stmt := top 15
def shortA : PyData → Bool
  | .tuple ds => ds.all shortS
  | _ => true
def shortAs : PyData → Bool
  | .tuple ds => ds.all shortA
  | _ => true
def arcB : PyData → Bool
  | .tuple [x, y, z] => nameB x && nameB y && isInt z
  | _ => false
def arcsB : PyData → Bool
  | .tuple ds => decide (ds.length ≤ 400) && ds.all arcB
  | _ => false
theorem DpXAll.get {K : PySem.W.Frag} {H : Hp} : ∀ {xs : List V} {ds : List PyData}, DpXAll K H xs ds → ∀ {i : Nat} {d : PyData}, ds[i]? = some d → ∃ v, xs[i]? = some v ∧ DpX K H v d
  | _, _, .nil, i, d, e => by cases e
  | _, _, .cons h t, 0, d, e => ⟨_, rfl, by rw [← Option.some.inj e]; exact h⟩
  | _, _, .cons h t, i + 1, d, e => DpXAll.get t e
theorem range_items {α β : Type} (l : List α) (g : α → β) (z : α) : ((List.range l.length).map fun i => g (l.getD i z)) = l.map g := by
  apply List.ext_getElem
  · simp
  · intro i h1 h2
    have hi : i < l.length := by simpa using h1
    simp [hi]
structure TxtN (K : PySem.W.Frag) (mg : Str → Option Value) (fN : Addr) (fdN : FuncData) : Prop where
  gN : mg "is_name" = some (.ref fN)
  kN : PySem.W.keepIn K (.ref fN) = true
  bN : Binds K fdN ["value"] []
section
variable {P : Program} {w : World} {K : PySem.W.Frag} {mg : Str → Option Value} {base : Heap}
theorem scArc : FnScope ["value"] ["value"] (defScope sIsArc) := ⟨rfl, rfl, rfl, by decide +kernel, rfl, by decide +kernel, by decide +kernel⟩
theorem ok_isArc {f fI fN : Addr} {fd fdI fdN : FuncData} (F : Fun K "_is_arc" "_is_arc" sIsArc f fd) (T : TxtC mg) (GI : FnOk P w K mg base CX0 1 fI fdI ["value"] (spD K (fun _ => true) isInt)) (I : TxtI K mg fI fdI)
    (GN : FnOk P w K mg base CX0 1 fN fdN ["value"] (spD K shortS nameB)) (N : TxtN K mg fN fdN) : FnOk P w K mg base CX0 2 f fd ["value"] (spD K shortA arcB) := by
  refine F.ok scArc (fun vs H Q E h => ?_) (fun cdv A outer s H vs Q E hr h => ?_)
  · obtain ⟨v, d, rfl, _⟩ := h
    rfl
  · obtain ⟨v, d, rfl, D, short, k⟩ := h
    refine ⟨_, (pss_cons (ps_if (PW.pt (pw_or (pt_not (pt_val (pe_callB call_isi (by rfl) T.isinstance (by decide +kernel) (pa_cons (pv 0) (pa_cons (pe_bltn (v := .ty "tuple") (by rfl) T.tuple (by decide +kernel) rfl) pa_nil))))) (pw_or1 (pt_cmpR op_ne (pe_callB call_len_seq (by rfl) T.len (by decide +kernel) (pa_cons (pv 0) pa_nil)) pe_int (nomark _)))))
        (pss_one (ps_ret pe_bl))
        pss_nil)
      (pss_one (ps_ret (pe_and (pe_call GN hr rfl N.gN N.kN N.bN .nil pass0 (pa_cons (pe_ix ix_tup (pv 0) pe_int (fun _ _ => rfl)) pa_nil)) (pe_and (pe_call GN hr rfl N.gN N.kN N.bN .nil pass0 (pa_cons (pe_ix ix_tup (pv 0) pe_int (fun _ _ => rfl)) pa_nil)) (pe_one (pe_call GI hr rfl I.gI I.kI I.bI .nil pass0 (pa_cons (pe_ix ix_tup (pv 0) pe_int (fun _ _ => rfl)) pa_nil)))))))), ?_⟩
    refine ⟨_, rfl, _, _, _, _, _, rfl, .ty _, D.ty, kit_ty (kit_tuple d), _, rfl, ?_⟩
    cases D with
    | @tup a xs ds hT hA =>
      have hl := hA.len
      refine ⟨_, rfl, a, xs, rfl, .inr hT, rfl, _, rfl, ?_⟩
      have no : arcB (.tuple ds) = false → Q (.bl false) H := fun e => by
        have q := k H (Same.refl H)
        rwa [e] at q
      by_cases c : ds.length = 3
      · obtain ⟨dx, dy, dz, rfl⟩ : ∃ x y z, ds = [x, y, z] := by
          match ds, c with
          | [x, y, z], _ => exact ⟨x, y, z, rfl⟩
        refine ifF (by rw [hl]; rfl) ?_
        obtain ⟨s1, s2⟩ : shortS dx = true ∧ shortS dy = true := by
          have z := short
          simp only [shortA, List.all_cons, Bool.and_eq_true] at z
          exact ⟨z.1, z.2.1⟩
        obtain ⟨v0, e0, D0⟩ := DpXAll.get hA (i := 0) rfl
        obtain ⟨v1, e1, D1⟩ := DpXAll.get hA (i := 1) rfl
        obtain ⟨v2, e2, D2⟩ := DpXAll.get hA (i := 2) rfl
        refine ⟨_, rfl, a, xs, _, v0, rfl, rfl, hT, atI_nat e0, v0, dx, rfl, D0, s1, fun H1 t1 => ⟨_, rfl, ?_⟩⟩
        have eb : arcB (.tuple [dx, dy, dz]) = (nameB dx && nameB dy && isInt dz) := rfl
        rw [eb] at k
        cases n0 : nameB dx with
        | false => rw [n0] at k; exact k H1 t1
        | true =>
          rw [n0] at k
          refine ⟨_, rfl, a, xs, _, v1, rfl, rfl, sameT t1 hT, atI_nat e1, v1, dy, rfl, DpX.same t1 D1, s2, fun H2 t2 => ⟨_, rfl, ?_⟩⟩
          have t2 := t1.trans t2
          cases n1 : nameB dy with
          | false => rw [n1] at k; exact k H2 t2
          | true =>
            rw [n1] at k
            exact ⟨_, rfl, a, xs, _, v2, rfl, rfl, sameT t2 hT, atI_nat e2, v2, dz, rfl, DpX.same t2 D2, rfl, fun H3 t3 => k H3 (t2.trans t3)⟩
      · refine ifT (by
          rw [hl, decide_eq_false (fun z => c (by have z := V.int.inj z; omega))]
          rfl) (no ?_)
        match ds, c with
        | [], _ => rfl
        | [_], _ => rfl
        | [_, _], _ => rfl
        | [_, _, _], c => exact absurd rfl c
        | _ :: _ :: _ :: _ :: _, _ => rfl
    | _ => exact k H (Same.refl H)
structure TxtR (K : PySem.W.Frag) (mg : Str → Option Value) (fR : Addr) (fdR : FuncData) (tM : Tok) : Prop where
  gR : mg "_is_arc" = some (.ref fR)
  kR : PySem.W.keepIn K (.ref fR) = true
  bR : Binds K fdR ["value"] []
  gM : mg "MAX_ARCS" = some (.int 400 tM)
theorem scArcs : FnScope ["value", "arc"] ["value"] (defScope sIsArcs) := ⟨rfl, rfl, rfl, by decide +kernel, rfl, by decide +kernel, by decide +kernel⟩
theorem ok_isArcs {f fR : Addr} {fd fdR : FuncData} {tM : Tok} (F : Fun K "is_arcs" "is_arcs" sIsArcs f fd) (T : TxtC mg) (GR : FnOk P w K mg base CX0 2 fR fdR ["value"] (spD K shortA arcB)) (R : TxtR K mg fR fdR tM) :
    FnOk P w K mg base CX0 3 f fd ["value"] (spD K shortAs arcsB) := by
  refine F.ok scArcs (fun vs H Q E h => ?_) (fun cdv A outer s H vs Q E hr h => ?_)
  · obtain ⟨v, d, rfl, _⟩ := h
    rfl
  · obtain ⟨v, d, rfl, D, short, k⟩ := h
    refine ⟨_, (pss_cons (ps_if (PW.pt (pw_or (pt_not (pt_val (pe_callB call_isi (by rfl) T.isinstance (by decide +kernel) (pa_cons (pv 0) (pa_cons (pe_bltn (v := .ty "tuple") (by rfl) T.tuple (by decide +kernel) rfl) pa_nil))))) (pw_or1 (pt_cmpR op_gt (pe_callB call_len_seq (by rfl) T.len (by decide +kernel) (pa_cons (pv 0) pa_nil)) (pe_glob (v := .int 400) rfl R.gM ⟨_, rfl⟩) (nomark _)))))
        (pss_one (ps_ret pe_bl))
        pss_nil)
      (pss_one (ps_ret (pe_callB (cr_all rfl) (by rfl) T.all (by decide +kernel) (pa_cons (pe_lc (own := [("arc", 1)]) (g := gName 1) (tt := tYes) (by rfl) scArcs.nd (pi_tup (pv 0)) (blkOk_by (own := [("arc", 1)]) (N := ["value", "arc"]) (sc := defScope sIsArcs) (by decide +kernel)) (fun _ _ _ _ _ => (pg_name (i := 1) scArcs.nd rfl (.inl rfl))) (fun _ _ _ _ _ => pts_nil) (fun _ _ _ _ _ => (pe_call GR hr rfl R.gR R.kR R.bR .nil pass0 (pa_cons (pv 1) pa_nil)))) pa_nil))))), ?_⟩
    refine ⟨_, rfl, _, _, _, _, _, rfl, .ty _, D.ty, kit_ty (kit_tuple d), _, rfl, ?_⟩
    cases D with
    | @tup a xs ds hT hA =>
      have hl := hA.len
      refine ⟨_, rfl, a, xs, rfl, .inr hT, _, _, rfl, rfl, _, rfl, ite2 (fun c => ?_) (fun c => ?_)⟩
      · have q := k H (Same.refl H)
        have e : arcsB (.tuple ds) = false := by
          have z := of_decide_eq_true c
          rw [hl] at z
          show (decide (ds.length ≤ 400) && _) = false
          rw [decide_eq_false (by omega), Bool.false_and]
        rw [e] at q
        exact q
      · have h4 : ds.length ≤ 400 := by
          by_cases z : ds.length ≤ 400
          · exact z
          · exact absurd (decide_eq_true (by rw [hl]; omega)) c
        have hz : xs.length ≤ sizeLine := by rw [hl]; exact Nat.le_trans h4 (by decide)
        have all : ds.all shortA = true := short
        refine ⟨_, rfl, a, rfl, ⟨xs, hT⟩, fun B hB => lc_pure (walk_tup (xs := xs)) (fun i => .bl (arcB (ds.getD i .none))) hz hB (fun H1 s1 => sameT s1 hT) (fun i v H1 H2 C hi s1 ⟨e, ev⟩ q => ?_) fun H1 s1 hL => ?_⟩
        · subst e
          have hid : i < ds.length := by rw [← hl]; exact hi
          have ed : ds[i]? = some ds[i] := List.getElem?_eq_getElem hid
          obtain ⟨v', ev', Dv⟩ := DpXAll.get hA ed
          obtain rfl : v = v' := Option.some.inj (ev.symm.trans ev')
          rw [List.getD_eq_getElem?_getD, ed] at q
          exact ⟨rfl, _, rfl, v, ds[i], rfl, DpX.same s1 Dv, List.all_eq_true.mp all _ (List.getElem_mem hid), q⟩
        · have e : ((List.range xs.length).map fun i => V.bl (arcB (ds.getD i .none))) = (ds.map arcB).map V.bl := by
            rw [hl, List.map_map]
            exact range_items ds (fun d => V.bl (arcB d)) .none
          rw [e] at hL
          refine ⟨B, ds.map arcB, rfl, SqL.of hL, ?_⟩
          have eb : arcsB (.tuple ds) = (ds.map arcB).all id := by
            show (decide (ds.length ≤ 400) && ds.all arcB) = _
            rw [decide_eq_true h4, List.all_map]
            rfl
          rw [← eb]
          exact k H1 s1
    | _ => exact k H (Same.refl H)
structure TxtA (K : PySem.W.Frag) (mg : Str → Option Value) (fA : Addr) (fdA : FuncData) : Prop where
  gA : mg "is_arcs" = some (.ref fA)
  kA : PySem.W.keepIn K (.ref fA) = true
  bA : Binds K fdA ["value"] []
/-- _check_arcs(arcs), of arcs -/
def spCheck (K : PySem.W.Frag) : Sp := fun vs H Q _ => ∃ v d, vs = [v] ∧ DpX K H v d ∧ shortAs d = true ∧ arcsB d = true ∧ ∀ H', Same H H' → Q .non H'
theorem scCheck : FnScope ["arcs"] ["arcs"] (defScope sCheckArcs) := ⟨rfl, rfl, rfl, by decide +kernel, rfl, by decide +kernel, by decide +kernel⟩
theorem ok_checkArcs {f fA : Addr} {fd fdA : FuncData} (F : Fun K "_check_arcs" "_check_arcs" sCheckArcs f fd) (GA : FnOk P w K mg base CX0 3 fA fdA ["value"] (spD K shortAs arcsB)) (A1 : TxtA K mg fA fdA) :
    FnOk P w K mg base CX0 4 f fd ["arcs"] (spCheck K) := by
  refine F.ok scCheck (fun vs H Q E h => ?_) (fun cdv A outer s H vs Q E hr h => ?_)
  · obtain ⟨v, d, rfl, _⟩ := h
    rfl
  · obtain ⟨v, d, rfl, D, short, good, k⟩ := h
    refine ⟨_, (pss_one (ps_if (pt_not (pt_val (pe_call GA hr rfl A1.gA A1.kA A1.bA .nil pass0 (pa_cons (pv 0) pa_nil))))
        (pss_one ps_never)
        pss_nil)), ?_⟩
    refine ⟨_, rfl, v, d, rfl, D, short, fun H1 s1 => ⟨_, rfl, ?_⟩⟩
    rw [good]
    exact k H1 s1
end
end K01

set_option Elab.async false
set_option linter.all false
set_option maxRecDepth 100000
set_option maxHeartbeats 2000000
namespace K01
open PySem PySem.Spec PyProof.Rows L2 LW
open LS (TxO ins insAll sortT insAll_app insAll_len mem_insAll mem_sortT)
abbrev sNamesOf : Stmt := top 17
abbrev sCheckName : Stmt := top 16
/-- an arc, as data -/
abbrev Arc := Str × Str × Int
def arcD (r : Arc) : PyData := .tuple [.str r.1, .str r.2.1, .int r.2.2]
def arcsD (as : List Arc) : PyData := .tuple (as.map arcD)
def namesL (as : List Arc) : List Str := as.flatMap fun r => [r.1, r.2.1]
/-- the names of arcs, ascending -/
def namesOf (as : List Arc) : List Str := sortT (insAll (namesL as) [])
theorem mem_namesOf {as : List Arc} {x : Str} : x ∈ namesOf as ↔ x ∈ namesL as := by
  unfold namesOf
  rw [mem_sortT, mem_insAll]
  exact ⟨fun h => h.elim id (fun z => by cases z), Or.inl⟩
theorem namesL_len (as : List Arc) : (namesL as).length = 2 * as.length := by
  induction as with
  | nil => rfl
  | cons r as ih =>
    show (r.1 :: r.2.1 :: namesL as).length = _
    rw [List.length_cons, List.length_cons, List.length_cons, ih]
    omega
theorem namesL_take {as : List Arc} {i : Nat} (h : i < as.length) : namesL (as.take (i + 1)) = namesL (as.take i) ++ [as[i].1, as[i].2.1] := by
  rw [List.take_add_one, List.getElem?_eq_getElem h]
  show (as.take i ++ [as[i]]).flatMap _ = _
  rw [List.flatMap_append]
  rfl
theorem arc_open {K : PySem.W.Frag} {H : Hp} {v : V} {r : Arc} (D : DpX K H v (arcD r)) : ∃ a, v = .ref a ∧ SqT K H a [.str r.1, .str r.2.1, .int r.2.2] := by
  cases D with
  | @tup a xs ds hT hA =>
    cases hA with
    | cons h1 t1 =>
      cases t1 with
      | cons h2 t2 =>
        cases t2 with
        | cons h3 t3 =>
          cases t3
          cases h1
          cases h2
          cases h3
          exact ⟨a, rfl, hT⟩
/-- arcs in the heap -/
def ArcsAt (K : PySem.W.Frag) (H : Hp) (a : Addr) (as : List Arc) : Prop := ∃ xs, SqT K H a xs ∧ DpXAll K H xs (as.map arcD)
theorem ArcsAt.get {K : PySem.W.Frag} {H : Hp} {xs : List V} {as : List Arc} (h : DpXAll K H xs (as.map arcD)) {i : Nat} (hi : i < as.length) : ∃ a, xs[i]? = some (.ref a) ∧ SqT K H a [.str as[i].1, .str as[i].2.1, .int as[i].2.2] := by
  obtain ⟨v, e, D⟩ := DpXAll.get h (i := i) (d := arcD as[i]) (by rw [List.getElem?_map, List.getElem?_eq_getElem hi]; rfl)
  obtain ⟨a, rfl, T⟩ := arc_open D
  exact ⟨a, e, T⟩
theorem ArcsAt.same {K : PySem.W.Frag} {H H' : Hp} {a : Addr} {as : List Arc} (h : ArcsAt K H a as) (s : Same H H') : ArcsAt K H' a as :=
  let ⟨xs, T, D⟩ := h; ⟨xs, sameT s T, DpXAll.same s D⟩
theorem ArcsAt.dp {K : PySem.W.Frag} {H : Hp} {a : Addr} {as : List Arc} (h : ArcsAt K H a as) : DpX K H (.ref a) (arcsD as) := let ⟨_, T, D⟩ := h; .tup T D
structure TxtS (mg : Str → Option Value) : Prop where
  sorted : mg "sorted" = none
/-- _names_of(arcs): a new list -/
def spNames (K : PySem.W.Frag) : Sp := fun vs H Q _ => ∃ a as, vs = [.ref a] ∧ ArcsAt K H a as ∧ as.length ≤ 500 ∧ ∀ p H', Same H H' → H p = none → H' p = some (.lst ((namesOf as).map V.str)) → Q (.ref p) H'
section
variable {P : Program} {w : World} {K : PySem.W.Frag} {mg : Str → Option Value} {base : Heap}
theorem scNames : FnScope ["arcs", "arc", "name"] ["arcs"] (defScope sNamesOf) := ⟨rfl, rfl, rfl, by decide +kernel, rfl, by decide +kernel, by decide +kernel⟩
theorem ok_namesOf {f : Addr} {fd : FuncData} (F : Fun K "_names_of" "_names_of" sNamesOf f fd) (T : TxtS mg) : FnOk P w K mg base CX0 1 f fd ["arcs"] (spNames K) := by
  refine F.ok scNames (fun vs H Q E h => ?_) (fun cdv A outer s H vs Q E hr h => ?_)
  · obtain ⟨a, as, rfl, _⟩ := h
    rfl
  · obtain ⟨a, as, rfl, ⟨xs, hT, hA⟩, few, k⟩ := h
    refine ⟨_, (pss_one (ps_ret (pe_callB (LS.cr_sortT rfl (by have z := hr.units; exact Nat.lt_of_le_of_lt (Nat.add_le_add_left (by decide) _) z)) (by rfl) T.sorted (by decide +kernel) (pa_cons (LS.pe_sc2 (own := [("arc", 1), ("name", 2)]) (vs1 := [2]) (wi1 := iTup K (tSl (rSlA K) (tVar 1) tNoPart (tPart (tC (.int 2))))) (by rfl) scNames.nd (pi_tup (pv 0)) (blkOk_by (own := [("arc", 1), ("name", 2)]) (N := ["arcs", "arc", "name"]) (sc := defScope sNamesOf) (by decide +kernel)) (by decide) (fun _ _ _ _ _ => (pg_name (i := 1) scNames.nd rfl (.inl rfl))) (fun _ _ _ _ _ => (pv 2)) (fun _ _ _ _ _ => (pi_tup (pe_slice sl_tupA (pv 1) po_none (po_some pe_int)))) (fun _ _ _ _ _ => (pg_name (i := 2) scNames.nd rfl (.inl rfl)))) pa_nil)))), ?_⟩
    have hl : xs.length = as.length := by rw [hA.len, List.length_map]
    refine ⟨_, rfl, a, rfl, ⟨xs, hT⟩, fun D hD => loop_it (walk_tup (xs := xs)) (fun i H1 => Same H H1 ∧ H1 D = some (TxO P w D (insAll (namesL (as.take i)) []))) ⟨same_one (Same.refl H) hD, upd_same⟩ (fun i H1 _ h => sameT h.1 hT) (fun i v H1 H2 hi ⟨s1, e1⟩ ⟨e, ev⟩ => ?_) fun H1 ⟨s1, e1⟩ => ?_⟩
    · subst e
      obtain ⟨b, eb, hB⟩ := ArcsAt.get hA (show i < as.length by rw [← hl]; exact hi)
      obtain rfl : v = .ref b := Option.some.inj (ev.symm.trans eb)
      have hi' : i < as.length := by rw [← hl]; exact hi
      have hB := sameT s1 hB
      refine ⟨rfl, _, rfl, _, rfl, b, _, rfl, hB, (fun z => absurd z.2 (show ¬ (2 = 3) by decide)), fun _ p hp => ?_⟩
      have s2 : Same H (upd H2 p (.tup [.str as[i].1, .str as[i].2.1])) := same_one s1 (s1.free hp)
      have np : p ≠ D := by
        rintro rfl
        rw [e1] at hp
        cases hp
      have hz : ∀ j, (insAll (namesL (as.take i) ++ [as[i].1, as[i].2.1].take j) []).length ≤ 1002 := fun j => by
        have z := insAll_len (ks := namesL (as.take i) ++ [as[i].1, as[i].2.1].take j) (L := ([] : List Str))
        rw [List.length_append, namesL_len, List.length_take, List.length_take] at z
        simp only [List.length_nil, List.length_cons] at z
        omega
      refine ⟨p, rfl, ⟨_, SqT.of upd_same⟩, loop_it (walk_tup (xs := [as[i].1, as[i].2.1].map V.str)) (fun j H3 => Same H H3 ∧ H3 D = some (TxO P w D (insAll (namesL (as.take i) ++ [as[i].1, as[i].2.1].take j) [])) ∧ SqT K H3 p ([as[i].1, as[i].2.1].map V.str))
        ⟨s2, ?_, SqT.of upd_same⟩ (fun j H3 _ h => h.2.2) (fun j v H3 H4 hj ⟨s3, e3, t3⟩ ⟨e, ev⟩ => ?_) fun H3 ⟨s3, e3, _⟩ => ?_⟩
      · rw [upd_ne np.symm, List.take_zero, List.append_nil]
        exact e1
      · subst e
        have hj' : j < [as[i].1, as[i].2.1].length := by simpa using hj
        have e0 : [as[i].1, as[i].2.1][j]? = some [as[i].1, as[i].2.1][j] := List.getElem?_eq_getElem hj'
        rw [List.getElem?_map, e0] at ev
        obtain rfl : V.str [as[i].1, as[i].2.1][j] = v := Option.some.inj ev
        refine ⟨rfl, _, rfl, _, _, rfl, e3, ?_, same_one s3 hD, ?_, sqt_upd t3 np⟩
        · have z := hz j
          unfold scanBound
          omega
        · rw [upd_same]
          refine congrArg (fun l => some (TxO P w D l)) ?_
          rw [List.take_add_one, e0, Option.toList_some, ← List.append_assoc]
          exact (insAll_app (ks := namesL (as.take i) ++ [as[i].1, as[i].2.1].take j) (ls := [[as[i].1, as[i].2.1][j]])).symm
      · refine ⟨s3, e3.trans (congrArg (fun l => some (TxO P w D l)) ?_)⟩
        rw [namesL_take hi']
        rfl
    · rw [hl, List.take_length] at e1
      exact ⟨D, _, rfl, e1, fun p hp => k p _ (same_one s1 (s1.free hp)) (s1.free hp) upd_same⟩
structure TxtO (K : PySem.W.Frag) (mg : Str → Option Value) (fO : Addr) (fdO : FuncData) : Prop where
  gO : mg "_names_of" = some (.ref fO)
  kO : PySem.W.keepIn K (.ref fO) = true
  bO : Binds K fdO ["arcs"] []
/-- _check_name(arcs, name), of a name of theirs -/
def spCheckName (K : PySem.W.Frag) : Sp := fun vs H Q _ => ∃ a as x, vs = [.ref a, .str x] ∧ ArcsAt K H a as ∧ as.length ≤ 500 ∧ x ∈ namesL as ∧ ∀ H', Same H H' → Q .non H'
theorem inV_strs (x : Str) : ∀ l : List Str, inV (.str x) (l.map V.str) = decide (x ∈ l)
  | [] => rfl
  | y :: l => by
    show ((y == x) || inV (.str x) (l.map V.str)) = _
    rw [inV_strs x l]
    by_cases e : x = y
    · subst e
      simp
    · have z : (y == x) = false := by simpa using fun z : y = x => e z.symm
      rw [z, Bool.false_or]
      simp [e]
theorem scCkName : FnScope ["arcs", "name"] ["arcs", "name"] (defScope sCheckName) := ⟨rfl, rfl, rfl, by decide +kernel, rfl, by decide +kernel, by decide +kernel⟩
theorem ok_checkName {f fO : Addr} {fd fdO : FuncData} (F : Fun K "_check_name" "_check_name" sCheckName f fd) (GO : FnOk P w K mg base CX0 1 fO fdO ["arcs"] (spNames K)) (O : TxtO K mg fO fdO) : FnOk P w K mg base CX0 2 f fd ["arcs", "name"] (spCheckName K) := by
  refine F.ok scCkName (fun vs H Q E h => ?_) (fun cdv A outer s H vs Q E hr h => ?_)
  · obtain ⟨a, as, x, rfl, _⟩ := h
    rfl
  · obtain ⟨a, as, x, rfl, hA, few, hx, k⟩ := h
    refine ⟨_, (pss_one (ps_if (pt_cmpR op_notIn_seq (pv 1) (pe_call GO hr rfl O.gO O.kO O.bO .nil pass0 (pa_cons (pv 0) pa_nil)) (by rfl))
        (pss_one ps_never)
        pss_nil)), ?_⟩
    refine ⟨_, rfl, _, rfl, a, as, rfl, hA, few, fun p H1 s1 n1 e1 => ⟨p, _, rfl, .inl (SqL.of e1), rfl, flat_strs _, _, rfl, ?_⟩⟩
    have e : (if true then !inV (.str x) ((namesOf as).map V.str) else inV (.str x) ((namesOf as).map V.str)) = false := by
      rw [inV_strs, decide_eq_true (mem_namesOf.mpr hx)]
      rfl
    exact ifF e (k H1 s1)
end
end K01

set_option Elab.async false
set_option linter.all false
set_option maxRecDepth 100000
set_option maxHeartbeats 2000000
namespace K01
open PySem PySem.Spec PyProof.Rows L2 LW RZ
abbrev sIsJoined : Stmt := top 18
def arc0 : Arc := (⟨#[]⟩, ⟨#[]⟩, 0)
def natOf : PyData → Nat
  | .int i => i.toNat
  | _ => 0
/-- arc j begins where arc i ends -/
def linkB (as : List Arc) (i j : Nat) : Bool := decide ((as.getD i arc0).2.1 = (as.getD j arc0).1)
def linksB (as : List Arc) (l : List Nat) : Bool := (List.range (l.length - 1)).all fun i => linkB as (l.getD i 0) (l.getD (i + 1) 0)
def inB (as : List Arc) (d : PyData) : Bool := btw 0 ((as.length : Int) - 1) d
def joinB (as : List Arc) : PyData → Bool
  | .tuple ds => ds.all (inB as) && linksB as (ds.map natOf)
  | _ => false
def shortT : PyData → Bool
  | .tuple ds => decide (ds.length ≤ 1000)
  | _ => true
structure TxtZ (mg : Str → Option Value) : Prop where
  isinstance : mg "isinstance" = none
  tuple : mg "tuple" = none
  all : mg "all" = none
  len : mg "len" = none
  zip : mg "zip" = none
  sum : mg "sum" = none
structure TxtW (K : PySem.W.Frag) (mg : Str → Option Value) (fB : Addr) (fdB : FuncData) : Prop where
  gB : mg "is_between" = some (.ref fB)
  kB : PySem.W.keepIn K (.ref fB) = true
  bB : Binds K fdB ["value", "least", "most"] []
def spJoined (K : PySem.W.Frag) : Sp := fun vs H Q _ => ∃ a as v d, vs = [.ref a, v] ∧ ArcsAt K H a as ∧ DpX K H v d ∧ shortT d = true ∧ ∀ H', Same H H' → Q (.bl (joinB as d)) H'
section
variable {P : Program} {w : World} {K : PySem.W.Frag} {mg : Str → Option Value} {base : Heap}
theorem scJoin : FnScope ["arcs", "value", "before", "behind", "index"] ["arcs", "value"] (defScope sIsJoined) := ⟨rfl, rfl, rfl, by decide +kernel, rfl, by decide +kernel, by decide +kernel⟩
theorem ok_isJoined {f fB : Addr} {fd fdB : FuncData} (F : Fun K "_is_joined" "_is_joined" sIsJoined f fd) (T : TxtZ mg) (GB : FnOk P w K mg base CX0 2 fB fdB ["value", "least", "most"] (spBtw K)) (W : TxtW K mg fB fdB) :
    FnOk P w K mg base CX0 3 f fd ["arcs", "value"] (spJoined K) := by
  refine F.ok scJoin (fun vs H Q E h => ?_) (fun cdv A outer s H vs Q E hr h => ?_)
  · obtain ⟨a, as, v, d, rfl, _⟩ := h
    rfl
  · obtain ⟨a, as, v, d, rfl, ⟨xs, hT, hA⟩, D, short, k⟩ := h
    refine ⟨_, (pss_cons (ps_if (pt_not (pt_val (pe_callB call_isi (by rfl) T.isinstance (by decide +kernel) (pa_cons (pv 1) (pa_cons (pe_bltn (v := .ty "tuple") (by rfl) T.tuple (by decide +kernel) rfl) pa_nil)))))
        (pss_one (ps_ret pe_bl))
        pss_nil)
      (pss_cons (ps_if (pt_not (pt_val (pe_callB (cr_all rfl) (by rfl) T.all (by decide +kernel) (pa_cons (pe_lc (own := [("index", 4)]) (g := gName 4) (tt := tYes) (by rfl) scJoin.nd (pi_tup (pv 1)) (blkOk_by (own := [("index", 4)]) (N := ["arcs", "value", "before", "behind", "index"]) (sc := defScope sIsJoined) (by decide +kernel)) (fun _ _ _ _ _ => (pg_name (i := 4) scJoin.nd rfl (.inl rfl))) (fun _ _ _ _ _ => pts_nil) (fun _ _ _ _ _ => (pe_call GB hr rfl W.gB W.kB W.bB .nil pass0 (pa_cons (pv 4) (pa_cons pe_int (pa_cons (pe_op op_sub (pe_callB (call_lenK K) (by rfl) T.len (by decide +kernel) (pa_cons (pv 0) pa_nil)) pe_int) pa_nil)))))) pa_nil))))
        (pss_one (ps_ret pe_bl))
        pss_nil)
      (pss_one (ps_ret (pe_callB (cr_all rfl) (by rfl) T.all (by decide +kernel) (pa_cons (pe_lc (own := [("before", 2), ("behind", 3)]) (g := _) (tt := tYes) (by rfl) scJoin.nd (pi_zipA (by rfl) T.zip (pa_cons (pv 1) (pa_cons (pe_slice sl_tupA (pv 1) (po_some pe_int) po_none) pa_nil))) (blkOk_by (own := [("before", 2), ("behind", 3)]) (N := ["arcs", "value", "before", "behind", "index"]) (sc := defScope sIsJoined) (by decide +kernel)) (fun _ _ _ _ _ => (pg_tupK (n := 2) K rfl (pgs_cons (pg_name (i := 2) scJoin.nd rfl (.inl rfl)) (pgs_cons (pg_name (i := 3) scJoin.nd rfl (.inl rfl)) pgs_nil)))) (fun _ _ _ _ _ => pts_nil) (fun _ _ _ _ _ => (pe_cmpR op_eq (pe_ix (ix_tupK K) (pe_ix (ix_tupK K) (pv 0) (pv 2) (fun _ _ => rfl)) pe_int (fun _ _ => rfl)) (pe_ix (ix_tupK K) (pe_ix (ix_tupK K) (pv 0) (pv 3) (fun _ _ => rfl)) pe_int (fun _ _ => rfl)) (nomark _)))) pa_nil)))))), ?_⟩
    refine ⟨_, rfl, _, _, _, _, _, rfl, .ty _, D.ty, kit_ty (kit_tuple d), _, rfl, ?_⟩
    cases D with
    | @tup b ys ds hB hD =>
      have hl : ys.length = ds.length := hD.len
      have hfew : ds.length ≤ 1000 := of_decide_eq_true short
      have hz : ys.length ≤ sizeLine := by rw [hl]; exact Nat.le_trans hfew (by decide)
      refine ⟨_, rfl, b, rfl, ⟨ys, hB⟩, fun B hBn => lc_pure (walk_tup (xs := ys)) (fun i => .bl (inB as (ds.getD i .none))) hz hBn (fun H1 s1 => sameT s1 hB) (fun i v H1 H2 C hi s1 ⟨e, ev⟩ q => ?_) fun H1 s1 hL => ?_⟩
      · subst e
        have hid : i < ds.length := by rw [← hl]; exact hi
        have ed : ds[i]? = some ds[i] := List.getElem?_eq_getElem hid
        obtain ⟨v', ev', Dv⟩ := DpXAll.get hD ed
        obtain rfl : v = v' := Option.some.inj (ev.symm.trans ev')
        rw [List.getD_eq_getElem?_getD, ed] at q
        have hx : xs.length = as.length := by rw [hA.len, List.length_map]
        refine ⟨rfl, _, rfl, _, rfl, a, xs, rfl, .inr (sameT s1 hT), _, _, rfl, rfl, v, ds[i], _, _, rfl, DpX.same s1 Dv, fun H3 s3 => ?_⟩
        have q := q H3 s3
        rw [hx]
        exact q
      · have e : ((List.range ys.length).map fun i => V.bl (inB as (ds.getD i .none))) = (ds.map (inB as)).map V.bl := by
          rw [hl, List.map_map]
          exact range_items ds (fun d => V.bl (inB as d)) .none
        rw [e] at hL
        refine ⟨B, ds.map (inB as), rfl, SqL.of hL, _, rfl, ?_⟩
        have ea : (ds.map (inB as)).all id = ds.all (inB as) := by rw [List.all_map]; rfl
        rw [ea]
        cases hall : ds.all (inB as) with
        | false =>
          have q := k H1 s1
          have ej : joinB as (.tuple ds) = false := by
            show (ds.all (inB as) && _) = false
            rw [hall, Bool.false_and]
          rw [ej] at q
          exact q
        | true =>
          have hn : ∀ j, j < ds.length → ∃ z : Nat, ys[j]? = some (.int (z : Nat)) ∧ z < as.length ∧ (ds.map natOf).getD j 0 = z := fun j hj => by
            obtain ⟨u, eu, Du⟩ := DpXAll.get hD (List.getElem?_eq_getElem hj)
            have ok := List.all_eq_true.mp hall _ (List.getElem_mem hj)
            rw [List.getD_eq_getElem?_getD, List.getElem?_map, List.getElem?_eq_getElem hj]
            generalize ds[j] = dj at Du ok ⊢
            cases Du with
            | int z =>
              have ok : (decide (0 ≤ z) && decide (z ≤ (as.length : Int) - 1)) = true := ok
              rw [Bool.and_eq_true, decide_eq_true_eq, decide_eq_true_eq] at ok
              obtain ⟨m, rfl⟩ := Int.eq_ofNat_of_zero_le ok.1
              exact ⟨m, eu, by omega, by show (m : Int).toNat = m; omega⟩
            | _ => cases ok
          have arcAt : ∀ H6, Same H H6 → ∀ z, z < as.length → ∃ c, atI xs (z : Nat) = some (.ref c) ∧ SqT K H6 a xs ∧ SqT K H6 c [.str (as.getD z arc0).1, .str (as.getD z arc0).2.1, .int (as.getD z arc0).2.2] := fun H6 s6 z hz => by
            obtain ⟨c, ec, hc⟩ := ArcsAt.get hA hz
            have eg : as.getD z arc0 = as[z] := by rw [List.getD_eq_getElem?_getD, List.getElem?_eq_getElem hz]; rfl
            rw [eg]
            exact ⟨c, atI_nat ec, sameT s6 hT, sameT s6 hc⟩
          refine ⟨_, rfl, _, rfl, _, rfl, b, ys, rfl, sameT s1 hB, fun whole => ?_, fun nw p hp => ?_⟩
          · have h0 : ys = [] := by
              have z : min 1 ys.length = 0 := whole.1
              exact List.eq_nil_of_length_eq_zero (by omega)
            have hC : SqT K H1 b (ys.drop 1) := by
              have z := sameT s1 hB
              rw [h0] at z ⊢
              exact z
            have s3 := s1
            refine ⟨b, b, ys, ys.drop 1, rfl, .inr ⟨sameT s1 hB, hC, fun D2 hD2 => lc_pure (walk_zipT (show ys.length - 1 = min ys.length (ys.drop 1).length by rw [List.length_drop]; omega)) (fun i => .bl (linkB as ((ds.map natOf).getD i 0) ((ds.map natOf).getD (i + 1) 0))) (Nat.le_trans (Nat.sub_le _ _) hz) hD2 (fun H4 s4 => ⟨sameT (s3.trans s4) hB, sameT s4 hC⟩)
              (fun i v H4 H5 C hi s4 ⟨T, x, y, ev, hT0, e5, ex, ey⟩ q => ?_) fun H4 s4 hL2 => ⟨_, (List.range (ys.length - 1)).map fun i => linkB as ((ds.map natOf).getD i 0) ((ds.map natOf).getD (i + 1) 0), rfl, SqL.of (hL2.trans (by rw [List.map_map]; rfl)), ?_⟩⟩⟩
            · subst ev e5
              have s6 : Same H (upd H4 T (.tup [x, y])) := same_one (s3.trans s4) (s3.trans s4 |>.free hT0)
              obtain ⟨m1, e1, l1, g1⟩ := hn i (by omega)
              obtain ⟨m2, e2, l2, g2⟩ := hn (i + 1) (by omega)
              have ey : ys[i + 1]? = some y := by
                have z : (ys.drop 1)[i]? = some y := ey
                rwa [List.getElem?_drop, Nat.add_comm 1 i] at z
              obtain rfl : x = .int (m1 : Nat) := Option.some.inj (ex.symm.trans e1)
              obtain rfl : y = .int (m2 : Nat) := Option.some.inj (ey.symm.trans e2)
              obtain ⟨c1, a1, t1, u1⟩ := arcAt _ s6 m1 l1
              obtain ⟨c2, a2, t2, u2⟩ := arcAt _ s6 m2 l2
              refine ⟨T, _, rfl, SqT.of upd_same, rfl, _, _, rfl, _, _, rfl, rfl, rfl, ?_⟩
              refine ⟨_, rfl, _, rfl, a, xs, _, _, rfl, rfl, t1, a1, c1, _, _, _, rfl, rfl, u1, rfl, ?_⟩
              refine ⟨_, rfl, _, rfl, a, xs, _, _, rfl, rfl, t2, a2, c2, _, _, _, rfl, rfl, u2, rfl, rfl, ?_⟩
              have q := q (upd H4 T (.tup [.int (m1 : Nat), .int (m2 : Nat)])) (same_one (Same.refl H4) hT0)
              rw [g1, g2] at q
              have ed : decide (V.str (as.getD m1 arc0).2.1 = V.str (as.getD m2 arc0).1) = linkB as m1 m2 := by
                show _ = decide (_ = _)
                simp only [V.str.injEq]
              rw [ed]
              exact q
            · have eb : joinB as (.tuple ds) = ((List.range (ys.length - 1)).map fun i => linkB as ((ds.map natOf).getD i 0) ((ds.map natOf).getD (i + 1) 0)).all id := by
                show (ds.all (inB as) && linksB as (ds.map natOf)) = _
                rw [hall, Bool.true_and, List.all_map, hl]
                unfold linksB
                rw [List.length_map]
                rfl
              rw [← eb]
              exact k H4 (s3.trans s4)
          · have ec : cutV ys (some 1) none = ys.drop 1 := by
              unfold cutV
              have z1 : HT.sIx ys.length 0 (some 1) = min 1 ys.length := rfl
              have z2 : HT.sIx ys.length ys.length none = ys.length := rfl
              rw [z1, z2]
              rcases Nat.lt_or_ge 0 ys.length with c | c
              · rw [Nat.min_eq_left c]
                exact List.take_of_length_le (by rw [List.length_drop]; omega)
              · have c0 : ys = [] := List.eq_nil_of_length_eq_zero (by omega)
                rw [c0]
                rfl
            rw [ec]
            have s3 := same_one s1 (o := .tup (ys.drop 1)) (s1.free hp)
            have hC : SqT K (upd H1 p (.tup (ys.drop 1))) p (ys.drop 1) := SqT.of upd_same
            refine ⟨b, p, ys, ys.drop 1, rfl, .inr ⟨sameT s3 hB, hC, fun D2 hD2 => lc_pure (walk_zipT (show ys.length - 1 = min ys.length (ys.drop 1).length by rw [List.length_drop]; omega)) (fun i => .bl (linkB as ((ds.map natOf).getD i 0) ((ds.map natOf).getD (i + 1) 0))) (Nat.le_trans (Nat.sub_le _ _) hz) hD2 (fun H4 s4 => ⟨sameT (s3.trans s4) hB, sameT s4 hC⟩)
              (fun i v H4 H5 C hi s4 ⟨T, x, y, ev, hT0, e5, ex, ey⟩ q => ?_) fun H4 s4 hL2 => ⟨_, (List.range (ys.length - 1)).map fun i => linkB as ((ds.map natOf).getD i 0) ((ds.map natOf).getD (i + 1) 0), rfl, SqL.of (hL2.trans (by rw [List.map_map]; rfl)), ?_⟩⟩⟩
            · subst ev e5
              have s6 : Same H (upd H4 T (.tup [x, y])) := same_one (s3.trans s4) (s3.trans s4 |>.free hT0)
              obtain ⟨m1, e1, l1, g1⟩ := hn i (by omega)
              obtain ⟨m2, e2, l2, g2⟩ := hn (i + 1) (by omega)
              have ey : ys[i + 1]? = some y := by
                have z : (ys.drop 1)[i]? = some y := ey
                rwa [List.getElem?_drop, Nat.add_comm 1 i] at z
              obtain rfl : x = .int (m1 : Nat) := Option.some.inj (ex.symm.trans e1)
              obtain rfl : y = .int (m2 : Nat) := Option.some.inj (ey.symm.trans e2)
              obtain ⟨c1, a1, t1, u1⟩ := arcAt _ s6 m1 l1
              obtain ⟨c2, a2, t2, u2⟩ := arcAt _ s6 m2 l2
              refine ⟨T, _, rfl, SqT.of upd_same, rfl, _, _, rfl, _, _, rfl, rfl, rfl, ?_⟩
              refine ⟨_, rfl, _, rfl, a, xs, _, _, rfl, rfl, t1, a1, c1, _, _, _, rfl, rfl, u1, rfl, ?_⟩
              refine ⟨_, rfl, _, rfl, a, xs, _, _, rfl, rfl, t2, a2, c2, _, _, _, rfl, rfl, u2, rfl, rfl, ?_⟩
              have q := q (upd H4 T (.tup [.int (m1 : Nat), .int (m2 : Nat)])) (same_one (Same.refl H4) hT0)
              rw [g1, g2] at q
              have ed : decide (V.str (as.getD m1 arc0).2.1 = V.str (as.getD m2 arc0).1) = linkB as m1 m2 := by
                show _ = decide (_ = _)
                simp only [V.str.injEq]
              rw [ed]
              exact q
            · have eb : joinB as (.tuple ds) = ((List.range (ys.length - 1)).map fun i => linkB as ((ds.map natOf).getD i 0) ((ds.map natOf).getD (i + 1) 0)).all id := by
                show (ds.all (inB as) && linksB as (ds.map natOf)) = _
                rw [hall, Bool.true_and, List.all_map, hl]
                unfold linksB
                rw [List.length_map]
                rfl
              rw [← eb]
              exact k H4 (s3.trans s4)
    | _ => exact k H (Same.refl H)
end
end K01

set_option Elab.async false
set_option linter.all false
set_option maxRecDepth 100000
set_option maxHeartbeats 2000000
namespace K01
open PySem PySem.Spec PyProof.Rows L2 LW RZ
abbrev sIsWay : Stmt := top 12
abbrev sIsRing : Stmt := top 13
/-- arcs, as the code wants them -/
def okArcs (as : List Arc) : Bool := decide (as.length ≤ 400) && as.all fun r => nameB (.str r.1) && nameB (.str r.2.1)
theorem ok_short {as : List Arc} (h : okArcs as = true) : shortAs (arcsD as) = true := by
  unfold okArcs at h
  rw [Bool.and_eq_true] at h
  show (as.map arcD).all shortA = true
  rw [List.all_map, List.all_eq_true]
  intro r hr
  have z := List.all_eq_true.mp h.2 r hr
  rw [Bool.and_eq_true] at z
  have n1 : ∀ s : Str, nameB (.str s) = true → shortS (.str s) = true := fun s hs => by
    have q : (decide (1 ≤ s.length) && decide (s.length ≤ 8) && _) = true := hs
    rw [Bool.and_eq_true, Bool.and_eq_true, decide_eq_true_eq, decide_eq_true_eq] at q
    exact decide_eq_true (by omega)
  show (shortS _ && (shortS _ && (shortS _ && true))) = true
  rw [n1 _ z.1, n1 _ z.2]
  rfl
theorem ok_good {as : List Arc} (h : okArcs as = true) : arcsB (arcsD as) = true := by
  unfold okArcs at h
  rw [Bool.and_eq_true, decide_eq_true_eq] at h
  show (decide ((as.map arcD).length ≤ 400) && (as.map arcD).all arcB) = true
  rw [List.length_map, decide_eq_true h.1, Bool.true_and, List.all_map, List.all_eq_true]
  intro r hr
  have z := List.all_eq_true.mp h.2 r hr
  rw [Bool.and_eq_true] at z
  show (nameB _ && nameB _ && true) = true
  rw [z.1, z.2]
  rfl
theorem ok_few {as : List Arc} (h : okArcs as = true) : as.length ≤ 400 := by
  unfold okArcs at h
  rw [Bool.and_eq_true, decide_eq_true_eq] at h
  exact h.1
/-- the indices of a value that is joined -/
def idxs : PyData → List Nat
  | .tuple ds => ds.map natOf
  | _ => []
def wayB (as : List Arc) (d : PyData) (x y : Str) : Bool := joinB as d && (if idxs d = [] then decide (x = y) else decide ((as.getD ((idxs d).headD 0) arc0).1 = x) && decide ((as.getD ((idxs d).getLastD 0) arc0).2.1 = y))
def ringB (as : List Arc) (d : PyData) : Bool := joinB as d && !(idxs d).isEmpty && decide ((as.getD ((idxs d).headD 0) arc0).1 = (as.getD ((idxs d).getLastD 0) arc0).2.1) && decide (((idxs d).map fun i => (as.getD i arc0).2.2).sum < 0)
theorem joined_all {K : PySem.W.Frag} {H : Hp} {as : List Arc} : ∀ {ys : List V} {ds : List PyData}, DpXAll K H ys ds → ds.all (inB as) = true → ys = (ds.map natOf).map (fun (i : Nat) => V.int (i : Int)) ∧ ∀ i ∈ ds.map natOf, i < as.length
  | _, _, .nil, _ => ⟨rfl, fun i hi => by cases hi⟩
  | _, _, .cons (d := d) h t, e => by
    rw [List.all_cons, Bool.and_eq_true] at e
    obtain ⟨e1, e2⟩ := e
    obtain ⟨r1, r2⟩ := joined_all t e2
    cases h with
    | int z =>
      have ok : (decide (0 ≤ z) && decide (z ≤ (as.length : Int) - 1)) = true := e1
      rw [Bool.and_eq_true, decide_eq_true_eq, decide_eq_true_eq] at ok
      obtain ⟨m, rfl⟩ := Int.eq_ofNat_of_zero_le ok.1
      refine ⟨by rw [r1]; rfl, fun i hi => ?_⟩
      rcases List.mem_cons.mp hi with hi | hi
      · have z : i = m := hi
        omega
      · exact r2 i hi
    | _ => cases e1
/-- what is known of a joined value -/
theorem joined_open {K : PySem.W.Frag} {H : Hp} {as : List Arc} {v : V} {d : PyData} (D : DpX K H v d) (h : joinB as d = true) : ∃ b, v = .ref b ∧ SqT K H b ((idxs d).map fun (i : Nat) => V.int (i : Int)) ∧ ∀ i ∈ idxs d, i < as.length := by
  cases D with
  | @tup b ys ds hB hD =>
    have h : (ds.all (inB as) && _) = true := h
    rw [Bool.and_eq_true] at h
    have all := h.1
    clear h
    have key := joined_all hD all
    exact ⟨b, rfl, by rw [key.1] at hB; exact hB, key.2⟩
  | _ => cases h
structure TxtY (K : PySem.W.Frag) (mg : Str → Option Value) (fC fK fJ : Addr) (fdC fdK fdJ : FuncData) : Prop where
  gC : mg "_check_arcs" = some (.ref fC)
  kC : PySem.W.keepIn K (.ref fC) = true
  bC : Binds K fdC ["arcs"] []
  gK : mg "_check_name" = some (.ref fK)
  kK : PySem.W.keepIn K (.ref fK) = true
  bK : Binds K fdK ["arcs", "name"] []
  gJ : mg "_is_joined" = some (.ref fJ)
  kJ : PySem.W.keepIn K (.ref fJ) = true
  bJ : Binds K fdJ ["arcs", "value"] []
def spWay (K : PySem.W.Frag) : Sp := fun vs H Q _ => ∃ a as v d x y, vs = [.ref a, v, .str x, .str y] ∧ ArcsAt K H a as ∧ okArcs as = true ∧ DpX K H v d ∧ shortT d = true ∧ x ∈ namesL as ∧ y ∈ namesL as ∧ ∀ H', Same H H' → Q (.bl (wayB as d x y)) H'
def spRing (K : PySem.W.Frag) : Sp := fun vs H Q _ => ∃ a as v d, vs = [.ref a, v] ∧ ArcsAt K H a as ∧ okArcs as = true ∧ DpX K H v d ∧ shortT d = true ∧ ∀ H', Same H H' → Q (.bl (ringB as d)) H'
theorem at_last {l : List Nat} (h : l ≠ []) : atI (l.map fun (i : Nat) => V.int (i : Int)) (-1) = some (.int (l.getLastD 0 : Nat)) := by
  have e : l = l.dropLast ++ [l.getLastD 0] := by
    have z := List.dropLast_concat_getLast h
    rw [List.getLastD_eq_getLast?, List.getLast?_eq_some_getLast h]
    exact z.symm
  have q := atI_last (l.dropLast.map fun (i : Nat) => V.int (i : Int)) (.int (l.getLastD 0 : Nat))
  have q2 : (l.dropLast.map fun (i : Nat) => V.int (i : Int)) ++ [V.int (l.getLastD 0 : Nat)] = l.map fun (i : Nat) => V.int (i : Int) := by
    conv => rhs; rw [e]
    rw [List.map_append]
    rfl
  rwa [q2] at q
theorem last_mem {l : List Nat} (h : l ≠ []) : l.getLastD 0 ∈ l := by
  rw [List.getLastD_eq_getLast?, List.getLast?_eq_some_getLast h]
  exact List.getLast_mem h
theorem dec_str (a b : Str) : decide (V.str a = V.str b) = decide (a = b) := by simp only [V.str.injEq]
theorem arc_at {K : PySem.W.Frag} {H : Hp} {a : Addr} {as : List Arc} {z : Nat} (h : ArcsAt K H a as) (hz : z < as.length) : ∃ xs c, SqT K H a xs ∧ atI xs (z : Nat) = some (.ref c) ∧ SqT K H c [.str (as.getD z arc0).1, .str (as.getD z arc0).2.1, .int (as.getD z arc0).2.2] := by
  obtain ⟨xs, hT, hA⟩ := h
  obtain ⟨c, ec, hc⟩ := ArcsAt.get hA hz
  have eg : as.getD z arc0 = as[z] := by rw [List.getD_eq_getElem?_getD, List.getElem?_eq_getElem hz]; rfl
  rw [eg]
  exact ⟨xs, c, hT, atI_nat ec, hc⟩
section
variable {P : Program} {w : World} {K : PySem.W.Frag} {mg : Str → Option Value} {base : Heap}
theorem scWay : FnScope ["arcs", "value", "source", "target"] ["arcs", "value", "source", "target"] (defScope sIsWay) := ⟨rfl, rfl, rfl, by decide +kernel, rfl, by decide +kernel, by decide +kernel⟩
theorem ok_isWay {f fC fK fJ : Addr} {fd fdC fdK fdJ : FuncData} (F : Fun K "is_way" "is_way" sIsWay f fd) (T : TxtZ mg) (GC : FnOk P w K mg base CX0 4 fC fdC ["arcs"] (spCheck K)) (GK : FnOk P w K mg base CX0 2 fK fdK ["arcs", "name"] (spCheckName K))
    (GJ : FnOk P w K mg base CX0 3 fJ fdJ ["arcs", "value"] (spJoined K)) (Y : TxtY K mg fC fK fJ fdC fdK fdJ) : FnOk P w K mg base CX0 5 f fd ["arcs", "value", "source", "target"] (spWay K) := by
  refine F.ok scWay (fun vs H Q E h => ?_) (fun cdv A outer s H vs Q E hr h => ?_)
  · obtain ⟨a, as, v, d, x, y, rfl, _⟩ := h
    rfl
  · obtain ⟨a, as, v, d, x, y, rfl, hA, good, D, short, hx, hy, k⟩ := h
    refine ⟨_, (pss_cons (ps_expr (pe_call GC hr rfl Y.gC Y.kC Y.bC .nil pass0 (pa_cons (pv 0) pa_nil)))
      (pss_cons (ps_expr (pe_call GK (hr.mono (by decide)) rfl Y.gK Y.kK Y.bK .nil pass0 (pa_cons (pv 0) (pa_cons (pv 2) pa_nil))))
      (pss_cons (ps_expr (pe_call GK (hr.mono (by decide)) rfl Y.gK Y.kK Y.bK .nil pass0 (pa_cons (pv 0) (pa_cons (pv 3) pa_nil))))
      (pss_cons (ps_if (pt_not (pt_val (pe_call GJ (hr.mono (by decide)) rfl Y.gJ Y.kJ Y.bJ .nil pass0 (pa_cons (pv 0) (pa_cons (pv 1) pa_nil)))))
        (pss_one (ps_ret pe_bl))
        pss_nil)
      (pss_cons (ps_if (pt_cmpR op_eq (pe_callB call_len_seq (by rfl) T.len (by decide +kernel) (pa_cons (pv 1) pa_nil)) pe_int (nomark _))
        (pss_one (ps_ret (pe_cmpR op_eq (pv 2) (pv 3) (nomark _))))
        pss_nil)
      (pss_one (ps_ret (pe_and (pe_cmpR op_eq (pe_ix ix_tup (pe_ix ix_tup (pv 0) (pe_ix ix_tup (pv 1) pe_int (fun _ _ => rfl)) (fun _ _ => rfl)) pe_int (fun _ _ => rfl)) (pv 2) (nomark _)) (pe_one (pe_cmpR op_eq (pe_ix ix_tup (pe_ix ix_tup (pv 0) (pe_ix ix_tup (pv 1) (pe_un un_neg pe_int) (fun _ _ => rfl)) (fun _ _ => rfl)) pe_int (fun _ _ => rfl)) (pv 3) (nomark _))))))))))), ?_⟩
    have few : as.length ≤ 500 := Nat.le_trans (ok_few good) (by decide)
    refine ⟨_, rfl, _, _, rfl, hA.dp, ok_short good, ok_good good, fun H1 s1 => ?_⟩
    refine ⟨_, rfl, _, rfl, a, as, x, rfl, hA.same s1, few, hx, fun H2 s2 => ?_⟩
    have s2 := s1.trans s2
    refine ⟨_, rfl, _, rfl, a, as, y, rfl, hA.same s2, few, hy, fun H3 s3 => ?_⟩
    have s3 := s2.trans s3
    refine ⟨_, rfl, _, rfl, a, as, v, d, rfl, hA.same s3, DpX.same s3 D, short, fun H4 s4 => ⟨_, rfl, ?_⟩⟩
    have s4 := s3.trans s4
    have k := k H4 s4
    cases hj : joinB as d with
    | false =>
      have e : wayB as d x y = false := by
        unfold wayB
        rw [hj, Bool.false_and]
      rw [e] at k
      exact k
    | true =>
      obtain ⟨b, rfl, hB, hin⟩ := joined_open (DpX.same s4 D) hj
      have hT := hA.same s4
      by_cases hl : idxs d = []
      · have e : wayB as d x y = decide (x = y) := by
          unfold wayB
          rw [hj, Bool.true_and, if_pos hl]
        rw [e, ← dec_str] at k
        exact ⟨_, rfl, b, _, rfl, .inr hB, rfl, _, rfl, ifT (by rw [hl]; rfl) ⟨_, rfl, _, rfl, rfl, k⟩⟩
      · obtain ⟨i0, rest, el⟩ : ∃ i0 rest, idxs d = i0 :: rest := by
          cases q : idxs d with
          | nil => exact absurd q hl
          | cons i0 rest => exact ⟨i0, rest, rfl⟩
        have e : wayB as d x y = (decide ((as.getD i0 arc0).1 = x) && decide ((as.getD ((idxs d).getLastD 0) arc0).2.1 = y)) := by
          unfold wayB
          rw [hj, Bool.true_and, if_neg hl, el]
          rfl
        rw [e] at k
        have h0 : i0 < as.length := hin i0 (by rw [el]; exact List.mem_cons_self)
        have h1 : (idxs d).getLastD 0 < as.length := hin _ (last_mem hl)
        obtain ⟨xs, c0, t0, a0, u0⟩ := arc_at hT h0
        obtain ⟨xs', c1, t1, a1, u1⟩ := arc_at hT h1
        refine ⟨_, rfl, b, _, rfl, .inr hB, rfl, _, rfl, ifF ?_ ?_⟩
        · rw [el]
          exact decide_eq_false fun z => absurd (V.int.inj z) (by simp only [List.length_map, List.length_cons]; omega)
        · refine ⟨_, rfl, _, rfl, b, _, _, _, rfl, rfl, hB, atI_nat (j := 0) (by rw [el]; rfl), a, xs, (i0 : Nat), _, rfl, rfl, t0, a0, c0, _, _, _, rfl, rfl, u0, rfl, _, rfl, rfl, _, rfl, ?_⟩
          rw [dec_str]
          cases q : decide ((as.getD i0 arc0).1 = x) with
          | false =>
            rw [q] at k
            exact k
          | true =>
            rw [q, Bool.true_and, ← dec_str] at k
            exact ⟨_, rfl, _, rfl, 1, rfl, b, _, -1, _, rfl, rfl, hB, at_last hl, a, xs', ((idxs d).getLastD 0 : Nat), _, rfl, rfl, t1, a1, c1, _, _, _, rfl, rfl, u1, rfl, _, rfl, rfl, k⟩
theorem scRing : FnScope ["arcs", "value", "index"] ["arcs", "value"] (defScope sIsRing) := ⟨rfl, rfl, rfl, by decide +kernel, rfl, by decide +kernel, by decide +kernel⟩
theorem ok_isRing {f fC fK fJ : Addr} {fd fdC fdK fdJ : FuncData} (F : Fun K "is_ring" "is_ring" sIsRing f fd) (T : TxtZ mg) (GC : FnOk P w K mg base CX0 4 fC fdC ["arcs"] (spCheck K)) (GJ : FnOk P w K mg base CX0 3 fJ fdJ ["arcs", "value"] (spJoined K))
    (Y : TxtY K mg fC fK fJ fdC fdK fdJ) : FnOk P w K mg base CX0 5 f fd ["arcs", "value"] (spRing K) := by
  refine F.ok scRing (fun vs H Q E h => ?_) (fun cdv A outer s H vs Q E hr h => ?_)
  · obtain ⟨a, as, v, d, rfl, _⟩ := h
    rfl
  · obtain ⟨a, as, v, d, rfl, hA, good, D, short, k⟩ := h
    refine ⟨_, (pss_cons (ps_expr (pe_call GC hr rfl Y.gC Y.kC Y.bC .nil pass0 (pa_cons (pv 0) pa_nil)))
      (pss_cons (ps_if (PW.pt (pw_or (pt_not (pt_val (pe_call GJ (hr.mono (by decide)) rfl Y.gJ Y.kJ Y.bJ .nil pass0 (pa_cons (pv 0) (pa_cons (pv 1) pa_nil))))) (pw_or1 (pt_cmpR op_eq (pe_callB call_len_seq (by rfl) T.len (by decide +kernel) (pa_cons (pv 1) pa_nil)) pe_int (nomark _)))))
        (pss_one (ps_ret pe_bl))
        pss_nil)
      (pss_cons (ps_if (pt_cmpR op_ne (pe_ix ix_tup (pe_ix ix_tup (pv 0) (pe_ix ix_tup (pv 1) pe_int (fun _ _ => rfl)) (fun _ _ => rfl)) pe_int (fun _ _ => rfl)) (pe_ix ix_tup (pe_ix ix_tup (pv 0) (pe_ix ix_tup (pv 1) (pe_un un_neg pe_int) (fun _ _ => rfl)) (fun _ _ => rfl)) pe_int (fun _ _ => rfl)) (nomark _))
        (pss_one (ps_ret pe_bl))
        pss_nil)
      (pss_one (ps_ret (pe_cmpR op_lt (pe_callB (cr_sum rfl) (by rfl) T.sum (by decide +kernel) (pa_cons (pe_lc (own := [("index", 2)]) (g := gName 2) (tt := tYes) (by rfl) scRing.nd (pi_tup (pv 1)) (blkOk_by (own := [("index", 2)]) (N := ["arcs", "value", "index"]) (sc := defScope sIsRing) (by decide +kernel)) (fun _ _ _ _ _ => (pg_name (i := 2) scRing.nd rfl (.inl rfl))) (fun _ _ _ _ _ => pts_nil) (fun _ _ _ _ _ => (pe_ix (ix_tupK K) (pe_ix (ix_tupK K) (pv 0) (pv 2) (fun _ _ => rfl)) pe_int (fun _ _ => rfl)))) pa_nil)) pe_int (nomark _))))))), ?_⟩
    refine ⟨_, rfl, _, _, rfl, hA.dp, ok_short good, ok_good good, fun H1 s1 => ?_⟩
    refine ⟨_, rfl, _, rfl, a, as, v, d, rfl, hA.same s1, DpX.same s1 D, short, fun H4 s4 => ⟨_, rfl, ?_⟩⟩
    have s4 := s1.trans s4
    have k4 := k H4 s4
    cases hj : joinB as d with
    | false =>
      have e : ringB as d = false := by
        unfold ringB
        rw [hj, Bool.false_and, Bool.false_and, Bool.false_and]
      rw [e] at k4
      exact k4
    | true =>
      obtain ⟨b, rfl, hB, hin⟩ := joined_open (DpX.same s4 D) hj
      have hT := hA.same s4
      by_cases hl : idxs d = []
      · have e : ringB as d = false := by
          unfold ringB
          rw [hj, hl]
          rfl
        rw [e] at k4
        exact ⟨_, rfl, b, _, rfl, .inr hB, rfl, _, rfl, ifT (by rw [hl]; rfl) k4⟩
      · obtain ⟨i0, rest, el⟩ : ∃ i0 rest, idxs d = i0 :: rest := by
          cases q : idxs d with
          | nil => exact absurd q hl
          | cons i0 rest => exact ⟨i0, rest, rfl⟩
        have e : ringB as d = (decide ((as.getD i0 arc0).1 = (as.getD ((idxs d).getLastD 0) arc0).2.1) && decide (((idxs d).map fun i => (as.getD i arc0).2.2).sum < 0)) := by
          unfold ringB
          rw [hj, el]
          rfl
        rw [e] at k k4
        have h0 : i0 < as.length := hin i0 (by rw [el]; exact List.mem_cons_self)
        have h1 : (idxs d).getLastD 0 < as.length := hin _ (last_mem hl)
        obtain ⟨xs, c0, t0, a0, u0⟩ := arc_at hT h0
        obtain ⟨xs', c1, t1, a1, u1⟩ := arc_at hT h1
        refine ⟨_, rfl, b, _, rfl, .inr hB, rfl, _, rfl, ifF ?_ ?_⟩
        · rw [el]
          exact decide_eq_false fun z => absurd (V.int.inj z) (by simp only [List.length_map, List.length_cons]; omega)
        · refine ⟨_, rfl, _, rfl, b, _, _, _, rfl, rfl, hB, atI_nat (j := 0) (by rw [el]; rfl), a, xs, (i0 : Nat), _, rfl, rfl, t0, a0, c0, _, _, _, rfl, rfl, u0, rfl, ?_⟩
          refine ⟨_, rfl, _, rfl, 1, rfl, b, _, -1, _, rfl, rfl, hB, at_last hl, a, xs', ((idxs d).getLastD 0 : Nat), _, rfl, rfl, t1, a1, c1, _, _, _, rfl, rfl, u1, rfl, rfl, _, rfl, ?_⟩
          rw [dec_str]
          cases q : decide ((as.getD i0 arc0).1 = (as.getD ((idxs d).getLastD 0) arc0).2.1) with
          | false =>
            rw [q] at k4
            exact k4
          | true =>
            rw [q] at k
            have hz : ((idxs d).map fun (i : Nat) => V.int (i : Int)).length ≤ sizeLine := by
              have z : (idxs d).length ≤ 1000 := by
                cases d with
                | tuple ds => 
                  show (ds.map natOf).length ≤ 1000
                  rw [List.length_map]
                  exact of_decide_eq_true short
                | _ => exact Nat.zero_le _
              rw [List.length_map]
              exact Nat.le_trans z (by decide)
            refine ⟨_, rfl, b, rfl, ⟨_, hB⟩, fun D2 hD2 => lc_pure (walk_tup (xs := (idxs d).map fun (i : Nat) => V.int (i : Int))) (fun i => .int (as.getD ((idxs d).getD i 0) arc0).2.2) hz hD2 (fun H5 s5 => sameT s5 hB) (fun i v H5 H6 C hi s5 ⟨ev, ex⟩ q => ?_) fun H5 s5 hL => ?_⟩
            · subst ev
              have hi' : i < (idxs d).length := by rwa [List.length_map] at hi
              rw [List.getElem?_map, List.getElem?_eq_getElem hi'] at ex
              obtain rfl : V.int ((idxs d)[i] : Nat) = v := Option.some.inj ex
              obtain ⟨xs2, c2, t2, a2, u2⟩ := arc_at (hT.same s5) (hin _ (List.getElem_mem hi'))
              have eg : (idxs d).getD i 0 = (idxs d)[i] := by rw [List.getD_eq_getElem?_getD, List.getElem?_eq_getElem hi']; rfl
              rw [eg] at q
              exact ⟨rfl, _, rfl, _, rfl, a, xs2, _, _, rfl, rfl, t2, a2, c2, _, _, _, rfl, rfl, u2, rfl, q _ (Same.refl _)⟩
            · have em : ((List.range ((idxs d).map fun (i : Nat) => V.int (i : Int)).length).map fun i => V.int (as.getD ((idxs d).getD i 0) arc0).2.2) = ((idxs d).map fun i => (as.getD i arc0).2.2).map V.int := by
                rw [List.length_map, List.map_map]
                exact range_items (idxs d) (fun i => V.int (as.getD i arc0).2.2) 0
              rw [em] at hL
              exact ⟨D2, _, rfl, SqL.of hL, _, _, rfl, rfl, k H5 (s4.trans s5)⟩
end
end K01

set_option Elab.async false
set_option linter.all false
set_option maxRecDepth 100000
set_option maxHeartbeats 2000000
namespace K01
open PySem PySem.Spec PyProof.Rows L2 LW RZ
abbrev sLawNamesOf : Stmt := top 26
abbrev sLeads : Stmt := top 28
abbrev sLawRing : Stmt := top 29
structure TxtL (mg : Str → Option Value) : Prop where
  isinstance : mg "isinstance" = none
  int : mg "int" = none
  bool : mg "bool" = none
  tuple : mg "tuple" = none
  len : mg "len" = none
  enumerate : mg "enumerate" = none
  set : mg "set" = none
  sorted : mg "sorted" = none
  sum : mg "sum" = none
theorem join_no {as : List Arc} {ds : List PyData} {j : Nat} {d : PyData} (hj : ds[j]? = some d) (h : inB as d = false) : joinB as (.tuple ds) = false := by
  cases q : joinB as (.tuple ds) with
  | false => rfl
  | true =>
    have q : (ds.all (inB as) && _) = true := q
    rw [Bool.and_eq_true] at q
    have z := List.all_eq_true.mp q.1 d (List.mem_of_getElem? hj)
    rw [h] at z
    cases z
theorem link_at {as : List Arc} {ds : List PyData} {i : Nat} {d e : PyData} (hd : ds[i]? = some d) (he : ds[i + 1]? = some e) (q : linksB as (ds.map natOf) = true) : linkB as (natOf d) (natOf e) = true := by
  have hi : i + 1 < ds.length := (List.getElem?_eq_some_iff.mp he).1
  have z := List.all_eq_true.mp q i (List.mem_range.mpr (by rw [List.length_map]; omega))
  rwa [List.getD_eq_getElem?_getD, List.getD_eq_getElem?_getD, List.getElem?_map, List.getElem?_map, hd, he] at z
theorem link_no {as : List Arc} {ds : List PyData} {i : Nat} {d e : PyData} (hd : ds[i]? = some d) (he : ds[i + 1]? = some e) (h : linkB as (natOf d) (natOf e) = false) : joinB as (.tuple ds) = false := by
  cases q : joinB as (.tuple ds) with
  | false => rfl
  | true =>
    have q : (_ && linksB as (ds.map natOf)) = true := q
    rw [Bool.and_eq_true] at q
    have z := link_at hd he q.2
    rw [h] at z
    cases z
theorem join_yes {as : List Arc} {ds : List PyData} (h1 : ∀ (j : Nat) (d : PyData), ds[j]? = some d → inB as d = true) (h2 : ∀ (i : Nat) (d e : PyData), ds[i]? = some d → ds[i + 1]? = some e → linkB as (natOf d) (natOf e) = true) : joinB as (.tuple ds) = true := by
  show (ds.all (inB as) && linksB as (ds.map natOf)) = true
  rw [Bool.and_eq_true]
  refine ⟨List.all_eq_true.mpr fun d hd => ?_, List.all_eq_true.mpr fun i hi => ?_⟩
  · obtain ⟨j, hj⟩ := List.mem_iff_getElem?.mp hd
    exact h1 j d hj
  · have z := List.mem_range.mp hi
    rw [List.length_map] at z
    have e1 : ds[i]? = some (ds[i]'(by omega)) := List.getElem?_eq_getElem _
    have e2 : ds[i + 1]? = some (ds[i + 1]'(by omega)) := List.getElem?_eq_getElem _
    have q := h2 i _ _ e1 e2
    rwa [List.getD_eq_getElem?_getD, List.getD_eq_getElem?_getD, List.getElem?_map, List.getElem?_map, e1, e2]
/-- _law_leads(arcs, way), a walk of its own -/
def spLeads (K : PySem.W.Frag) : Sp := fun vs H Q _ => ∃ a as v d, vs = [.ref a, v] ∧ ArcsAt K H a as ∧ DpX K H v d ∧ ∀ H', Same H H' → Q (.bl (joinB as d)) H'
/-- _law_names_of(arcs): a new list of names of theirs -/
def spLawNames (K : PySem.W.Frag) : Sp := fun vs H Q _ => ∃ a as, vs = [.ref a] ∧ ArcsAt K H a as ∧ as.length ≤ 500 ∧ ∀ (p : Addr) (H' : Hp) (ys : List Str), Same H H' → H p = none → H' p = some (.lst (ys.map V.str)) → (∀ y ∈ ys, y ∈ namesL as) → Q (.ref p) H'
section
variable {P : Program} {w : World} {K : PySem.W.Frag} {mg : Str → Option Value} {base : Heap}
theorem scLeads : FnScope ["arcs", "way", "at", "one"] ["arcs", "way"] (defScope sLeads) := ⟨rfl, rfl, rfl, by decide +kernel, rfl, by decide +kernel, by decide +kernel⟩
theorem ok_leads {f : Addr} {fd : FuncData} (F : Fun K "_law_leads" "_law_leads" sLeads f fd) (T : TxtL mg) : FnOk P w K mg base CX0 1 f fd ["arcs", "way"] (spLeads K) := by
  refine F.ok scLeads (fun vs H Q E h => ?_) (fun cdv A outer s H vs Q E hr h => ?_)
  · obtain ⟨a, as, v, d, rfl, _⟩ := h
    rfl
  · obtain ⟨a, as, v, d, rfl, hA, D, k⟩ := h
    refine ⟨_, (pss_cons (ps_if (pt_not (pt_val (pe_callB call_isi (by rfl) T.isinstance (by decide +kernel) (pa_cons (pv 1) (pa_cons (pe_bltn (v := .ty "tuple") (by rfl) T.tuple (by decide +kernel) rfl) pa_nil)))))
        (pss_one (ps_ret pe_bl))
        pss_nil)
      (pss_cons (ps_for PassesOwn.never rfl (pi_enumT (by rfl) T.enumerate (pa_cons (pv 1) pa_nil)) (pg_tup rfl (pgs_cons (pg_name (i := 2) scLeads.nd rfl (.inl rfl)) (pgs_cons (pg_name (i := 3) scLeads.nd rfl (.inl rfl)) pgs_nil)))
        (pss_cons (ps_if (PW.pt (pw_or (pt_not (pt_val (pe_callB call_isi (by rfl) T.isinstance (by decide +kernel) (pa_cons (pv 3) (pa_cons (pe_bltn (v := .ty "int") (by rfl) T.int (by decide +kernel) rfl) pa_nil))))) (pw_or (pt_val (pe_callB call_isi (by rfl) T.isinstance (by decide +kernel) (pa_cons (pv 3) (pa_cons (pe_bltn (v := .ty "bool") (by rfl) T.bool (by decide +kernel) rfl) pa_nil)))) (pw_or (pt_cmpR op_lt (pv 3) pe_int (nomark _)) (pw_or1 (pt_cmpR op_ge (pv 3) (pe_callB call_len_seq (by rfl) T.len (by decide +kernel) (pa_cons (pv 0) pa_nil)) (nomark _)))))))
          (pss_one (ps_ret pe_bl))
          pss_nil)
        (pss_one (ps_if (PW.pt (pw_and (pt_cmpR op_gt (pv 2) pe_int (nomark _)) (pw_and1 (pt_cmpR op_ne (pe_ix ix_tup (pe_ix ix_tup (pv 0) (pe_ix ix_tup (pv 1) (pe_op op_sub (pv 2) pe_int) (fun _ _ => rfl)) (fun _ _ => rfl)) pe_int (fun _ _ => rfl)) (pe_ix ix_tup (pe_ix ix_tup (pv 0) (pv 3) (fun _ _ => rfl)) pe_int (fun _ _ => rfl)) (nomark _)))))
          (pss_one (ps_ret pe_bl))
          pss_nil))))
      (pss_one (ps_ret pe_bl)))), ?_⟩
    refine ⟨_, rfl, _, _, _, _, _, rfl, .ty _, D.ty, kit_ty (kit_tuple d), _, rfl, ?_⟩
    cases D with
    | @tup b ys ds hB hD =>
      have hl := hD.len
      refine ⟨_, rfl, b, ys, rfl, hB, for_it (walk_enumT (xs := ys)) (fun i σ H1 => Same H H1 ∧ (∃ u1 u2, σ = [some (.ref a), some (.ref b), u1, u2]) ∧ (∀ (j : Nat) (d : PyData), j < i → ds[j]? = some d → inB as d = true) ∧ ∀ (j : Nat) (d e : PyData), j + 1 < i → ds[j]? = some d → ds[j + 1]? = some e → linkB as (natOf d) (natOf e) = true)
        ⟨Same.refl H, ⟨_, _, rfl⟩, fun j d hj => absurd hj (Nat.not_lt_zero _), fun j d e hj => absurd hj (Nat.not_lt_zero _)⟩ (fun i σ H1 _ h => sameT h.1 hB) (fun i x σ H1 H2 hi ⟨s1, ⟨u1, u2, eσ⟩, in1, ln1⟩ ⟨T0, y, z, ev, hT0, e2, ey, ez⟩ => ?_) fun σ H1 ⟨s1, _, in1, ln1⟩ => ?_⟩
      · subst ev e2 eσ
        obtain rfl : V.int (i : Nat) = y := Option.some.inj ey
        have ez : ys[i]? = some z := ez
        have hid : i < ds.length := by rw [← hl]; exact hi
        obtain ⟨z', ez', Dz⟩ := DpXAll.get hD (List.getElem?_eq_getElem hid)
        obtain rfl : z = z' := Option.some.inj (ez.symm.trans ez')
        have edi : ds[i]? = some ds[i] := List.getElem?_eq_getElem hid
        generalize ds[i] = dz at Dz edi
        have s2 : Same H (upd H1 T0 (.tup [.int (i : Nat), z])) := same_one s1 (s1.free hT0)
        have hp : SqT K (upd H1 T0 (.tup [.int (i : Nat), z])) T0 [.int (i : Nat), z] := SqT.of upd_same
        generalize upd H1 T0 (.tup [.int (i : Nat), z]) = H2 at s2 hp ⊢
        have no : joinB as (.tuple ds) = false → Q (.bl false) H2 := fun e => by
          have q := k H2 s2
          rwa [e] at q
        have Dz := DpX.same s2 Dz
        refine ⟨T0, _, rfl, hp, rfl, _, _, rfl, _, _, rfl, rfl, ?_⟩
        refine ⟨_, rfl, _, _, _, _, _, rfl, .ty _, Dz.ty, kit_ty (kit_int dz), _, rfl, ?_⟩
        cases Dz with
        | bl c => exact ⟨_, rfl, _, _, _, _, _, rfl, .ty _, .base (.bl c), kit_ty (kit_bool (.bool c)), _, rfl, no (join_no edi rfl)⟩
        | int m =>
          refine ⟨_, rfl, _, _, _, _, _, rfl, .ty _, .base (.int m), kit_ty (kit_bool (.int m)), _, rfl, ?_⟩
          have eb : inB as (.int m) = (decide (0 ≤ m) && decide (m ≤ (as.length : Int) - 1)) := rfl
          refine ⟨_, rfl, _, _, rfl, rfl, _, rfl, ite2 (fun c => no (join_no edi ?_)) (fun c1 => ?_)⟩
          · have z := of_decide_eq_true c
            rw [eb, decide_eq_false (by omega), Bool.false_and]
          obtain ⟨xs, hT, hX⟩ := hA.same s2
          have hx : xs.length = as.length := by rw [hX.len, List.length_map]
          refine ⟨_, rfl, _, rfl, a, xs, rfl, .inr hT, _, _, rfl, rfl, _, rfl, ite2 (fun c => no (join_no edi ?_)) (fun c2 => ?_)⟩
          · have z := of_decide_eq_true c
            rw [hx] at z
            rw [eb, decide_eq_false (show ¬ m ≤ (as.length : Int) - 1 by omega), Bool.and_false]
          have m0 : 0 ≤ m := by
            by_cases z : m < 0
            · exact absurd (decide_eq_true z) c1
            · omega
          obtain ⟨n, rfl⟩ := Int.eq_ofNat_of_zero_le m0
          have hn : n < as.length := by
            by_cases z : (n : Int) ≥ (xs.length : Nat)
            · exact absurd (decide_eq_true z) c2
            · rw [hx] at z
              omega
          have hin : inB as (.int (n : Nat)) = true := by
            rw [eb, decide_eq_true (by omega), decide_eq_true (by omega)]
            rfl
          have in2 : ∀ (j : Nat) (d : PyData), j < i + 1 → ds[j]? = some d → inB as d = true := fun j d hj e => by
            rcases Nat.lt_or_ge j i with h | h
            · exact in1 j d h e
            · obtain rfl : j = i := by omega
              obtain rfl : PyData.int (n : Nat) = d := Option.some.inj (edi.symm.trans e)
              exact hin
          refine ⟨_, rfl, _, _, rfl, rfl, _, rfl, ite2 (fun c => ?_) (fun c => ?_)⟩
          · have hpos : 0 < i := by
              have z := of_decide_eq_true c
              omega
            obtain ⟨j, rfl⟩ : ∃ j, i = j + 1 := ⟨i - 1, by omega⟩
            have hjd : j < ds.length := by omega
            have edj : ds[j]? = some ds[j] := List.getElem?_eq_getElem hjd
            obtain ⟨u, eu, Du⟩ := DpXAll.get hD edj
            have inj := in1 j _ (Nat.lt_succ_self j) edj
            generalize ds[j] = dj at edj Du inj
            cases Du with
            | int q =>
              have ok : (decide (0 ≤ q) && decide (q ≤ (as.length : Int) - 1)) = true := inj
              rw [Bool.and_eq_true, decide_eq_true_eq, decide_eq_true_eq] at ok
              obtain ⟨r, rfl⟩ := Int.eq_ofNat_of_zero_le ok.1
              have hr' : r < as.length := by omega
              obtain ⟨xs1, c1', t1, a1, g1⟩ := arc_at (hA.same s2) hr'
              obtain ⟨xs2, c2', t2, a2, g2⟩ := arc_at (hA.same s2) hn
              refine ⟨_, rfl, _, rfl, _, rfl, _, _, rfl, rfl, b, ys, ((j : Nat) : Int), _, rfl, ?_, sameT s2 hB, atI_nat eu, a, xs1, (r : Nat), _, rfl, rfl, t1, a1, c1', _, _, _, rfl, rfl, g1, rfl, ?_⟩
              · exact congrArg V.int (by omega)
              refine ⟨_, rfl, _, rfl, a, xs2, (n : Nat), _, rfl, rfl, t2, a2, c2', _, _, _, rfl, rfl, g2, rfl, rfl, _, rfl, ?_⟩
              rw [dec_str]
              cases q : decide ((as.getD r arc0).2.1 = (as.getD n arc0).1) with
              | false => exact no (link_no edj edi q)
              | true =>
                refine ⟨s2, ⟨_, _, rfl⟩, in2, fun j' d e hj' e1 e2 => ?_⟩
                rcases Nat.lt_or_ge (j' + 1) (j + 1) with h | h
                · exact ln1 j' d e h e1 e2
                · obtain rfl : j' = j := by omega
                  obtain rfl : PyData.int (r : Nat) = d := Option.some.inj (edj.symm.trans e1)
                  obtain rfl : PyData.int (n : Nat) = e := Option.some.inj (edi.symm.trans e2)
                  exact q
            | _ => cases inj
          · have h0 : i = 0 := by
              by_cases z : (i : Int) > 0
              · exact absurd (decide_eq_true z) c
              · omega
            exact ⟨s2, ⟨_, _, rfl⟩, in2, fun j d e hj => by omega⟩
        | _ => exact no (join_no edi rfl)
      · have e : joinB as (.tuple ds) = true := join_yes (fun j d e => in1 j d (by rw [hl]; exact (List.getElem?_eq_some_iff.mp e).1) e) fun i d e h1 h2 => ln1 i d e (by rw [hl]; exact (List.getElem?_eq_some_iff.mp h2).1) h1 h2
        have q := k H1 s1
        rw [e] at q
        exact q
    | _ => exact k H (Same.refl H)
theorem scLNames : FnScope ["arcs", "arc"] ["arcs"] (defScope sLawNamesOf) := ⟨rfl, rfl, rfl, by decide +kernel, rfl, by decide +kernel, by decide +kernel⟩
theorem ok_lawNamesOf {f : Addr} {fd : FuncData} (F : Fun K "_law_names_of" "_law_names_of" sLawNamesOf f fd) (T : TxtL mg) : FnOk P w K mg base CX0 1 f fd ["arcs"] (spLawNames K) := by
  refine F.ok scLNames (fun vs H Q E h => ?_) (fun cdv A outer s H vs Q E hr h => ?_)
  · obtain ⟨a, as, rfl, _⟩ := h
    rfl
  · obtain ⟨a, as, rfl, hA, few, k⟩ := h
    refine ⟨_, (pss_one (ps_ret (pe_callB (LS.cr_sortT rfl (by have z := hr.units; exact Nat.lt_of_le_of_lt (Nat.add_le_add_left (by decide) _) z)) (by rfl) T.sorted (by decide +kernel) (pa_cons (pe_callTy (LS.cr_setT rfl) (by rfl) T.set (by decide +kernel) (pa_cons (pe_op op_cat (pe_lc (own := [("arc", 1)]) (g := gName 1) (tt := tYes) (by rfl) scLNames.nd (pi_tup (pv 0)) (blkOk_by (own := [("arc", 1)]) (N := ["arcs", "arc"]) (sc := defScope sLawNamesOf) (by decide +kernel)) (fun _ _ _ _ _ => (pg_name (i := 1) scLNames.nd rfl (.inl rfl))) (fun _ _ _ _ _ => pts_nil) (fun _ _ _ _ _ => (pe_ix (ix_tupK K) (pv 1) pe_int (fun _ _ => rfl)))) (pe_lc (own := [("arc", 1)]) (g := gName 1) (tt := tYes) (by rfl) scLNames.nd (pi_tup (pv 0)) (blkOk_by (own := [("arc", 1)]) (N := ["arcs", "arc"]) (sc := defScope sLawNamesOf) (by decide +kernel)) (fun _ _ _ _ _ => (pg_name (i := 1) scLNames.nd rfl (.inl rfl))) (fun _ _ _ _ _ => pts_nil) (fun _ _ _ _ _ => (pe_ix (ix_tupK K) (pv 1) pe_int (fun _ _ => rfl))))) pa_nil)) pa_nil)))), ?_⟩
    obtain ⟨xs, hT, hX⟩ := hA
    have hx : xs.length = as.length := by rw [hX.len, List.length_map]
    have hz : xs.length ≤ sizeLine := by rw [hx]; exact Nat.le_trans few (by decide)
    refine ⟨_, rfl, a, rfl, ⟨xs, hT⟩, fun B hB => lc_pure (walk_tup (xs := xs)) (fun i => .str (as.getD i arc0).1) hz hB (fun H1 s1 => sameT s1 hT) (fun i v H1 H2 C hi s1 ⟨e, ev⟩ q => ?_) fun H1 s1 hL => ?_⟩
    · subst e
      obtain ⟨xs1, c, t, ac, g⟩ := arc_at (ArcsAt.same ⟨xs, hT, hX⟩ s1) (show i < as.length by rw [← hx]; exact hi)
      obtain ⟨c', ec, hc⟩ := ArcsAt.get hX (show i < as.length by rw [← hx]; exact hi)
      obtain rfl : v = .ref c' := Option.some.inj (ev.symm.trans ec)
      have eg : as.getD i arc0 = as[i]'(by rw [← hx]; exact hi) := by rw [List.getD_eq_getElem?_getD, List.getElem?_eq_getElem (by rw [← hx]; exact hi)]; rfl
      rw [eg] at q
      exact ⟨rfl, _, rfl, c', _, _, _, rfl, rfl, sameT s1 hc, rfl, q _ (Same.refl _)⟩
    have hT1 := sameT s1 hT
    refine ⟨_, rfl, a, rfl, ⟨xs, hT1⟩, fun B2 hB2 => lc_pure (walk_tup (xs := xs)) (fun i => .str (as.getD i arc0).2.1) hz hB2 (fun H2 s2 => sameT s2 hT1) (fun i v H2 H3 C hi s2 ⟨e, ev⟩ q => ?_) fun H2 s2 hL2 => ?_⟩
    · subst e
      obtain ⟨c', ec, hc⟩ := ArcsAt.get hX (show i < as.length by rw [← hx]; exact hi)
      obtain rfl : v = .ref c' := Option.some.inj (ev.symm.trans ec)
      have eg : as.getD i arc0 = as[i]'(by rw [← hx]; exact hi) := by rw [List.getD_eq_getElem?_getD, List.getElem?_eq_getElem (by rw [← hx]; exact hi)]; rfl
      rw [eg] at q
      exact ⟨rfl, _, rfl, c', _, _, _, rfl, rfl, sameT (s1.trans s2) hc, rfl, q _ (Same.refl _)⟩
    have e1 : ((List.range xs.length).map fun i => V.str (as.getD i arc0).1) = (as.map (·.1)).map V.str := by
      rw [hx, List.map_map]
      exact range_items as (fun r => V.str r.1) arc0
    have e2 : ((List.range xs.length).map fun i => V.str (as.getD i arc0).2.1) = (as.map (·.2.1)).map V.str := by
      rw [hx, List.map_map]
      exact range_items as (fun r => V.str r.2.1) arc0
    rw [e1] at hL
    rw [e2] at hL2
    have hL := s2 _ _ hL
    have s2 := s1.trans s2
    refine ⟨B, B2, _, _, rfl, rfl, hL, hL2, ?_, fun p hp => ?_⟩
    · rw [List.length_map, List.length_map, List.length_map, List.length_map]
      exact Nat.le_trans (Nat.add_le_add few few) (by decide)
    rw [← List.map_append]
    have s3 := same_one s2 (o := .lst ((as.map (·.1) ++ as.map (·.2.1)).map V.str)) (s2.free hp)
    refine ⟨p, _, rfl, .inl (SqL.of upd_same), ?_, fun p2 hp2 => ⟨p2, _, rfl, upd_same, fun p3 hp3 => ?_⟩⟩
    · rw [List.length_append, List.length_map, List.length_map]
      unfold scanBound
      omega
    have s4 := same_one s3 (o := LS.TxO P w p2 (LS.insAll (as.map (·.1) ++ as.map (·.2.1)) [])) (s3.free hp2)
    refine k p3 _ (LS.sortT (LS.insAll (as.map (·.1) ++ as.map (·.2.1)) [])) (same_one s4 (s4.free hp3)) (s4.free hp3) upd_same fun y hy => ?_
    rw [LS.mem_sortT, LS.mem_insAll] at hy
    rcases hy with hy | hy
    · rcases List.mem_append.mp hy with hy | hy
      · obtain ⟨r, hr, e⟩ := List.mem_map.mp hy
        exact List.mem_flatMap.mpr ⟨r, hr, by rw [← e]; exact List.mem_cons_self⟩
      · obtain ⟨r, hr, e⟩ := List.mem_map.mp hy
        exact List.mem_flatMap.mpr ⟨r, hr, by rw [← e]; exact List.mem_cons_of_mem _ List.mem_cons_self⟩
    · cases hy
end
end K01

set_option Elab.async false
set_option linter.all false
set_option maxRecDepth 100000
set_option maxHeartbeats 2000000
namespace K01
open PySem PySem.Spec PyProof.Rows L2 LW RZ
theorem shaped_tupI (l : List Nat) : SeqAt.shaped (.tuple (l.map fun (i : Nat) => PyData.int (i : Int))) = true := by
  have h1 : ∀ l : List Nat, PyData.canLayAll0 (l.map fun (i : Nat) => PyData.int (i : Int)) = true := fun l => by
    induction l with
    | nil => rfl
    | cons a l ih => simp [PyData.canLayAll0, PyData.canLay0, ih]
  have h2 : ∀ l : List Nat, PyData.depthAll (l.map fun (i : Nat) => PyData.int (i : Int)) = 0 := fun l => by
    induction l with
    | nil => rfl
    | cons a l ih => simp [PyData.depthAll, PyData.depth, ih]
  simp [SeqAt.shaped, PyData.canLay0, PyData.depth, h1, h2]
theorem dp_ints {K : PySem.W.Frag} {H : Hp} : ∀ l : List Nat, DpAll K H (l.map fun (i : Nat) => V.int (i : Int)) (l.map fun (i : Nat) => PyData.int (i : Int))
  | [] => .nil
  | i :: l => .cons (.int _) (dp_ints l)
theorem eqv_none (l : List Nat) : PyData.eqv (.tuple (l.map fun (i : Nat) => PyData.int (i : Int))) (.tuple []) = l.isEmpty := by
  cases l with
  | nil => rfl
  | cons a l => rfl
structure TxtD2 (K : PySem.W.Frag) (mg : Str → Option Value) (fL : Addr) (fdL : FuncData) : Prop where
  gL : mg "_law_leads" = some (.ref fL)
  kL : PySem.W.keepIn K (.ref fL) = true
  bL : Binds K fdL ["arcs", "way"] []
def spLawRing (K : PySem.W.Frag) : Sp := fun vs H Q _ => ∃ a as v d, vs = [.ref a, v] ∧ ArcsAt K H a as ∧ DpX K H v d ∧ shortT d = true ∧ ∀ H', Same H H' → Q (.bl (ringB as d)) H'
section
variable {P : Program} {w : World} {K : PySem.W.Frag} {mg : Str → Option Value} {base : Heap}
theorem scLRing : FnScope ["arcs", "way", "at"] ["arcs", "way"] (defScope sLawRing) := ⟨rfl, rfl, rfl, by decide +kernel, rfl, by decide +kernel, by decide +kernel⟩
theorem ok_lawRing {f fL : Addr} {fd fdL : FuncData} (F : Fun K "_law_is_ring" "_law_is_ring" sLawRing f fd) (T : TxtL mg) (GL : FnOk P w K mg base CX0 1 fL fdL ["arcs", "way"] (spLeads K)) (U : TxtD2 K mg fL fdL) : FnOk P w K mg base CX0 2 f fd ["arcs", "way"] (spLawRing K) := by
  refine F.ok scLRing (fun vs H Q E h => ?_) (fun cdv A outer s H vs Q E hr h => ?_)
  · obtain ⟨a, as, v, d, rfl, _⟩ := h
    rfl
  · obtain ⟨a, as, v, d, rfl, hA, D, short, k⟩ := h
    refine ⟨_, (pss_cons (ps_if (PW.pt (pw_or (pt_not (pt_val (pe_call GL hr rfl U.gL U.kL U.bL .nil pass0 (pa_cons (pv 0) (pa_cons (pv 1) pa_nil))))) (pw_or1 (pt_cmpR (op_eqD hr.units) (pv 1) (pe_tup pa_nil) (nomark _)))))
        (pss_one (ps_ret pe_bl))
        pss_nil)
      (pss_one (ps_ret (pe_and (pe_cmpR op_eq (pe_ix ix_tup (pe_ix ix_tup (pv 0) (pe_ix ix_tup (pv 1) pe_int (fun _ _ => rfl)) (fun _ _ => rfl)) pe_int (fun _ _ => rfl)) (pe_ix ix_tup (pe_ix ix_tup (pv 0) (pe_ix ix_tup (pv 1) (pe_un un_neg pe_int) (fun _ _ => rfl)) (fun _ _ => rfl)) pe_int (fun _ _ => rfl)) (nomark _)) (pe_one (pe_cmpR op_lt (pe_callB (cr_sum rfl) (by rfl) T.sum (by decide +kernel) (pa_cons (pe_lc (own := [("at", 2)]) (g := gName 2) (tt := tYes) (by rfl) scLRing.nd (pi_tup (pv 1)) (blkOk_by (own := [("at", 2)]) (N := ["arcs", "way", "at"]) (sc := defScope sLawRing) (by decide +kernel)) (fun _ _ _ _ _ => (pg_name (i := 2) scLRing.nd rfl (.inl rfl))) (fun _ _ _ _ _ => pts_nil) (fun _ _ _ _ _ => (pe_ix (ix_tupK K) (pe_ix (ix_tupK K) (pv 0) (pv 2) (fun _ _ => rfl)) pe_int (fun _ _ => rfl)))) pa_nil)) pe_int (nomark _))))))), ?_⟩
    refine ⟨_, rfl, _, rfl, a, as, v, d, rfl, hA, D, fun H4 s4 => ⟨_, rfl, ?_⟩⟩
    cases hj : joinB as d with
    | false =>
      have k4 := k H4 s4
      have e : ringB as d = false := by
        unfold ringB
        rw [hj, Bool.false_and, Bool.false_and, Bool.false_and]
      rw [e] at k4
      exact k4
    | true =>
      obtain ⟨b, rfl, hB, hin⟩ := joined_open (DpX.same s4 D) hj
      refine ⟨_, rfl, (by show 0 ≤ sizeLine; decide), fun t ht => ?_⟩
      have s5 := same_one s4 (o := .tup []) (s4.free ht)
      have hB := sameT (same_one (Same.refl H4) ht (o := .tup [])) hB
      have hT := hA.same s5
      refine ⟨_, _, .tup hB (dp_ints _), .tup (SqT.of upd_same) .nil, shaped_tupI _, rfl, _, rfl, ?_⟩
      rw [eqv_none]
      generalize upd H4 t (.tup []) = H4 at s5 hB hT ⊢
      have k4 := k H4 s5
      have s4 := s5
      by_cases hl : idxs d = []
      · have e : ringB as d = false := by
          unfold ringB
          rw [hj, hl]
          rfl
        rw [e] at k4
        exact ifT (by rw [hl]; rfl) k4
      · obtain ⟨i0, rest, el⟩ : ∃ i0 rest, idxs d = i0 :: rest := by
          cases q : idxs d with
          | nil => exact absurd q hl
          | cons i0 rest => exact ⟨i0, rest, rfl⟩
        have e : ringB as d = (decide ((as.getD i0 arc0).1 = (as.getD ((idxs d).getLastD 0) arc0).2.1) && decide (((idxs d).map fun i => (as.getD i arc0).2.2).sum < 0)) := by
          unfold ringB
          rw [hj, el]
          rfl
        rw [e] at k k4
        have h0 : i0 < as.length := hin i0 (by rw [el]; exact List.mem_cons_self)
        have h1 : (idxs d).getLastD 0 < as.length := hin _ (last_mem hl)
        obtain ⟨xs, c0, t0, a0, u0⟩ := arc_at hT h0
        obtain ⟨xs', c1, t1, a1, u1⟩ := arc_at hT h1
        refine ifF (by rw [el]; rfl) ?_
        refine ⟨_, rfl, _, rfl, b, _, _, _, rfl, rfl, hB, atI_nat (j := 0) (by rw [el]; rfl), a, xs, (i0 : Nat), _, rfl, rfl, t0, a0, c0, _, _, _, rfl, rfl, u0, rfl, ?_⟩
        refine ⟨_, rfl, _, rfl, 1, rfl, b, _, -1, _, rfl, rfl, hB, at_last hl, a, xs', ((idxs d).getLastD 0 : Nat), _, rfl, rfl, t1, a1, c1, _, _, _, rfl, rfl, u1, rfl, rfl, _, rfl, ?_⟩
        rw [dec_str]
        cases q : decide ((as.getD i0 arc0).1 = (as.getD ((idxs d).getLastD 0) arc0).2.1) with
        | false =>
          rw [q] at k4
          exact k4
        | true =>
          rw [q] at k
          have hz : ((idxs d).map fun (i : Nat) => V.int (i : Int)).length ≤ sizeLine := by
            have z : (idxs d).length ≤ 1000 := by
              cases d with
              | tuple ds =>
                show (ds.map natOf).length ≤ 1000
                rw [List.length_map]
                exact of_decide_eq_true short
              | _ => exact Nat.zero_le _
            rw [List.length_map]
            exact Nat.le_trans z (by decide)
          refine ⟨_, rfl, b, rfl, ⟨_, hB⟩, fun D2 hD2 => lc_pure (walk_tup (xs := (idxs d).map fun (i : Nat) => V.int (i : Int))) (fun i => .int (as.getD ((idxs d).getD i 0) arc0).2.2) hz hD2 (fun H5 s5 => sameT s5 hB) (fun i v H5 H6 C hi s5 ⟨ev, ex⟩ q => ?_) fun H5 s5 hL => ?_⟩
          · subst ev
            have hi' : i < (idxs d).length := by rwa [List.length_map] at hi
            rw [List.getElem?_map, List.getElem?_eq_getElem hi'] at ex
            obtain rfl : V.int ((idxs d)[i] : Nat) = v := Option.some.inj ex
            obtain ⟨xs2, c2, t2, a2, u2⟩ := arc_at (hT.same s5) (hin _ (List.getElem_mem hi'))
            have eg : (idxs d).getD i 0 = (idxs d)[i] := by rw [List.getD_eq_getElem?_getD, List.getElem?_eq_getElem hi']; rfl
            rw [eg] at q
            exact ⟨rfl, _, rfl, _, rfl, a, xs2, _, _, rfl, rfl, t2, a2, c2, _, _, _, rfl, rfl, u2, rfl, q _ (Same.refl _)⟩
          · have em : ((List.range ((idxs d).map fun (i : Nat) => V.int (i : Int)).length).map fun i => V.int (as.getD ((idxs d).getD i 0) arc0).2.2) = ((idxs d).map fun i => (as.getD i arc0).2.2).map V.int := by
              rw [List.length_map, List.map_map]
              exact range_items (idxs d) (fun i => V.int (as.getD i arc0).2.2) 0
            rw [em] at hL
            exact ⟨D2, _, rfl, SqL.of hL, _, _, rfl, rfl, k H5 (s4.trans s5)⟩
end
end K01

set_option Elab.async false
set_option linter.all false
set_option maxRecDepth 100000
set_option maxHeartbeats 2000000
namespace K01
open PySem PySem.Spec PyProof.Rows L2 LW RZ
abbrev sMixed : Stmt := top 23
abbrev sNames : Stmt := top 24
abbrev sArcs : Stmt := top 25
theorem st3 {H : Hp} {l : Addr} : Stm H l ↔ St3 H l := Iff.rfl
structure TxtM (K : PySem.W.Frag) (mg : Str → Option Value) (fD : Addr) (fdD : FuncData) : Prop where
  gD : mg "_law_draw" = some (.ref fD)
  kD : PySem.W.keepIn K (.ref fD) = true
  bD : Binds K fdD ["stream", "total"] []
  list : mg "list" = none
  len : mg "len" = none
  range : mg "range" = none
  tuple : mg "tuple" = none
/-- _law_mixed(stream, items): a new list of as many of them -/
def spMixed (K : PySem.W.Frag) : Sp := fun vs H Q _ => ∃ (l b : Addr) (xs : List V), vs = [.ref l, .ref b] ∧ St3 H l ∧ SqL K H b xs ∧ b ≠ l ∧ xs.length ≤ 1000 ∧ ∀ (p : Addr) (H' : Hp) (ys : List V), Aft l H H' → H p = none → H' p = some (.lst ys) → ys.length = xs.length → (∀ y ∈ ys, y ∈ xs) → Q (.ref p) H'
section
variable {P : Program} {w : World} {K : PySem.W.Frag} {mg : Str → Option Value} {base : Heap}
theorem scMixed : FnScope ["stream", "items", "left", "turn"] ["stream", "items"] (defScope sMixed) := ⟨rfl, rfl, rfl, by decide +kernel, rfl, by decide +kernel, by decide +kernel⟩
theorem ok_mixed {f fD : Addr} {fd fdD : FuncData} (F : Fun K "_law_mixed" "_law_mixed" sMixed f fd) (T : TxtM K mg fD fdD) (GD : FnOk P w K mg base CX0 1 fD fdD ["stream", "total"] spDraw) : FnOk P w K mg base CX0 2 f fd ["stream", "items"] (spMixed K) := by
  refine F.ok scMixed (fun vs H Q E h => ?_) (fun cdv A outer s H vs Q E hr h => ?_)
  · obtain ⟨l, b, xs, rfl, _⟩ := h
    rfl
  · obtain ⟨l, b, xs, rfl, hS, hB, hbl, few, k⟩ := h
    refine ⟨_, (pss_cons (ps_set (i := 2) scMixed.nd rfl (.inr rfl) (pe_callTy call_list_of (by rfl) T.list (by decide +kernel) (pa_cons (pv 1) pa_nil)))
      (pss_one (ps_ret (pe_lc (own := [("turn", 3)]) (g := gName 3) (tt := tYes) (by rfl) scMixed.nd (pi_range1 (by rfl) T.range (pa_cons (pe_callB call_len_seq (by rfl) T.len (by decide +kernel) (pa_cons (pv 1) pa_nil)) pa_nil)) (blkOk_by (own := [("turn", 3)]) (N := ["stream", "items", "left", "turn"]) (sc := defScope sMixed) (by decide +kernel)) (fun _ _ _ _ _ => (pg_name (i := 3) scMixed.nd rfl (.inl rfl))) (fun _ _ _ _ _ => pts_nil) (fun _ _ _ _ _ => (pe_bmK K PySem.F.plainAttrs_list PySem.F.slot_list_pop PySem.F.type_list_pop mt_popAt (pv 2) (pa_cons (pe_call GD hr rfl T.gD T.kD T.bD .nil pass0 (pa_cons (pv 0) (pa_cons (pe_callB (call_lenK K) (by rfl) T.len (by decide +kernel) (pa_cons (pv 2) pa_nil)) pa_nil))) pa_nil))))))), ?_⟩
    refine ⟨_, rfl, b, xs, rfl, .inl hB, fun q hq => ?_⟩
    have A0 : Aft l H H := Aft.refl hS
    have nq : q ≠ l := A0.ne hq
    have A1 : Aft l H (upd H q (.lst xs)) := A0.put hq nq
    refine ⟨_, rfl, _, _, rfl, .inl (A1.lst hB hbl), ?_⟩
    refine ⟨_, rfl, by omega, by omega, fun D hD => lc_it (walk_range (lo := 0) (n := xs.length)) (fun i H1 => Aft l H H1 ∧ (∃ ls, H1 q = some (.lst ls) ∧ ls.length + i = xs.length ∧ ∀ y ∈ ls, y ∈ xs) ∧ ∃ ys, H1 D = some (.lst ys) ∧ ys.length = i ∧ ∀ y ∈ ys, y ∈ xs)
      ⟨A1.put (A1.free hD) (A1.ne hD), ⟨xs, ?_, rfl, fun y hy => hy⟩, [], upd_same, rfl, fun y hy => by cases hy⟩ (fun _ _ _ _ => trivial) (fun i x H1 H2 hi ⟨a1, ⟨ls, eL, hl, sub⟩, ys, eD, hy, suby⟩ ⟨e, ev⟩ => ?_) fun H1 ⟨a1, _, ys, eD, hy, suby⟩ => k D H1 ys a1 (A1.free hD) eD hy suby⟩
    · have ne : q ≠ D := by
        rintro rfl
        rw [upd_same] at hD
        cases hD
      exact (upd_ne ne).trans upd_same
    · subst e ev
      have ne : q ≠ D := by
        rintro rfl
        rw [upd_same] at hD
        cases hD
      have nD : D ≠ l := A1.ne hD
      refine ⟨rfl, _, rfl, .inl ⟨rfl, _, SqL.of eL⟩, _, rfl, _, rfl, q, ls, rfl, .inl (SqL.of eL), l, _, rfl, a1.st, by omega, by omega, fun m x y z g1 g2 => ?_⟩
      obtain ⟨j, rfl⟩ := Int.eq_ofNat_of_zero_le g1
      have hj : j < ls.length := by omega
      obtain ⟨kk, h1, h2, _⟩ := atI_get (atI_nat (List.getElem?_eq_getElem hj))
      have hkk : kk < ls.length := (List.getElem?_eq_some_iff.mp h2).1
      have a2 : Aft l H (upd H2 l (.lst [.int x, .int y, .int z])) := a1.draw
      have hq' : H q = none := hq
      refine ⟨q, ls, j, kk, ls[j], rfl, rfl, (upd_ne nq).trans eL, by omega, by omega, h1, h2, ys, (upd_ne ne.symm).trans ((upd_ne nD).trans eD), ?_, (a2.put hq' nq).put (A1.free hD) nD, ⟨ls.eraseIdx kk, (upd_ne ne).trans upd_same, ?_, fun y hy => sub y (List.mem_of_mem_eraseIdx hy)⟩, ys ++ [ls[j]], upd_same, ?_, fun y hy' => ?_⟩
      · have z : sizeLine = 16777216 := sizeLine_eq
        omega
      · rw [List.length_eraseIdx_of_lt hkk]
        omega
      · rw [List.length_append, hy]
        rfl
      · rcases List.mem_append.mp hy' with h | h
        · exact suby y h
        · rw [List.mem_singleton.mp h]
          exact sub _ (List.getElem_mem hj)
end
end K01

set_option Elab.async false
set_option linter.all false
set_option maxRecDepth 100000
set_option maxHeartbeats 2000000
namespace K01
open PySem PySem.Spec PyProof.Rows L2 LW RZ
def names1 : List Str := ["a", "aa", "ab", "aba", "b", "ba", "c", "ca", "d", "done", "e", "end", "go", "m", "s", "st", "starts"]
def names2 : List Str := ["x", "xx", "zzzzzzzz"]
theorem names_good : ∀ x ∈ names1 ++ names2, nameB (.str x) = true := by decide +kernel
theorem strs_of {l : List Str} : ∀ {ys : List V}, (∀ y ∈ ys, y ∈ l.map V.str) → ∃ zs : List Str, ys = zs.map V.str ∧ ∀ z ∈ zs, z ∈ l
  | [], _ => ⟨[], rfl, fun z hz => by cases hz⟩
  | y :: ys, h => by
    obtain ⟨z, hz, e⟩ := List.mem_map.mp (h y List.mem_cons_self)
    obtain ⟨zs, e2, h2⟩ := strs_of (ys := ys) fun y hy => h y (List.mem_cons_of_mem _ hy)
    refine ⟨z :: zs, by rw [e2, ← e]; rfl, fun x hx => ?_⟩
    rcases List.mem_cons.mp hx with hx | hx
    · rw [hx]
      exact hz
    · exact h2 x hx
structure TxtX (K : PySem.W.Frag) (mg : Str → Option Value) (fM : Addr) (fdM : FuncData) : Prop where
  gM : mg "_law_mixed" = some (.ref fM)
  kM : PySem.W.keepIn K (.ref fM) = true
  bM : Binds K fdM ["stream", "items"] []
/-- _law_names(stream, total): a new list of names -/
def spLNames (K : PySem.W.Frag) : Sp := fun vs H Q _ => ∃ (l : Addr) (t : Int), vs = [.ref l, .int t] ∧ St3 H l ∧ 1 ≤ t ∧ t ≤ 20 ∧ ∀ (p : Addr) (H' : Hp) (ys : List Str), Aft l H H' → H p = none → H' p = some (.lst (ys.map V.str)) → 1 ≤ ys.length → ys.length ≤ 20 → (∀ y ∈ ys, nameB (.str y) = true) → Q (.ref p) H'
section
variable {P : Program} {w : World} {K : PySem.W.Frag} {mg : Str → Option Value} {base : Heap}
theorem scLN : FnScope ["stream", "total", "some"] ["stream", "total"] (defScope sNames) := ⟨rfl, rfl, rfl, by decide +kernel, rfl, by decide +kernel, by decide +kernel⟩
theorem ok_lnames {f fM : Addr} {fd fdM : FuncData} (F : Fun K "_law_names" "_law_names" sNames f fd) (GM : FnOk P w K mg base CX0 2 fM fdM ["stream", "items"] (spMixed K)) (X : TxtX K mg fM fdM) : FnOk P w K mg base CX0 3 f fd ["stream", "total"] (spLNames K) := by
  refine F.ok scLN (fun vs H Q E h => ?_) (fun cdv A outer s H vs Q E hr h => ?_)
  · obtain ⟨l, t, rfl, _⟩ := h
    rfl
  · obtain ⟨l, t, rfl, hS, h1, h20, k⟩ := h
    refine ⟨_, (pss_cons (ps_set (i := 2) scLN.nd rfl (.inl rfl) (pe_lst (pa_cons pe_str (pa_cons pe_str (pa_cons pe_str (pa_cons pe_str (pa_cons pe_str (pa_cons pe_str (pa_cons pe_str (pa_cons pe_str (pa_cons pe_str (pa_cons pe_str (pa_cons pe_str (pa_cons pe_str (pa_cons pe_str (pa_cons pe_str (pa_cons pe_str (pa_cons pe_str (pa_cons pe_str pa_nil)))))))))))))))))))
      (pss_one (ps_ret (pe_slice sl_list (pe_call GM hr rfl X.gM X.kM X.bM .nil pass0 (pa_cons (pv 0) (pa_cons (pe_op op_cat (pv 2) (pe_lst (pa_cons pe_str (pa_cons pe_str (pa_cons pe_str pa_nil))))) pa_nil))) po_none (po_some (pv 1)))))), ?_⟩
    have A0 : Aft l H H := Aft.refl hS
    refine ⟨(by show 17 ≤ sizeLine; decide), fun p1 hp1 => ?_⟩
    have A1 := A0.put (o := .lst (names1.map V.str)) hp1 (A0.ne hp1)
    refine ⟨_, rfl, _, rfl, (by show 3 ≤ sizeLine; decide), fun p2 hp2 => ?_⟩
    have hp2' := A1.free hp2
    have n12 : p1 ≠ p2 := by
      rintro rfl
      have z : some _ = none := upd_same.symm.trans hp2
      cases z
    have A2 := A1.put (o := .lst (names2.map V.str)) hp2' (A1.ne hp2)
    refine ⟨p1, p2, names1.map V.str, names2.map V.str, rfl, rfl, (upd_ne n12).trans upd_same, upd_same, (by show 20 ≤ sizeLine; decide), fun p3 hp3 => ?_⟩
    have hp3' := A2.free hp3
    have A3 := A2.put (o := .lst (names1.map V.str ++ names2.map V.str)) hp3' (A2.ne hp3)
    refine ⟨l, p3, _, rfl, A3.st, SqL.of upd_same, A2.ne hp3, (by show 20 ≤ 1000; decide), fun p H1 ys a1 n1 e1 hl sub => ?_⟩
    have A4 := A3.trans a1
    rw [← List.map_append] at sub
    obtain ⟨zs, rfl, hz⟩ := strs_of sub
    have hlen : zs.length = 20 := by
      rw [List.length_map] at hl
      exact hl
    refine ⟨_, rfl, _, rfl, p, _, rfl, SqL.of e1, fun p4 hp4 => ?_⟩
    have hp4' := A4.free hp4
    have A5 := A4.put (o := .lst (cutV (zs.map V.str) none (some t))) hp4' (A4.ne hp4)
    obtain ⟨m, rfl⟩ := Int.eq_ofNat_of_zero_le (show 0 ≤ t by omega)
    have ec : cutV (zs.map V.str) none (some (m : Int)) = (zs.take m).map V.str := by
      unfold cutV
      have z1 : HT.sIx (zs.map V.str).length 0 none = 0 := rfl
      rw [z1, HT.sIx_nat, List.length_map, hlen, List.drop_zero, Nat.sub_zero, Nat.min_eq_left (by omega), List.map_take]
    refine k p4 _ (zs.take m) A5 hp4' (upd_same.trans (by rw [ec])) ?_ ?_ fun y hy => names_good y (hz y (List.mem_of_mem_take hy))
    · rw [List.length_take, hlen]
      omega
    · rw [List.length_take, hlen]
      omega
end
end K01

set_option Elab.async false
set_option linter.all false
set_option maxRecDepth 100000
set_option maxHeartbeats 4000000
namespace K01
open PySem PySem.Spec PyProof.Rows L2 LW RZ
/-- the rows of arcs as new tuples -/
def Tups (H : Hp) (vs : List V) (as : List Arc) : Prop := vs.length = as.length ∧ ∀ (i : Nat) (r : Arc), as[i]? = some r → ∃ T, vs[i]? = some (.ref T) ∧ H T = some (.tup [.str r.1, .str r.2.1, .int r.2.2])
/-- tuples stay -/
def TS (H H' : Hp) : Prop := ∀ b xs, H b = some (.tup xs) → H' b = some (.tup xs)
theorem TS.trans {A B C : Hp} (h : TS A B) (g : TS B C) : TS A C := fun b xs e => g b xs (h b xs e)
theorem TS.new {A : Hp} {p : Addr} {o : HO} (n : A p = none) : TS A (upd A p o) := fun b xs e => by
  have ne : b ≠ p := by
    rintro rfl
    rw [n] at e
    cases e
  exact (upd_ne ne).trans e
theorem TS.lst {A : Hp} {p : Addr} {o : HO} {l : List V} (n : A p = some (.lst l)) : TS A (upd A p o) := fun b xs e => by
  have ne : b ≠ p := by
    rintro rfl
    rw [n] at e
    cases e
  exact (upd_ne ne).trans e
theorem Tups.later {A B : Hp} {vs : List V} {as : List Arc} (h : Tups A vs as) (s : TS A B) : Tups B vs as := ⟨h.1, fun i r e => by
  obtain ⟨T, e1, e2⟩ := h.2 i r e
  exact ⟨T, e1, s _ _ e2⟩⟩
theorem Tups.snoc {H : Hp} {vs : List V} {as : List Arc} {r : Arc} {T : Addr} (h : Tups H vs as) (e : H T = some (.tup [.str r.1, .str r.2.1, .int r.2.2])) : Tups H (vs ++ [.ref T]) (as ++ [r]) := by
  refine ⟨by rw [List.length_append, List.length_append, h.1]; rfl, fun i q eq => ?_⟩
  rcases Nat.lt_or_ge i as.length with c | c
  · rw [List.getElem?_append_left c] at eq
    obtain ⟨T', e1, e2⟩ := h.2 i q eq
    exact ⟨T', by rw [List.getElem?_append_left (by rw [h.1]; exact c)]; exact e1, e2⟩
  · rw [List.getElem?_append_right c] at eq
    have hi : i = as.length := by
      have z := (List.getElem?_eq_some_iff.mp eq).1
      rw [List.length_singleton] at z
      omega
    subst hi
    rw [Nat.sub_self] at eq
    obtain rfl : r = q := Option.some.inj eq
    exact ⟨T, by rw [← h.1, List.getElem?_append_right (Nat.le_refl _), Nat.sub_self]; rfl, e⟩
theorem Tups.dp {K : PySem.W.Frag} {H : Hp} : ∀ {vs : List V} {as : List Arc}, Tups H vs as → DpXAll K H vs (as.map arcD)
  | [], [], _ => .nil
  | [], r :: as, h => by cases h.1
  | v :: vs, [], h => by cases h.1
  | v :: vs, r :: as, h => by
    obtain ⟨T, e1, e2⟩ := h.2 0 r rfl
    obtain rfl : v = .ref T := Option.some.inj e1
    refine .cons (.tup (SqT.of e2) (.cons (.str _) (.cons (.str _) (.cons (.int _) .nil)))) (Tups.dp ⟨by simpa using h.1, fun i q e => ?_⟩)
    exact h.2 (i + 1) q e
def okNum (n : Int) : Prop := n.natAbs < 10 ^ 40
structure TxtK (K : PySem.W.Frag) (mg : Str → Option Value) (fD fN fP : Addr) (fdD fdN fdP : FuncData) : Prop where
  gD : mg "_law_draw" = some (.ref fD)
  kD : PySem.W.keepIn K (.ref fD) = true
  bD : Binds K fdD ["stream", "total"] []
  gN : mg "_law_names" = some (.ref fN)
  kN : PySem.W.keepIn K (.ref fN) = true
  bN : Binds K fdN ["stream", "total"] []
  gP : mg "_law_pick" = some (.ref fP)
  kP : PySem.W.keepIn K (.ref fP) = true
  bP : Binds K fdP ["stream", "items"] []
  range : mg "range" = none
  tuple : mg "tuple" = none
/-- _law_arcs(stream, total, most) -/
def spLArcs (K : PySem.W.Frag) : Sp := fun vs H Q _ => ∃ (l : Addr) (t m : Int), vs = [.ref l, .int t, .int m] ∧ St3 H l ∧ 1 ≤ t ∧ t ≤ 19 ∧ 0 ≤ m ∧ m ≤ 100 ∧
  ∀ (p : Addr) (H' : Hp) (as : List Arc), Aft l H H' → H p = none → ArcsAt K (delH H' l) p as → okArcs as = true → as.length ≤ m → (∀ r ∈ as, okNum r.2.2) → Q (.ref p) H'
section
variable {P : Program} {w : World} {K : PySem.W.Frag} {mg : Str → Option Value} {base : Heap}
theorem scLA : FnScope ["stream", "total", "most", "names", "great", "numbers", "found", "turn"] ["stream", "total", "most"] (defScope sArcs) := ⟨rfl, rfl, rfl, by decide +kernel, rfl, by decide +kernel, by decide +kernel⟩
theorem ok_larcs {f fD fN fP : Addr} {fd fdD fdN fdP : FuncData} (F : Fun K "_law_arcs" "_law_arcs" sArcs f fd) (GD : FnOk P w K mg base CX0 1 fD fdD ["stream", "total"] spDraw) (GN : FnOk P w K mg base CX0 3 fN fdN ["stream", "total"] (spLNames K))
    (GP : FnOk P w K mg base CX0 2 fP fdP ["stream", "items"] (spPick K)) (T : TxtK K mg fD fN fP fdD fdN fdP) : FnOk P w K mg base CX0 4 f fd ["stream", "total", "most"] (spLArcs K) := by
  refine F.ok scLA (fun vs H Q E h => ?_) (fun cdv A outer s H vs Q E hr h => ?_)
  · obtain ⟨l, t, m, rfl, _⟩ := h
    rfl
  · obtain ⟨l, t, m, rfl, hS, t1, t19, m0, m100, k⟩ := h
    refine ⟨_, (pss_cons (ps_set (i := 3) scLA.nd rfl (.inl rfl) (pe_call GN hr rfl T.gN T.kN T.bN .nil pass0 (pa_cons (pv 0) (pa_cons (pe_op op_add pe_int (pe_call GD (hr.mono (by decide)) rfl T.gD T.kD T.bD .nil pass0 (pa_cons (pv 0) (pa_cons (pv 1) pa_nil)))) pa_nil))))
      (pss_cons (ps_set (i := 4) scLA.nd rfl (.inl rfl) (pe_lst (pa_cons (pe_op op_pow pe_int pe_int) (pa_cons (pe_op op_sub pe_int (pe_op op_pow pe_int pe_int)) (pa_cons (pe_un un_neg pe_int) (pa_cons pe_int (pa_cons pe_int pa_nil)))))))
      (pss_cons (ps_set (i := 5) scLA.nd rfl (.inl rfl) (pe_call GP (hr.mono (by decide)) rfl T.gP T.kP T.bP .nil pass0 (pa_cons (pv 0) (pa_cons (pe_lst (pa_cons (pe_lst (pa_cons pe_int (pa_cons pe_int (pa_cons pe_int (pa_cons pe_int (pa_cons pe_int (pa_cons (pe_un un_neg pe_int) pa_nil))))))) (pa_cons (pe_lst (pa_cons (pe_un un_neg pe_int) (pa_cons (pe_un un_neg pe_int) (pa_cons pe_int (pa_cons pe_int (pa_cons pe_int pa_nil)))))) (pa_cons (pe_lst (pa_cons pe_int (pa_cons pe_int (pa_cons pe_int pa_nil)))) (pa_cons (pv 4) pa_nil))))) pa_nil))))
      (pss_cons (ps_set (i := 6) scLA.nd rfl (.inl rfl) (pe_lst pa_nil))
      (pss_cons (ps_for PassesOwn.never rfl (pi_range1 (by rfl) T.range (pa_cons (pe_call GD (hr.mono (by decide)) rfl T.gD T.kD T.bD .nil pass0 (pa_cons (pv 0) (pa_cons (pe_op op_add (pv 2) pe_int) pa_nil))) pa_nil)) (pg_name (i := 7) scLA.nd rfl (.inl rfl))
        (pss_one (ps_expr (pe_bm PySem.F.plainAttrs_list PySem.F.slot_list_append PySem.F.type_list_append mt_append (pv 6) (pa_cons (pe_tup (pa_cons (pe_call GP (hr.mono (by decide)) rfl T.gP T.kP T.bP .nil pass0 (pa_cons (pv 0) (pa_cons (pv 3) pa_nil))) (pa_cons (pe_call GP (hr.mono (by decide)) rfl T.gP T.kP T.bP .nil pass0 (pa_cons (pv 0) (pa_cons (pv 3) pa_nil))) (pa_cons (pe_call GP (hr.mono (by decide)) rfl T.gP T.kP T.bP .nil pass0 (pa_cons (pv 0) (pa_cons (pv 5) pa_nil))) pa_nil)))) pa_nil)))))
      (pss_one (ps_ret (pe_callTy call_tuple_of (by rfl) T.tuple (by decide +kernel) (pa_cons (pv 6) pa_nil))))))))), ?_⟩
    have A0 : Aft l H H := Aft.refl hS
    refine ⟨_, rfl, _, rfl, _, rfl, l, _, rfl, hS, by omega, by omega, fun n x y z n0 n1 => ⟨_, _, rfl, rfl, l, _, rfl, A0.draw.st, by omega, by omega, fun pN H1 ns a1 f1 eN l1 l20 good => ?_⟩⟩
    have A1 : Aft l H H1 := A0.draw.trans a1
    have nN : pN ≠ l := by
      rintro rfl
      obtain ⟨x, y, z, e⟩ := hS
      have f1 : (upd H pN _) pN = none := f1
      rw [upd_same] at f1
      cases f1
    clear a1
    refine ⟨_, _, rfl, rfl, ⟨by decide, by decide, by decide⟩, _, _, rfl, rfl, ⟨by decide, by decide, by decide⟩, _, _, rfl, rfl, 3, rfl, (by show 5 ≤ sizeLine; decide), fun pG hG => ?_⟩
    have fG : H pG = none := A1.free hG
    have A2 := A1.put (o := .lst [.int (10 ^ (39 : Int).toNat), .int (3 - 10 ^ (39 : Int).toNat), .int (-3), .int 7, .int 0]) fG (A1.ne hG)
    have eG : (upd H1 pG (.lst [.int (10 ^ (39 : Int).toNat), .int (3 - 10 ^ (39 : Int).toNat), .int (-3), .int 7, .int 0])) pG = _ := upd_same
    have nG := A1.ne hG
    have eN2 : (upd H1 pG (.lst [.int (10 ^ (39 : Int).toNat), .int (3 - 10 ^ (39 : Int).toNat), .int (-3), .int 7, .int 0])) pN = some (.lst (ns.map V.str)) := same_one (Same.refl H1) hG _ _ eN
    generalize upd H1 pG (.lst [.int (10 ^ (39 : Int).toNat), .int (3 - 10 ^ (39 : Int).toNat), .int (-3), .int 7, .int 0]) = X1 at A2 eG eN2 ⊢
    refine ⟨_, rfl, 1, rfl, (by show 6 ≤ sizeLine; decide), fun q1 h1 => ?_⟩
    have A3 := A2.put (o := .lst [.int 0, .int 1, .int 2, .int 3, .int 4, .int (-1)]) (A2.free h1) (A2.ne h1)
    have S3 : Same X1 (upd X1 q1 (.lst [.int 0, .int 1, .int 2, .int 3, .int 4, .int (-1)])) := same_one (Same.refl X1) h1
    have e3 : (upd X1 q1 (.lst [.int 0, .int 1, .int 2, .int 3, .int 4, .int (-1)])) q1 = some (.lst [.int 0, .int 1, .int 2, .int 3, .int 4, .int (-1)]) := upd_same
    have n3 := A2.ne h1
    generalize upd X1 q1 (.lst [.int 0, .int 1, .int 2, .int 3, .int 4, .int (-1)]) = X2 at A3 S3 e3 ⊢
    refine ⟨2, rfl, 1, rfl, (by show 5 ≤ sizeLine; decide), fun q2 h2 => ?_⟩
    have A4 := A3.put (o := .lst [.int (-2), .int (-1), .int 0, .int 1, .int 2]) (A3.free h2) (A3.ne h2)
    have S4 : Same X2 (upd X2 q2 (.lst [.int (-2), .int (-1), .int 0, .int 1, .int 2])) := same_one (Same.refl X2) h2
    have e4 : (upd X2 q2 (.lst [.int (-2), .int (-1), .int 0, .int 1, .int 2])) q2 = some (.lst [.int (-2), .int (-1), .int 0, .int 1, .int 2]) := upd_same
    have n4 := A3.ne h2
    generalize upd X2 q2 (.lst [.int (-2), .int (-1), .int 0, .int 1, .int 2]) = X3 at A4 S4 e4 ⊢
    refine ⟨(by show 3 ≤ sizeLine; decide), fun q3 h3 => ?_⟩
    have A5 := A4.put (o := .lst [.int 0, .int 0, .int 1]) (A4.free h3) (A4.ne h3)
    have S5 : Same X3 (upd X3 q3 (.lst [.int 0, .int 0, .int 1])) := same_one (Same.refl X3) h3
    have e5 : (upd X3 q3 (.lst [.int 0, .int 0, .int 1])) q3 = some (.lst [.int 0, .int 0, .int 1]) := upd_same
    have n5 := A4.ne h3
    generalize upd X3 q3 (.lst [.int 0, .int 0, .int 1]) = X4 at A5 S5 e5 ⊢
    refine ⟨_, rfl, (by show 4 ≤ sizeLine; decide), fun q4 h4 => ?_⟩
    have A6 := A5.put (o := .lst [.ref q1, .ref q2, .ref q3, .ref pG]) (A5.free h4) (A5.ne h4)
    have S6 : Same X4 (upd X4 q4 (.lst [.ref q1, .ref q2, .ref q3, .ref pG])) := same_one (Same.refl X4) h4
    have e6 : (upd X4 q4 (.lst [.ref q1, .ref q2, .ref q3, .ref pG])) q4 = some (.lst [.ref q1, .ref q2, .ref q3, .ref pG]) := upd_same
    have n6 := A5.ne h4
    generalize upd X4 q4 (.lst [.ref q1, .ref q2, .ref q3, .ref pG]) = X5 at A6 S6 e6 ⊢
    have ePick : ∀ v ∈ ([.ref q1, .ref q2, .ref q3, .ref pG] : List V), ∃ (b : Addr) (ks : List Int), v = .ref b ∧ X5 b = some (.lst (ks.map V.int)) ∧ b ≠ l ∧ 0 < ks.length ∧ ks.length < 1000000 ∧ ∀ n ∈ ks, okNum n := fun v hv => by
      have g1 := S6 _ _ (S5 _ _ (S4 _ _ e3))
      have g2 := S6 _ _ (S5 _ _ e4)
      have g3 := S6 _ _ e5
      have g4 := S6 _ _ (S5 _ _ (S4 _ _ (S3 _ _ eG)))
      rcases List.mem_cons.mp hv with rfl | hv
      · exact ⟨q1, [0, 1, 2, 3, 4, -1], rfl, g1, n3, by decide, by decide, by unfold okNum; decide⟩
      rcases List.mem_cons.mp hv with rfl | hv
      · exact ⟨q2, [-2, -1, 0, 1, 2], rfl, g2, n4, by decide, by decide, by unfold okNum; decide⟩
      rcases List.mem_cons.mp hv with rfl | hv
      · exact ⟨q3, [0, 0, 1], rfl, g3, n5, by decide, by decide, by unfold okNum; decide⟩
      rcases List.mem_cons.mp hv with rfl | hv
      · exact ⟨pG, [10 ^ (39 : Int).toNat, 3 - 10 ^ (39 : Int).toNat, -3, 7, 0], rfl, g4, nG, by decide, by decide, by unfold okNum; decide +kernel⟩
      · cases hv
    have eN6 : X5 pN = some (.lst (ns.map V.str)) := S6 _ _ (S5 _ _ (S4 _ _ (S3 _ _ eN2)))
    clear e3 e4 e5 eG eN2 S3 S4 S5 S6
    refine ⟨l, q4, _, rfl, A6.st, n6, .inl (SqL.of e6), (by show 0 < 4; decide), (by show 4 < 1000000; decide), fun v x y z hv => ?_⟩
    obtain ⟨b, ks, rfl, eb, nb, kpos, kfew, knum⟩ := ePick v hv
    have A7 : Aft l H (upd X5 l (.lst [.int x, .int y, .int z])) := A6.draw
    have eN7 : (upd X5 l (.lst [.int x, .int y, .int z])) pN = _ := (upd_ne nN).trans eN6
    have eb7 : (upd X5 l (.lst [.int x, .int y, .int z])) b = _ := (upd_ne nb).trans eb
    generalize upd X5 l (.lst [.int x, .int y, .int z]) = Y at A7 eN7 eb7 ⊢
    clear e6 eN6 eb ePick A6 A5 A4 A3 A2
    refine ⟨(by show 0 ≤ sizeLine; decide), fun F hF => ?_⟩
    have fF : H F = none := A7.free hF
    have nF := A7.ne hF
    -- from here on all is told against Y, which has no F
    have A8 : Aft l Y (upd Y F (.lst [])) := (Aft.refl A7.st).put hF nF
    refine ⟨_, rfl, _, rfl, _, _, rfl, rfl, l, _, rfl, A8.st, by omega, by omega, fun n x y z n0 n1 => ?_⟩
    obtain ⟨N, rfl⟩ := Int.eq_ofNat_of_zero_le n0
    refine ⟨_, rfl, by omega, by omega, for_it (walk_range (lo := 0) (n := N)) (fun i σ H1 => Aft l Y H1 ∧ (∃ u, σ = [some (.ref l), some (.int t), some (.int m), some (.ref pN), some (.ref pG), some (.ref b), some (.ref F), u]) ∧ ∃ vs as, H1 F = some (.lst vs) ∧ Tups H1 vs as ∧ as.length = i ∧ (∀ r ∈ as, nameB (.str r.1) = true ∧ nameB (.str r.2.1) = true ∧ okNum r.2.2))
      ⟨A8.draw, ⟨_, rfl⟩, [], [], (upd_ne nF).trans upd_same, ⟨rfl, fun i r e => by cases e⟩, rfl, fun r hr => by cases hr⟩ (fun _ _ _ _ _ => trivial) (fun i v σ H1 H2 hi ⟨a1, ⟨u, eσ⟩, vs, as, eF, tp, hl, ok⟩ ⟨e, ev⟩ => ?_) fun σ H1 ⟨a1, ⟨u, eσ⟩, vs, as, eF, tp, hl, ok⟩ => ?_⟩
    · subst e ev eσ
      have draw : ∀ {H3 : Hp} {x y z : Int}, Aft l Y H3 → H3 F = some (.lst vs) → Tups H3 vs as → Aft l Y (upd H3 l (.lst [.int x, .int y, .int z])) ∧ (upd H3 l (.lst [.int x, .int y, .int z])) F = some (.lst vs) ∧ Tups (upd H3 l (.lst [.int x, .int y, .int z])) vs as := fun {H3 x y z} a e tp => by
        obtain ⟨x', y', z', q⟩ := a.st
        exact ⟨a.draw, (upd_ne nF).trans e, tp.later (TS.lst q)⟩
      have nl : (ns.map V.str).length = ns.length := List.length_map _
      have nk : (ks.map V.int).length = ks.length := List.length_map _
      refine ⟨_, rfl, .inl ⟨rfl, _, SqL.of eF⟩, _, rfl, _, rfl, l, pN, _, rfl, a1.st, nN, .inl (SqL.of (a1.at eN7 nN)), by omega, by omega, fun v1 x1 y1 z1 h1 => ?_⟩
      obtain ⟨a2, eF2, tp2⟩ := draw (x := x1) (y := y1) (z := z1) a1 eF tp
      generalize upd H2 l (.lst [.int x1, .int y1, .int z1]) = X2 at a2 eF2 tp2 ⊢
      refine ⟨_, rfl, _, rfl, l, pN, _, rfl, a2.st, nN, .inl (SqL.of (a2.at eN7 nN)), by omega, by omega, fun v2 x2 y2 z2 h2 => ?_⟩
      obtain ⟨a3, eF3, tp3⟩ := draw (x := x2) (y := y2) (z := z2) a2 eF2 tp2
      generalize upd X2 l (.lst [.int x2, .int y2, .int z2]) = X3 at a3 eF3 tp3 ⊢
      refine ⟨_, rfl, _, rfl, l, b, _, rfl, a3.st, nb, .inl (SqL.of (a3.at eb7 nb)), by omega, by omega, fun v3 x3 y3 z3 h3 => ?_⟩
      obtain ⟨a4, eF4, tp4⟩ := draw (x := x3) (y := y3) (z := z3) a3 eF3 tp3
      generalize upd X3 l (.lst [.int x3, .int y3, .int z3]) = X4 at a4 eF4 tp4 ⊢
      obtain ⟨s1, m1, rfl⟩ := List.mem_map.mp h1
      obtain ⟨s2, m2, rfl⟩ := List.mem_map.mp h2
      obtain ⟨i3, m3, rfl⟩ := List.mem_map.mp h3
      refine ⟨(by show 3 ≤ sizeLine; decide), fun T hT => ?_⟩
      have nTF : F ≠ T := by
        rintro rfl
        rw [hT] at eF4
        cases eF4
      have a5 := a4.put (o := .tup [.str s1, .str s2, .int i3]) (a4.free hT) (a4.ne hT)
      have eF5 : (upd X4 T (.tup [.str s1, .str s2, .int i3])) F = some (.lst vs) := (upd_ne nTF).trans eF4
      have tp5 : Tups (upd X4 T (.tup [.str s1, .str s2, .int i3])) vs as := tp4.later (TS.new hT)
      have eT : (upd X4 T (.tup [.str s1, .str s2, .int i3])) T = some (.tup [.str s1, .str s2, .int i3]) := upd_same
      generalize upd X4 T (.tup [.str s1, .str s2, .int i3]) = X5 at a5 eF5 tp5 eT ⊢
      refine ⟨F, vs, .ref T, rfl, rfl, eF5, ?_, a5.put hF nF, ⟨_, rfl⟩, vs ++ [.ref T], as ++ [(s1, s2, i3)], upd_same, (tp5.snoc (r := (s1, s2, i3)) eT).later (TS.lst eF5), by rw [List.length_append, hl]; rfl, fun r hr => ?_⟩
      · rw [tp.1, hl]
        have z : sizeLine = 16777216 := sizeLine_eq
        omega
      · rcases List.mem_append.mp hr with h | h
        · exact ok r h
        · rw [List.mem_singleton.mp h]
          exact ⟨good s1 m1, good s2 m2, knum i3 m3⟩
    · subst eσ
      refine ⟨_, rfl, F, vs, rfl, .inl ⟨SqL.of eF, fun p hp => ?_⟩⟩
      have a0 := A7.trans a1
      have np := a0.ne hp
      have hY : Y p = none := a1.free hp
      refine k p _ as (A7.trans (a1.put hY np)) (a0.free hp) ⟨vs, SqT.of (by rw [delH_ne np]; exact upd_same), Tups.dp ⟨tp.1, fun i r e => ?_⟩⟩ ?_ (by omega) fun r hr => (ok r hr).2.2
      · obtain ⟨T, e1, e2⟩ := tp.2 i r e
        have nT : T ≠ l := by
          rintro rfl
          obtain ⟨x, y, z, q⟩ := a1.st
          rw [q] at e2
          cases e2
        exact ⟨T, e1, by rw [delH_ne nT]; exact TS.new hp _ _ e2⟩
      · unfold okArcs
        rw [Bool.and_eq_true]
        refine ⟨decide_eq_true (by omega), List.all_eq_true.mpr fun r hr => ?_⟩
        rw [(ok r hr).1, (ok r hr).2.1]
        rfl
end
end K01

set_option Elab.async false
set_option linter.all false
set_option maxRecDepth 100000
set_option maxHeartbeats 4000000
namespace K01
open PySem PySem.Spec PyProof.Rows L2 LW RZ
abbrev sWalk : Stmt := top 27
theorem shaped_lstI (l : List Nat) : SeqAt.shaped (.list (l.map fun (i : Nat) => PyData.int (i : Int))) = true := by
  have h1 : ∀ l : List Nat, PyData.canLayAll0 (l.map fun (i : Nat) => PyData.int (i : Int)) = true := fun l => by
    induction l with
    | nil => rfl
    | cons a l ih => simp [PyData.canLayAll0, PyData.canLay0, ih]
  have h2 : ∀ l : List Nat, PyData.depthAll (l.map fun (i : Nat) => PyData.int (i : Int)) = 0 := fun l => by
    induction l with
    | nil => rfl
    | cons a l ih => simp [PyData.depthAll, PyData.depth, ih]
  simp [SeqAt.shaped, PyData.canLay0, PyData.depth, h1, h2]
theorem eqv_noneL (l : List Nat) : PyData.eqv (.list (l.map fun (i : Nat) => PyData.int (i : Int))) (.list []) = l.isEmpty := by
  cases l with
  | nil => rfl
  | cons a l => rfl
abbrev vI (l : List Nat) : List V := l.map fun (i : Nat) => V.int (i : Int)
theorem vI_snoc (l : List Nat) (j : Nat) : vI l ++ [V.int (j : Int)] = vI (l ++ [j]) := by simp [vI]
/-- _law_walk(stream, arcs, most) -/
def spWalk (K : PySem.W.Frag) : Sp := fun vs H Q _ => ∃ (l a : Addr) (as : List Arc) (m : Int), vs = [.ref l, .ref a, .int m] ∧ St3 H l ∧ ArcsAt K (delH H l) a as ∧ as.length ≤ 500 ∧ 0 ≤ m ∧ m ≤ 100 ∧
  ∀ (p : Addr) (H' : Hp) (is : List Nat), Aft l H H' → H p = none → H' p = some (.tup (vI is)) → is.length ≤ m → (∀ i ∈ is, i < as.length) → Q (.ref p) H'
structure TxtV (K : PySem.W.Frag) (mg : Str → Option Value) (fD fP : Addr) (fdD fdP : FuncData) : Prop where
  gD : mg "_law_draw" = some (.ref fD)
  kD : PySem.W.keepIn K (.ref fD) = true
  bD : Binds K fdD ["stream", "total"] []
  gP : mg "_law_pick" = some (.ref fP)
  kP : PySem.W.keepIn K (.ref fP) = true
  bP : Binds K fdP ["stream", "items"] []
  range : mg "range" = none
  tuple : mg "tuple" = none
  enumerate : mg "enumerate" = none
section
variable {P : Program} {w : World} {K : PySem.W.Frag} {mg : Str → Option Value} {base : Heap}
theorem scWalk : FnScope ["stream", "arcs", "most", "found", "turn", "some", "at", "arc"] ["stream", "arcs", "most"] (defScope sWalk) := ⟨rfl, rfl, rfl, by decide +kernel, rfl, by decide +kernel, by decide +kernel⟩
theorem ok_walk {f fD fP : Addr} {fd fdD fdP : FuncData} (F : Fun K "_law_walk" "_law_walk" sWalk f fd) (GD : FnOk P w K mg base CX0 1 fD fdD ["stream", "total"] spDraw) (GP : FnOk P w K mg base CX0 2 fP fdP ["stream", "items"] (spPick K)) (T : TxtV K mg fD fP fdD fdP) :
    FnOk P w K mg base CX0 3 f fd ["stream", "arcs", "most"] (spWalk K) := by
  refine F.ok scWalk (fun vs H Q E h => ?_) (fun cdv A outer s H vs Q E hr h => ?_)
  · obtain ⟨l, a, as, m, rfl, _⟩ := h
    rfl
  · obtain ⟨l, a, as, m, rfl, hS, hA, few, m0, m100, k⟩ := h
    refine ⟨_, (pss_cons (ps_set (i := 3) scWalk.nd rfl (.inr rfl) (pe_lst pa_nil))
      (pss_cons (ps_for PassesOwn.never rfl (pi_range1 (by rfl) T.range (pa_cons (pe_call GD (hr.mono (by decide)) rfl T.gD T.kD T.bD .nil pass0 (pa_cons (pv 0) (pa_cons (pe_op op_add (pv 2) pe_int) pa_nil))) pa_nil)) (pg_name (i := 4) scWalk.nd rfl (.inl rfl))
        (pss_cons (ps_setLc (i := 5) (own := [("at", 6), ("arc", 7)]) (g := _) rfl scWalk.nd rfl rfl (sw_true rfl rfl rfl (by decide +kernel)) (pi_enumT (by rfl) T.enumerate (pa_cons (pv 1) pa_nil)) (blkOk_by (own := [("at", 6), ("arc", 7)]) (N := ["stream", "arcs", "most", "found", "turn", "some", "at", "arc"]) (sc := defScope sWalk) (by decide +kernel)) (fun _ _ _ _ _ => (pg_tupK (n := 2) K rfl (pgs_cons (pg_name (i := 6) scWalk.nd rfl (.inl rfl)) (pgs_cons (pg_name (i := 7) scWalk.nd rfl (.inl rfl)) pgs_nil)))) (fun _ _ _ _ _ => (pts_one (PW.pt (pw_or (pt_cmpR (op_eqDK K hr.units) (pv 3) (pe_lst pa_nil) (nomark _)) (pw_or1 (pt_cmpR op_eq (pe_ix (ix_tupK K) (pv 7) pe_int (fun _ _ => rfl)) (pe_ix (ix_tupK K) (pe_ix (ix_tupK K) (pv 1) (pe_ix (ix_listK K) (pv 3) (pe_un un_neg pe_int) (fun _ _ => rfl)) (fun _ _ => rfl)) pe_int (fun _ _ => rfl)) (nomark _))))))) (fun _ _ _ _ _ => (pv 6)))
        (pss_one (ps_if (pt_cmpR (op_neD hr.units) (pv 5) (pe_lst pa_nil) (nomark _))
          (pss_one (ps_expr (pe_bm PySem.F.plainAttrs_list PySem.F.slot_list_append PySem.F.type_list_append mt_append (pv 3) (pa_cons (pe_call GP hr rfl T.gP T.kP T.bP .nil pass0 (pa_cons (pv 0) (pa_cons (pv 5) pa_nil))) pa_nil))))
          pss_nil))))
      (pss_one (ps_ret (pe_callTy call_tuple_of (by rfl) T.tuple (by decide +kernel) (pa_cons (pv 3) pa_nil)))))), ?_⟩
    refine ⟨(by show 0 ≤ sizeLine; decide), fun B hB => ?_⟩
    have A0 : Aft l H H := Aft.refl hS
    have nB := A0.ne hB
    have A1 : Aft l H (upd H B (.lst [])) := A0.put hB nB
    refine ⟨_, rfl, _, rfl, _, _, rfl, rfl, l, _, rfl, A1.st, by omega, by omega, fun n x y z n0 n1 => ?_⟩
    obtain ⟨N, rfl⟩ := Int.eq_ofNat_of_zero_le n0
    refine ⟨_, rfl, by omega, by omega, for_it (walk_range (lo := 0) (n := N)) (fun i σ H1 => Aft l H H1 ∧ (∃ u w, σ = [some (.ref l), some (.ref a), some (.int m), some (.ref B), u, w, none, none]) ∧ ∃ is : List Nat, H1 B = some (.lst (vI is)) ∧ is.length ≤ i ∧ ∀ j ∈ is, j < as.length)
      ⟨A1.draw, ⟨_, _, rfl⟩, [], (upd_ne nB).trans upd_same, Nat.le_refl _, fun j hj => by cases hj⟩ (fun _ _ _ _ _ => trivial) (fun i v σ H1 H2 hi ⟨a1, ⟨u, w, eσ⟩, is, eB, hl, ok⟩ ⟨e, ev⟩ => ?_) fun σ H1 ⟨a1, ⟨u, w, eσ⟩, is, eB, hl, ok⟩ => ?_⟩
    · subst e ev eσ
      obtain ⟨xs, hT, hX⟩ := (hA.same a1.same).same delH_le
      have hx : xs.length = as.length := by rw [hX.len, List.length_map]
      have line : sizeLine = 16777216 := sizeLine_eq
      refine ⟨_, rfl, a, xs, rfl, hT, fun D hD => lc_it (walk_enumT (xs := xs)) (fun j H3 => Aft l H H3 ∧ Same H2 H3 ∧ ∃ ss : List Nat, H3 D = some (.lst (vI ss)) ∧ ss.length ≤ j ∧ ∀ s ∈ ss, s < as.length)
        ⟨a1.put (a1.free hD) (a1.ne hD), same_one (Same.refl _) hD, [], upd_same, Nat.le_refl _, fun s hs => by cases hs⟩ (fun j H3 _ h => sameT h.2.1 hT) (fun j v H3 H4 hj ⟨a3, s3, ss, eD, hls, oks⟩ ⟨T0, y, z, ev, hT0, e4, ey, ez⟩ => ?_) fun H3 ⟨a3, s3, ss, eD, hls, oks⟩ => ?_⟩
      · subst ev e4
        have hj' : j < as.length := by rw [← hx]; exact hj
        obtain rfl : V.int (j : Nat) = y := Option.some.inj ey
        obtain ⟨c, ec, hc⟩ := ArcsAt.get hX hj'
        obtain rfl : z = .ref c := Option.some.inj ((show xs[j]? = some z from ez).symm.trans ec)
        have s4 := same_one s3 (o := .tup [.int (j : Nat), .ref c]) (s3.free hT0)
        have a4 := a3.put (o := .tup [.int (j : Nat), .ref c]) (a3.free hT0) (a3.ne hT0)
        have eD4 : (upd H3 T0 (.tup [.int (j : Nat), .ref c])) D = some (.lst (vI ss)) := same_one (Same.refl H3) hT0 _ _ eD
        have hp : SqT K (upd H3 T0 (.tup [.int (j : Nat), .ref c])) T0 [.int (j : Nat), .ref c] := SqT.of upd_same
        generalize upd H3 T0 (.tup [.int (j : Nat), .ref c]) = X4 at s4 a4 eD4 hp ⊢
        refine ⟨T0, _, rfl, hp, rfl, _, _, rfl, _, _, rfl, rfl, rfl, _, rfl, (by show 0 ≤ sizeLine; decide), fun p hp' => ?_⟩
        have s5 := same_one s4 (o := .lst []) (s4.free hp')
        have a5 := a4.put (o := .lst []) (a4.free hp') (a4.ne hp')
        have eD5 : (upd X4 p (.lst [])) D = some (.lst (vI ss)) := same_one (Same.refl X4) hp' _ _ eD4
        have ep : (upd X4 p (.lst [])) p = some (.lst []) := upd_same
        generalize upd X4 p (.lst []) = X5 at s5 a5 eD5 ep ⊢
        have eB5 := s5 _ _ eB
        have nD : D ≠ l := a1.ne hD
        have keep : ∃ acc, X5 D = some (.lst acc) ∧ acc.length < sizeLine ∧ (Aft l H (upd X5 D (.lst (acc ++ [.int (j : Nat)]))) ∧ Same H2 (upd X5 D (.lst (acc ++ [.int (j : Nat)]))) ∧ ∃ ss : List Nat, (upd X5 D (.lst (acc ++ [.int (j : Nat)]))) D = some (.lst (vI ss)) ∧ ss.length ≤ j + 1 ∧ ∀ s ∈ ss, s < as.length) :=
          ⟨_, eD5, by rw [List.length_map]; omega, a5.put (a1.free hD) nD, same_one s5 hD, ss ++ [j], upd_same.trans (by rw [vI_snoc]), by rw [List.length_append, List.length_singleton]; omega, fun s hs => by
            rcases List.mem_append.mp hs with h | h
            · exact oks s h
            · rw [List.mem_singleton.mp h]
              exact hj'⟩
        refine ⟨_, _, .lst (SqL.of eB5) (dp_ints is), .lst (SqL.of ep) .nil, shaped_lstI is, rfl, _, rfl, ?_⟩
        rw [eqv_noneL]
        by_cases hne : is = []
        · exact ifT (by rw [hne]; rfl) ⟨_, rfl, keep⟩
        · have h1 : is.getLastD 0 < as.length := ok _ (last_mem hne)
          have hA5 : ArcsAt K X5 a as := ⟨xs, sameT s5 hT, DpXAll.same s5 hX⟩
          obtain ⟨xs1, c1, t1, b1, u1⟩ := arc_at hA5 h1
          refine ifF (by cases is; exact absurd rfl hne; rfl) ?_
          refine ⟨_, rfl, c, _, _, _, rfl, rfl, sameT s5 hc, rfl, _, rfl, _, rfl, 1, rfl, B, _, -1, _, rfl, rfl, SqL.of eB5, at_last hne, a, xs1, (is.getLastD 0 : Nat), _, rfl, rfl, t1, b1, c1, _, _, _, rfl, rfl, u1, rfl, rfl, _, rfl, ite2 (fun _ => ⟨_, rfl, keep⟩) fun _ => ⟨a5, s5, ss, eD5, by omega, oks⟩⟩
      · have eB3 := s3 _ _ eB
        have nD : D ≠ l := a1.ne hD
        refine ⟨_, rfl, (by show 0 ≤ sizeLine; decide), fun p hp' => ?_⟩
        have s5 := same_one s3 (o := .lst []) (s3.free hp')
        have a5 := a3.put (o := .lst []) (a3.free hp') (a3.ne hp')
        have eD5 : (upd H3 p (.lst [])) D = some (.lst (vI ss)) := same_one (Same.refl H3) hp' _ _ eD
        have ep : (upd H3 p (.lst [])) p = some (.lst []) := upd_same
        generalize upd H3 p (.lst []) = X5 at s5 a5 eD5 ep ⊢
        have eB5 := s5 _ _ eB
        refine ⟨_, _, .lst (SqL.of eD5) (dp_ints ss), .lst (SqL.of ep) .nil, shaped_lstI ss, rfl, _, rfl, ?_⟩
        rw [eqv_noneL]
        by_cases hne : ss = []
        · exact ifF (by rw [hne]; rfl) ⟨a5, ⟨_, _, rfl⟩, is, eB5, by omega, ok⟩
        · refine ifT (by cases ss; exact absurd rfl hne; rfl) ?_
          have hpos : 0 < ss.length := List.length_pos_iff.mpr hne
          refine ⟨_, rfl, .inl ⟨rfl, _, SqL.of eB5⟩, _, rfl, _, rfl, l, D, _, rfl, a5.st, nD, .inl (SqL.of eD5), by rw [List.length_map]; exact hpos, by rw [List.length_map]; omega, fun v x y z hv => ?_⟩
          obtain ⟨s, ms, rfl⟩ := List.mem_map.mp hv
          have eB6 : (upd X5 l (.lst [.int x, .int y, .int z])) B = some (.lst (vI is)) := (upd_ne nB).trans eB5
          refine ⟨B, _, _, rfl, rfl, eB6, by rw [List.length_map]; omega, (a5.draw).put hB nB, ⟨_, _, rfl⟩, is ++ [s], upd_same.trans (by rw [vI_snoc]), by rw [List.length_append, List.length_singleton]; omega, fun j hj => ?_⟩
          rcases List.mem_append.mp hj with h | h
          · exact ok j h
          · rw [List.mem_singleton.mp h]
            exact oks s ms
    · subst eσ
      refine ⟨_, rfl, B, _, rfl, .inl ⟨SqL.of eB, fun p hp => ?_⟩⟩
      exact k p _ is (a1.put (a1.free hp) (a1.ne hp)) (a1.free hp) upd_same (by omega) ok
end
end K01

set_option Elab.async false
set_option linter.all false
set_option maxRecDepth 100000
set_option maxHeartbeats 2000000
/-! t[::-1] of a tuple; list(xs), with the word that it is not sys.modules; how long the repr of data may be. -/
namespace LW
open PySem PySem.Spec PyProof.Rows L2 RZ
section
variable {prog : Program} {w : World} {A : Around} {E : Value → Shared → Prop} {s : Shared}
/-- a slice without bounds, its step -1 -/
theorem applied_rev {sl : Addr} {u : Tok} {n : Nat} {Q : Int × Int × Nat → Shared → Prop} (hs : s.heap.IsSliceOf sl .none .none (.int (-1) u)) (h : Q ((n : Int) - 1, -1, n) s) : wpAny (model prog w) A (Builtin.Slice.sliceApplied (.ref sl) (pure (n : Int))) Q E s := by
  obtain ⟨os, hos, hcs, hds⟩ := id hs
  unfold Builtin.Slice.sliceApplied Builtin.Slice.sliceFields
  refine wpAny_bind (wpAny_bind (wpAny_field hos hds (x := .none) rfl (wpAny_bind (wpAny_field hos hds (x := .none) rfl (wpAny_bind (wpAny_field hos hds (x := .int (-1) u) rfl (wpAny_pure ?_)))))))
  refine wpAny_bind (HT.slicePart_ (.int (-1) u) ?_)
  show wpAny _ _ (if ((-1 : Int) == 0) = true then _ else _) _ _ s
  rw [if_neg (by decide)]
  refine wpAny_bind (HT.slicePart_ .none (wpAny_bind (HT.slicePart_ .none (wpAny_bind (wpAny_pure ?_)))))
  have e : Builtin.Slice.slicePlaces ((n : Int) - 1) (-1) (-1) = n := by
    unfold Builtin.Slice.slicePlaces
    rw [if_neg (show ¬ ((-1 : Int) > 0) by decide)]
    split
    · rw [show -(-1 : Int) = 1 from rfl, Int.ediv_one]
      omega
    · omega
  show wpAny _ _ (pure ((n : Int) - 1, (-1 : Int), Builtin.Slice.slicePlaces ((n : Int) - 1) (-1) (-1))) _ _ s
  rw [e]
  exact wpAny_pure h
theorem rev_go (xs : Array Value) : ∀ n : Nat, n ≤ xs.size → ((List.range n).filterMap fun (k : Nat) => xs[((n : Int) - 1 + (k : Int) * (-1)).toNat]?) = (xs.toList.take n).reverse
  | 0, _ => by simp
  | n + 1, h => by
    have hn : n < xs.toList.length := by rw [Array.length_toList]; omega
    rw [List.range_succ_eq_map, List.filterMap_cons, List.filterMap_map]
    have e0 : (((n + 1 : Nat) : Int) - 1 + ((0 : Nat) : Int) * (-1)).toNat = n := by omega
    rw [e0, Array.getElem?_eq_getElem (show n < xs.size by omega)]
    have e1 : ((fun (k : Nat) => xs[(((n + 1 : Nat) : Int) - 1 + (k : Int) * (-1)).toNat]?) ∘ Nat.succ) = fun (k : Nat) => xs[((n : Int) - 1 + (k : Int) * (-1)).toNat]? := by
      funext k
      show xs[(((n + 1 : Nat) : Int) - 1 + ((k + 1 : Nat) : Int) * (-1)).toNat]? = _
      rw [show (((n + 1 : Nat) : Int) - 1 + ((k + 1 : Nat) : Int) * (-1)).toNat = ((n : Int) - 1 + (k : Int) * (-1)).toNat by omega]
    rw [e1, rev_go xs n (by omega), List.take_add_one, List.getElem?_eq_getElem hn]
    show _ = (xs.toList.take n ++ [xs.toList[n]]).reverse
    rw [List.reverse_append]
    rfl
theorem rev_picked (xs : Array Value) : ((List.range xs.size).filterMap fun (k : Nat) => xs[((xs.size : Int) - 1 + (k : Int) * (-1)).toNat]?) = xs.toList.reverse := by
  rw [rev_go xs xs.size (Nat.le_refl _), ← Array.length_toList, List.take_length]
theorem getItem_tuple_rev {t sl : Addr} {items : Array Value} {u : Tok} {Q : Value → Shared → Prop} (ht : IsTup s.heap t items) (hs : s.heap.IsSliceOf sl .none .none (.int (-1) u)) (hz : items.size ≤ sizeLine)
    (h : Q (.ref s.heap.objs.size) { s with heap := s.heap.push { cls := .type "tuple", data := .seq items.toList.reverse.toArray } }) : wpAny (model prog w) A (getItem (.ref t) (.ref sl)) Q E s := by
  have hk : sizeOk (.seq items.toList.reverse.toArray) := by
    show items.toList.reverse.toArray.size ≤ sizeLine
    rw [List.size_toArray, List.length_reverse, Array.length_toList]
    exact hz
  obtain ⟨os, hos, hcs, hds⟩ := id hs
  unfold getItem
  try with_reducible refine wpAny_holding ?_
  first | refine wpAny_bind (wpAny_pure ?_) | skip
  refine wpAny_bind (wpAny_sequenceKey ht.typeIs (by decide) ?_)
  refine wpAny_bind (wpAny_callSpecial?_slot (name := Str.ofString "__getitem__") ht.typeIs PyProof.Rows.slot_tuple_getitem (wpAny_call_entry PyProof.Rows.slot_tuple_getitem ht.typeIs entry_tuple_getitem ?_ (args_tuple_getitem _ _)))
  show wpAny _ _ (Builtin.Tuple.tupleItemsOf (.ref t) >>= _) _ _ s
  refine wpAny_bind (tupleItemsOf_ ht (wpAny_bind (wpAny_typeOf ⟨os, hos, hcs⟩ ?_)))
  rw [if_pos (by decide)]
  refine wpAny_bind (applied_rev hs ?_)
  have no : ¬ ((((items.size : Int) - 1) == 0 && (-1 : Int) == 1 && items.size == items.size) = true) := by
    rw [show ((-1 : Int) == 1) = false from rfl, Bool.and_false, Bool.false_and]
    exact Bool.false_ne_true
  show wpAny _ _ (if (((items.size : Int) - 1) == 0 && (-1 : Int) == 1 && items.size == items.size) = true then _ else _) _ _ s
  rw [if_neg no, rev_picked]
  first
    | exact wpAny_bind (m := Builtin.Tuple.tupleExact _) (wpAny_newObj_type (wpAny_pure ⟨_, rfl, wpAny_pure h⟩) hk)
    | exact wpAny_bind (m := Builtin.Tuple.tupleExact _) (wpAny_newObj_type (wpAny_bind (wpAny_pure (wpAny_pure ⟨_, rfl, wpAny_pure h⟩))) hk)
    | exact wpAny_bind (wpAny_bind (m := Builtin.Tuple.tupleExact _) (wpAny_newObj_type (wpAny_pure (wpAny_pure ⟨_, rfl, wpAny_pure h⟩)) hk))
    | exact wpAny_bind (wpAny_bind (m := Builtin.Tuple.tupleExact _) (wpAny_newObj_type (wpAny_pure ⟨_, rfl, wpAny_pure h⟩) hk))
end
/-- t[::-1] -/
def tRevT (K : PySem.W.Frag) (te : TE) : TE := fun σ H Q => te σ H fun x H1 => ∃ a xs, x = .ref a ∧ SqT K H1 a xs ∧ ∀ p, H1 p = none → Q (.ref p) (upd H1 p (.tup xs.reverse))
section
variable {X : Cx}
theorem pe_revT {e : Expr} {te : TE} {k : Nat} {p1 p2 p3 pos : Pos} (he : PE X e te) : PE X (.Subscript e (.Slice none none (some (.UnaryOp .USub (.Constant (.int 1) k p1) p2)) p3) pos) (tRevT X.K te) := by
  refine ⟨fun pins s σ H Q I h => ?_⟩
  refine Subscript_ (thn (he.run pins s σ H _ I h) fun v s1 ⟨x, H1, I1, r1, a, xs, ex, hx, q⟩ => ?_)
  subst ex
  cases r1
  have hst : PO X (some (.UnaryOp .USub (.Constant (.int 1) k p1) p2)) (tPart (tUn (rU fun i => .int (-i)) (tC (.int 1)))) := po_some (pe_un un_neg pe_int)
  refine wpAny_Slice (thn (po_none.run pins s1 σ H1 (fun o H2 => o = none ∧ H2 = H1) I1 ⟨rfl, rfl⟩) fun vl s2 ⟨l, H2, I2, pl, el, e2⟩ => ?_)
  subst el e2
  refine thn (po_none.run pins s2 σ H2 (fun o H3 => o = none ∧ H3 = H2) I2 ⟨rfl, rfl⟩) fun vu s3 ⟨u, H3, I3, pu, eu, e3⟩ => ?_
  subst eu e3
  refine thn (hst.run pins s3 σ H3 (fun o H4 => o = some (-1) ∧ H4 = H3) I3 ⟨1, rfl, -1, rfl, rfl, rfl⟩) fun vs s4 ⟨o, H4, I4, ps, eo, e4⟩ => ?_
  subst eo e4
  cases pl
  cases pu
  cases ps with
  | int _ tk =>
    have I5 : Inv X pins σ H4 { s4 with heap := s4.heap.push { cls := .type "slice", data := .fields #[.none, .none, .int (-1) tk] } } := I4.kept (t' := s4.toks) fun b ob q => Heap.get?_push_of_some _ q
    obtain ⟨its, r, ht, hz⟩ := I5.tuple hx
    show wpAny (model X.prog X.w) X.A (subscriptTail e (.Slice none none (some (.UnaryOp .USub (.Constant (.int 1) k p1) p2)) p3) (.ref a) (.ref s4.heap.objs.size)) (EP X pins σ Q) X.xe { s4 with heap := s4.heap.push { cls := .type "slice", data := .fields #[.none, .none, .int (-1) tk] } }
    refine tail_any (ops := [.ref a, .ref s4.heap.objs.size]) ht.typeIs PyProof.Rows.slot_tuple_getitem.lookup ?_ (by with_unfolding_all rfl)
    refine getItem_tuple_rev ht (Heap.IsSliceOf.new _ _ _ _) (by rw [List.size_toArray, ← r.length]; exact hz) ?_
    refine ⟨.ref _, _, I5.laid (t' := s4.toks) (o := .tup xs.reverse) (fun b ob q => Heap.get?_push_of_some _ q) (Nat.le_refl _) ?_, rfl, q _ (I5.hok.fresh (Nat.le_refl _))⟩
    exact ⟨by rw [List.length_reverse]; exact hz, _, r.reverse, IsTup.new _ _⟩
/-- list(t), a tuple -/
def rListT (K : PySem.W.Frag) : List V → Hp → VK → Prop := fun xs H Q => ∃ p ys, xs = [.ref p] ∧ SqT K H p ys ∧ ∀ l, H l = none → l ≠ sysModules → Q (.ref l) (upd H l (.lst ys))
theorem call_listT : CallR X (.type "list") (rListT X.K) := by
  intro pins s σ H xs us Q I r h
  obtain ⟨p, ys, rfl, hq, q⟩ := h
  obtain rfl := Vals.ref1 r
  obtain ⟨its, rv, pl, hz⟩ := I.tuple hq
  obtain ⟨o, ho, hc, n, hd⟩ := pl
  refine call_list_seq p (.inr rfl) ho hc hd (fun h' c' kp e => ?_) (by rw [List.size_toArray, ← rv.length]; exact hz)
  exact ⟨.ref s.heap.objs.size, _, I.laid (t' := s.toks) kp (Nat.le_refl _) (show ObjOk X.prog X.w _ h' _ (.lst ys) from ⟨hz, its, c', rv, e⟩), rfl, q _ (I.hok.fresh (Nat.le_refl _)) (Nat.ne_of_gt I.big)⟩
end
/-! ### sizes -/
/-- data not deeper than k, its repr not longer than n -/
def Sz (k n : Nat) (d : PyData) : Prop := d.showable = true ∧ d.depth ≤ k ∧ d.shown.length ≤ n
theorem Sz.mono {k k' n n' : Nat} {d : PyData} (h : Sz k n d) (hk : k ≤ k') (hn : n ≤ n') : Sz k' n' d := ⟨h.1, Nat.le_trans h.2.1 hk, Nat.le_trans h.2.2 hn⟩
theorem Sz.int {i : Int} (h : i.natAbs < 10 ^ 40) : Sz 0 41 (.int i) := by
  refine ⟨decide_eq_true ?_, Nat.le_refl _, ?_⟩
  · by_cases h0 : i.natAbs = 0
    · rw [h0]
      decide
    · exact (Nat.log2_lt h0).mpr (Nat.lt_of_lt_of_le h (by decide +kernel))
  · show (Str.ofString (toString i)).length ≤ 41
    rw [PySem.ofString_length]
    exact int_text_length_le10 (by decide) h
theorem Sz.str {x : Str} {m : Nat} (h : ∀ c ∈ x.cps.toList, c < 16 ^ 8) (hm : x.length ≤ m) : Sz 0 (10 * m + 2) (.str x) := ⟨rfl, Nat.le_refl _, Nat.le_trans (PySem.StrLaws.reprText_len x h) (by omega)⟩
theorem Sz.all {k n : Nat} : ∀ {ds : List PyData}, (∀ d ∈ ds, Sz k n d) → PyData.showableAll ds = true ∧ PyData.depthAll ds ≤ k ∧ ((PyData.shownAll ds).map (·.length)).sum ≤ n * ds.length ∧ (PyData.shownAll ds).length = ds.length
  | [], _ => ⟨rfl, Nat.zero_le _, Nat.zero_le _, rfl⟩
  | d :: ds, h => by
    obtain ⟨a1, a2, a3⟩ := h d List.mem_cons_self
    obtain ⟨b1, b2, b3, b4⟩ := Sz.all (ds := ds) fun d hd => h d (List.mem_cons_of_mem _ hd)
    refine ⟨by simp only [PyData.showableAll, a1, b1, Bool.and_self], by simp only [PyData.depthAll]; omega, ?_, by simp only [PyData.shownAll, List.length_cons, b4]⟩
    simp only [PyData.shownAll, List.map_cons, List.sum_cons, List.length_cons, Nat.mul_add, Nat.mul_one]
    omega
theorem Sz.tup {k n : Nat} {ds : List PyData} (h : ∀ d ∈ ds, Sz k n d) : Sz (k + 1) ((n + 2) * ds.length + 3) (.tuple ds) := by
  obtain ⟨b1, b2, b3, b4⟩ := Sz.all h
  refine ⟨by simp only [PyData.showable, b1], by simp only [PyData.depth]; omega, ?_⟩
  have q := tupleText_len_le (PyData.shownAll ds)
  have e : (PyData.tuple ds).shown = tupleText (PyData.shownAll ds) := by simp only [PyData.shown]
  rw [e, Nat.add_mul]
  omega
theorem Sz.lst {k n : Nat} {ds : List PyData} (h : ∀ d ∈ ds, Sz k n d) : Sz (k + 1) ((n + 2) * ds.length + 3) (.list ds) := by
  obtain ⟨b1, b2, b3, b4⟩ := Sz.all h
  refine ⟨by simp only [PyData.showable, b1], by simp only [PyData.depth]; omega, ?_⟩
  have q := listText_len_le (PyData.shownAll ds)
  have e : (PyData.list ds).shown = listText (PyData.shownAll ds) := by simp only [PyData.shown]
  rw [e, Nat.add_mul]
  omega
theorem Sz.none : Sz 0 10 .none := ⟨rfl, Nat.le_refl _, by decide +kernel⟩
theorem Sz.bool (b : Bool) : Sz 0 10 (.bool b) := ⟨rfl, Nat.le_refl _, by cases b <;> decide +kernel⟩
theorem Sz.dict : Sz 1 10 (.dict []) := ⟨by simp [PyData.showable, PyData.showableKv], by simp [PyData.depth, PyData.depthKv], by decide +kernel⟩
end LW

set_option Elab.async false
set_option linter.all false
set_option maxRecDepth 100000
set_option maxHeartbeats 4000000
namespace K01
open PySem PySem.Spec PyProof.Rows L2 LW RZ
abbrev sNear : Stmt := top 30
/-- an item of a tuple -/
def okAtom (K : PySem.W.Frag) (v : V) : Prop := ∃ d, (∀ H, DpX K H v d) ∧ Sz 0 50 d
theorem atom_int {K : PySem.W.Frag} {i : Int} (h : i.natAbs < 10 ^ 40) : okAtom K (.int i) := ⟨_, fun H => .int i, (Sz.int h).mono (Nat.le_refl _) (by decide)⟩
theorem atom_bl {K : PySem.W.Frag} (b : Bool) : okAtom K (.bl b) := ⟨_, fun H => .bl b, (Sz.bool b).mono (Nat.le_refl _) (by decide)⟩
theorem atom_a {K : PySem.W.Frag} : okAtom K (.str "a") := ⟨_, fun H => .str _, (Sz.str (m := 1) (by decide +kernel) (by decide +kernel)).mono (Nat.le_refl _) (by decide)⟩
theorem atom_vI {K : PySem.W.Frag} {is : List Nat} (h : ∀ i ∈ is, i < 500) : ∀ v ∈ vI is, okAtom K v := fun v hv => by
  obtain ⟨i, hi, rfl⟩ := List.mem_map.mp hv
  exact atom_int (Nat.lt_of_lt_of_le (show (i : Int).natAbs < 500 by have := h i hi; omega) (by decide +kernel))
/-- a value that can be asked about -/
def Good (K : PySem.W.Frag) (l : Addr) (H : Hp) (v : V) : Prop := ∃ d, DpX K (delH H l) v d ∧ shortT d = true ∧ Sz 3 4000 d
theorem sqt_del {K : PySem.W.Frag} {l r : Addr} {H : Hp} {xs : List V} (h : St3 H l) (t : SqT K H r xs) : SqT K (delH H l) r xs := by
  obtain ⟨x, y, z, e⟩ := h
  have ne : ∀ o, H r = some o → (∀ ys, o ≠ .lst ys) → r ≠ l := by
    rintro o e2 n rfl
    rw [e] at e2
    exact n _ (Option.some.inj e2).symm
  rcases t with (t | ⟨o, t⟩) | t
  · exact .inl (.inl (by rw [delH_ne (ne _ t fun ys z => by cases z)]; exact t))
  · exact .inl (.inr ⟨o, by rw [delH_ne (ne _ t fun ys z => by cases z)]; exact t⟩)
  · exact .inr t
theorem atoms_all {K : PySem.W.Frag} {H : Hp} : ∀ {xs : List V}, (∀ v ∈ xs, okAtom K v) → ∃ ds, DpXAll K H xs ds ∧ ds.length = xs.length ∧ ∀ d ∈ ds, Sz 0 50 d
  | [], _ => ⟨[], .nil, rfl, fun d hd => by cases hd⟩
  | v :: xs, h => by
    obtain ⟨d, h1, h2⟩ := h v List.mem_cons_self
    obtain ⟨ds, g1, g2, g3⟩ := atoms_all (H := H) (xs := xs) fun v hv => h v (List.mem_cons_of_mem _ hv)
    refine ⟨d :: ds, .cons (h1 H) g1, by rw [List.length_cons, List.length_cons, g2], fun e he => ?_⟩
    rcases List.mem_cons.mp he with rfl | he
    · exact h2
    · exact g3 e he
theorem good_tup {K : PySem.W.Frag} {l r : Addr} {H : Hp} {xs : List V} (h : St3 H l) (t : SqT K H r xs) (ok : ∀ v ∈ xs, okAtom K v) (few : xs.length ≤ 30) : Good K l H (.ref r) := by
  obtain ⟨ds, g1, g2, g3⟩ := atoms_all (H := delH H l) ok
  refine ⟨_, .tup (sqt_del h t) g1, decide_eq_true (by omega), (Sz.tup g3).mono (by decide) ?_⟩
  rw [g2]
  omega
theorem Good.same {K : PySem.W.Frag} {l : Addr} {H H' : Hp} (s : Same H H') {L : List V} (h : ∀ v ∈ L, Good K l H v) : ∀ v ∈ L, Good K l H' v := fun v hv =>
  let ⟨d, h1, h2⟩ := h v hv; ⟨d, DpX.same (sameD s) h1, h2⟩
theorem Good.snoc {K : PySem.W.Frag} {l : Addr} {H : Hp} {L : List V} {v : V} (h : ∀ v ∈ L, Good K l H v) (g : Good K l H v) : ∀ u ∈ L ++ [v], Good K l H u := fun u hu => by
  rcases List.mem_append.mp hu with hu | hu
  · exact h u hu
  · rw [List.mem_singleton.mp hu]
    exact g
theorem st_same {l : Addr} {H H' : Hp} (h : St3 H l) (s : Same H H') : St3 H' l := let ⟨x, y, z, e⟩ := h; ⟨x, y, z, s _ _ e⟩
/-- t + u: some tuple of both -/
theorem cat_read {K : PySem.W.Frag} {H : Hp} {a b : Addr} {xs ys : List V} {Q : VK} (ha : SqT K H a xs) (hb : SqT K H b ys) (hz : xs.length + ys.length ≤ sizeLine) (k : ∀ r H', Same H H' → SqT K H' r (xs ++ ys) → Q (.ref r) H') : rCatA K (.ref a) (.ref b) H Q :=
  ⟨a, b, xs, ys, rfl, rfl, ha, hb, hz, fun e => k b H (Same.refl H) (by rw [e]; exact hb), fun _ e => k a H (Same.refl H) (by rw [e, List.append_nil]; exact ha), fun _ _ p hp => k p _ (same_one (Same.refl H) hp) (SqT.of upd_same)⟩
/-- t[:k], t[k:]: some tuple of these items -/
theorem cut_read {K : PySem.W.Frag} {H : Hp} {a : Addr} {xs : List V} {lo hi : Option Int} {Q : VK} (ha : SqT K H a xs) (k : ∀ r H', Same H H' → SqT K H' r (cutV xs lo hi) → Q (.ref r) H') : rSlA K (.ref a) lo hi H Q := by
  refine ⟨a, xs, rfl, ha, fun w => k a H (Same.refl H) ?_, fun _ p hp => k p _ (same_one (Same.refl H) hp) (SqT.of upd_same)⟩
  have e : cutV xs lo hi = xs := by
    unfold cutV
    rw [w.1, w.2, List.drop_zero, Nat.sub_zero, List.take_length]
  rw [e]
  exact ha
theorem cut_sub {xs : List V} {lo hi : Option Int} {v : V} (h : v ∈ cutV xs lo hi) : v ∈ xs := List.mem_of_mem_drop (List.mem_of_mem_take h)
structure TxtF (K : PySem.W.Frag) (mg : Str → Option Value) (fP : Addr) (fdP : FuncData) : Prop where
  gP : mg "_law_pick" = some (.ref fP)
  kP : PySem.W.keepIn K (.ref fP) = true
  bP : Binds K fdP ["stream", "items"] []
  len : mg "len" = none
  list : mg "list" = none
/-- _law_near_way(stream, arcs, way) -/
def spNear (K : PySem.W.Frag) : Sp := fun vs H Q _ => ∃ (l a b : Addr) (as : List Arc) (is : List Nat), vs = [.ref l, .ref a, .ref b] ∧ St3 H l ∧ ArcsAt K (delH H l) a as ∧ as.length ≤ 499 ∧ H b = some (.tup (vI is)) ∧ is.length ≤ 10 ∧ (∀ i ∈ is, i < 500) ∧
  ∀ v H', Aft l H H' → Good K l H' v → Q v H'
section
variable {P : Program} {w : World} {K : PySem.W.Frag} {mg : Str → Option Value} {base : Heap}
theorem scNear : FnScope ["stream", "arcs", "way", "some"] ["stream", "arcs", "way"] (defScope sNear) := ⟨rfl, rfl, rfl, by decide +kernel, rfl, by decide +kernel, by decide +kernel⟩
theorem ok_near {f fP : Addr} {fd fdP : FuncData} (F : Fun K "_law_near_way" "_law_near_way" sNear f fd) (GP : FnOk P w K mg base CX0 2 fP fdP ["stream", "items"] (spPick K)) (T : TxtF K mg fP fdP) : FnOk P w K mg base CX0 3 f fd ["stream", "arcs", "way"] (spNear K) := by
  refine F.ok scNear (fun vs H Q E h => ?_) (fun cdv A outer s H vs Q E hr h => ?_)
  · obtain ⟨l, a, b, as, is, rfl, _⟩ := h
    rfl
  · obtain ⟨l, a, b, as, is, rfl, hS, hA, few, eB, hi, ok, k⟩ := h
    refine ⟨_, (pss_cons (ps_set (i := 3) scNear.nd rfl (.inl rfl) (pe_lst (pa_cons (pv 2) (pa_cons (pv 2) (pa_cons (pe_revT (pv 2)) (pa_cons (pe_op op_catA (pv 2) (pe_slice sl_tupA (pv 2) po_none (po_some pe_int))) (pa_cons (pe_slice sl_tupA (pv 2) (po_some pe_int) po_none) (pa_cons (pe_op op_catA (pv 2) (pe_tup (pa_cons (pe_callB call_len_seq (by rfl) T.len (by decide +kernel) (pa_cons (pv 1) pa_nil)) pa_nil))) (pa_cons (pe_op op_catA (pv 2) (pe_tup (pa_cons (pe_un un_neg pe_int) pa_nil))) (pa_cons (pe_op op_catA (pe_tup (pa_cons pe_bl pa_nil)) (pe_slice sl_tupA (pv 2) (po_some pe_int) po_none)) (pa_cons (pe_tup (pa_cons pe_bl pa_nil)) pa_nil)))))))))))
      (pss_one (ps_ret (pe_call GP hr rfl T.gP T.kP T.bP .nil pass0 (pa_cons (pv 0) (pa_cons (pe_op op_cat (pv 3) (pe_lst (pa_cons (pe_callTy call_listT (by rfl) T.list (by decide +kernel) (pa_cons (pv 2) pa_nil)) (pa_cons (pe_op op_catA (pv 2) (pe_tup (pa_cons pe_str pa_nil))) (pa_cons pe_non (pa_cons pe_str (pa_cons pe_dnewK (pa_cons pe_int (pa_cons (pe_op op_catA (pv 2) (pv 2)) (pa_cons (pe_tup (pa_cons (pv 2) pa_nil)) (pa_cons (pe_tup pa_nil) pa_nil))))))))))) pa_nil)))))), ?_⟩
    have hB : SqT K H b (vI is) := SqT.of eB
    have okA := atom_vI (K := K) fun i h => ok i h
    have hl : (vI is).length ≤ 10 := by rw [List.length_map]; exact hi
    have line : sizeLine = 16777216 := sizeLine_eq
    have g1 : Good K l H (.ref b) := good_tup hS hB okA (by omega)
    refine ⟨_, rfl, _, rfl, _, rfl, b, _, rfl, hB, fun p3 h3 => ?_⟩
    have s3 : Same H (upd H p3 (.tup (vI is).reverse)) := same_one (Same.refl H) h3
    have t3 : SqT K (upd H p3 (.tup (vI is).reverse)) p3 (vI is).reverse := SqT.of upd_same
    have inv : ∀ v ∈ ([.ref b, .ref b] : List V), Good K l H v := fun v hv => by
      rcases List.mem_cons.mp hv with rfl | hv
      · exact g1
      · rw [List.mem_singleton.mp hv]
        exact g1
    generalize upd H p3 (.tup (vI is).reverse) = X3 at s3 t3 ⊢
    have i3 := Good.snoc (Good.same s3 inv) (good_tup (st_same hS s3) t3 (fun v hv => okA v (List.mem_reverse.mp hv)) (by rw [List.length_reverse]; omega))
    refine ⟨_, rfl, _, rfl, _, rfl, cut_read (sameT s3 hB) fun r4 Y4 a4 t4 => cat_read (sameT (Same.trans s3 a4) hB) t4 (by have z := cutV_length (vI is) none (some 1); omega) fun q4 X4 b4 u4 => ?_⟩
    have S4 := Same.trans s3 (Same.trans a4 b4)
    have i4 := Good.snoc (Good.same (Same.trans a4 b4) i3) (good_tup (st_same hS S4) u4 (fun v hv => (List.mem_append.mp hv).elim (okA v) fun z => okA v (cut_sub z)) (by have z := cutV_length (vI is) none (some 1); rw [List.length_append]; omega))
    refine ⟨_, rfl, _, rfl, ?_⟩
    try unfold tNoPart
    refine cut_read (sameT S4 hB) fun q5 X5 b5 u5 => ?_
    have S5 := Same.trans S4 b5
    have i5 := Good.snoc (Good.same b5 i4) (good_tup (st_same hS S5) u5 (fun v hv => okA v (cut_sub hv)) (by have z := cutV_length (vI is) (some 1) none; omega))
    obtain ⟨xs, hT, hX⟩ := (hA.same (sameD S5)).same delH_le
    have hx : xs.length = as.length := by rw [hX.len, List.length_map]
    refine ⟨_, rfl, _, rfl, a, xs, rfl, .inr hT, (by show 1 ≤ sizeLine; decide), fun p6 h6 => ?_⟩
    have d6 : Same X5 (upd X5 p6 (.tup [.int (xs.length : Nat)])) := same_one (Same.refl X5) h6
    have e6 : (upd X5 p6 (.tup [.int (xs.length : Nat)])) p6 = some (.tup [.int (xs.length : Nat)]) := upd_same
    have ne6 : p6 ≠ l := (Aft.refl (st_same hS S5)).ne h6
    generalize upd X5 p6 (.tup [.int (xs.length : Nat)]) = X6 at d6 e6 ⊢
    have S6 := Same.trans S5 d6
    have i6 := Good.same d6 i5
    refine cat_read (sameT S6 hB) (SqT.of e6) (by show _ + 1 ≤ _; omega) fun q7 X7 b7 u7 => ?_
    have S7 := Same.trans S6 b7
    have i7 := Good.snoc (Good.same b7 i6) (good_tup (st_same hS S7) u7 (fun v hv => (List.mem_append.mp hv).elim (okA v) fun z => by rw [List.mem_singleton.mp z]; exact atom_int (Nat.lt_of_lt_of_le (show ((xs.length : Nat) : Int).natAbs < 500 by omega) (by decide +kernel))) (by rw [List.length_append]; show _ + 1 ≤ _; omega))
    refine ⟨_, rfl, 1, rfl, (by show 1 ≤ sizeLine; decide), fun p8 h8 => ?_⟩
    have d8 : Same X7 (upd X7 p8 (.tup [.int (-1)])) := same_one (Same.refl X7) h8
    have e8 : (upd X7 p8 (.tup [.int (-1)])) p8 = some (.tup [.int (-1)]) := upd_same
    have ne8 : p8 ≠ l := (Aft.refl (st_same hS S7)).ne h8
    generalize upd X7 p8 (.tup [.int (-1)]) = X8 at d8 e8 ⊢
    have S8 := Same.trans S7 d8
    have i8 := Good.same d8 i7
    refine cat_read (sameT S8 hB) (SqT.of e8) (by show _ + 1 ≤ _; omega) fun q9 X9 b9 u9 => ?_
    have S9 := Same.trans S8 b9
    have i9 := Good.snoc (Good.same b9 i8) (good_tup (st_same hS S9) u9 (fun v hv => (List.mem_append.mp hv).elim (okA v) fun z => by rw [List.mem_singleton.mp z]; exact atom_int (by decide +kernel)) (by rw [List.length_append]; show _ + 1 ≤ _; omega))
    refine ⟨(by show 1 ≤ sizeLine; decide), fun p10 h10 => ?_⟩
    have d10 : Same X9 (upd X9 p10 (.tup [.bl true])) := same_one (Same.refl X9) h10
    have e10 : (upd X9 p10 (.tup [.bl true])) p10 = some (.tup [.bl true]) := upd_same
    have ne10 : p10 ≠ l := (Aft.refl (st_same hS S9)).ne h10
    generalize upd X9 p10 (.tup [.bl true]) = X10 at d10 e10 ⊢
    have S10 := Same.trans S9 d10
    have i10 := Good.same d10 i9
    refine ⟨_, rfl, _, rfl, ?_⟩
    try unfold tNoPart
    refine cut_read (sameT S10 hB) fun r11 Y11 a11 t11 => cat_read (sameT a11 (SqT.of e10)) t11 (by have z := cutV_length (vI is) (some 1) none; show 1 + _ ≤ _; omega) fun q11 X11 b11 u11 => ?_
    have S11 := Same.trans S10 (Same.trans a11 b11)
    have i11 := Good.snoc (Good.same (Same.trans a11 b11) i10) (good_tup (st_same hS S11) u11 (fun v hv => (List.mem_append.mp hv).elim (fun z => by rw [List.mem_singleton.mp z]; exact atom_bl true) fun z => okA v (cut_sub z)) (by have z := cutV_length (vI is) (some 1) none; rw [List.length_append]; show 1 + _ ≤ _; omega))
    refine ⟨(by show 1 ≤ sizeLine; decide), fun p12 h12 => ?_⟩
    have d12 : Same X11 (upd X11 p12 (.tup [.bl false])) := same_one (Same.refl X11) h12
    have e12 : (upd X11 p12 (.tup [.bl false])) p12 = some (.tup [.bl false]) := upd_same
    have ne12 : p12 ≠ l := (Aft.refl (st_same hS S11)).ne h12
    generalize upd X11 p12 (.tup [.bl false]) = X12 at d12 e12 ⊢
    have S12 := Same.trans S11 d12
    have i12 := Good.snoc (Good.same d12 i11) (good_tup (st_same hS S12) (SqT.of e12) (fun v hv => by rw [List.mem_singleton.mp hv]; exact atom_bl false) (by show 1 ≤ 30; decide))
    refine ⟨(by show 9 ≤ sizeLine; decide), fun p13 h13 => ?_⟩
    have d13 : Same X12 (upd X12 p13 (.lst [.ref b, .ref b, .ref p3, .ref q4, .ref q5, .ref q7, .ref q9, .ref q11, .ref p12])) := same_one (Same.refl X12) h13
    have e13 : (upd X12 p13 (.lst [.ref b, .ref b, .ref p3, .ref q4, .ref q5, .ref q7, .ref q9, .ref q11, .ref p12])) p13 = some (.lst [.ref b, .ref b, .ref p3, .ref q4, .ref q5, .ref q7, .ref q9, .ref q11, .ref p12]) := upd_same
    have ne13 : p13 ≠ l := (Aft.refl (st_same hS S12)).ne h13
    generalize upd X12 p13 (.lst [.ref b, .ref b, .ref p3, .ref q4, .ref q5, .ref q7, .ref q9, .ref q11, .ref p12]) = X13 at d13 e13 ⊢
    have S13 := Same.trans S12 d13
    have i13 := Good.same d13 i12
    refine ⟨_, rfl, _, rfl, _, rfl, b, _, rfl, sameT S13 hB, fun p14 h14 y14 => ?_⟩
    have d14 : Same X13 (upd X13 p14 (.lst (vI is))) := same_one (Same.refl X13) h14
    have e14 : (upd X13 p14 (.lst (vI is))) p14 = some (.lst (vI is)) := upd_same
    have ne14 : p14 ≠ l := (Aft.refl (st_same hS S13)).ne h14
    generalize upd X13 p14 (.lst (vI is)) = X14 at d14 e14 ⊢
    have S14 := Same.trans S13 d14
    have i14 := Good.snoc (Good.same d14 i13) (⟨_, .lst y14 (SqL.of (by rw [delH_ne ne14]; exact e14)) (atoms_all (H := delH _ l) okA).choose_spec.1, rfl, (Sz.lst (atoms_all (H := delH _ l) okA).choose_spec.2.2).mono (by decide) (by rw [(atoms_all (H := delH _ l) okA).choose_spec.2.1]; omega)⟩)
    refine ⟨_, rfl, (by show 1 ≤ sizeLine; decide), fun p15 h15 => ?_⟩
    have d15 : Same X14 (upd X14 p15 (.tup [.str "a"])) := same_one (Same.refl X14) h15
    have e15 : (upd X14 p15 (.tup [.str "a"])) p15 = some (.tup [.str "a"]) := upd_same
    have ne15 : p15 ≠ l := (Aft.refl (st_same hS S14)).ne h15
    generalize upd X14 p15 (.tup [.str "a"]) = X15 at d15 e15 ⊢
    have S15 := Same.trans S14 d15
    have i15 := Good.same d15 i14
    refine cat_read (sameT S15 hB) (SqT.of e15) (by show _ + 1 ≤ _; omega) fun q16 X16 b16 u16 => ?_
    have S16 := Same.trans S15 b16
    have i16 := Good.snoc (Good.same b16 i15) (good_tup (st_same hS S16) u16 (fun v hv => (List.mem_append.mp hv).elim (okA v) fun z => by rw [List.mem_singleton.mp z]; exact atom_a) (by rw [List.length_append]; show _ + 1 ≤ _; omega))
    have j1 := Good.snoc (Good.snoc i16 ⟨_, .non, rfl, Sz.none.mono (by decide) (by decide)⟩) ⟨_, .str "", rfl, (Sz.str (m := 0) (by decide +kernel) (by decide +kernel)).mono (by decide) (by decide)⟩
    refine fun p17 h17 => ?_
    have d17 : Same X16 (upd X16 p17 (.dK [])) := same_one (Same.refl X16) h17
    have e17 : (upd X16 p17 (.dK [])) p17 = some (.dK []) := upd_same
    have ne17 : p17 ≠ l := (Aft.refl (st_same hS S16)).ne h17
    generalize upd X16 p17 (.dK []) = X17 at d17 e17 ⊢
    have S17 := Same.trans S16 d17
    have i17 := Good.snoc (Good.same d17 j1) (⟨.dict [], DpX.dK (kvs := []) (ds := []) (by rw [delH_ne ne17]; exact e17) .nil, rfl, Sz.dict.mono (k' := 3) (n' := 4000) (by decide) (by decide)⟩)
    have j2 := Good.snoc i17 ⟨_, .int 0, rfl, (Sz.int (by decide +kernel)).mono (by decide) (by decide)⟩
    refine ⟨_, rfl, _, rfl, cat_read (sameT S17 hB) (sameT S17 hB) (by omega) fun q18 X18 b18 u18 => ?_⟩
    have S18 := Same.trans S17 b18
    have i18 := Good.snoc (Good.same b18 j2) (good_tup (st_same hS S18) u18 (fun v hv => (List.mem_append.mp hv).elim (okA v) (okA v)) (by rw [List.length_append]; omega))
    refine ⟨_, rfl, (by show 1 ≤ sizeLine; decide), fun p19 h19 => ?_⟩
    have d19 : Same X18 (upd X18 p19 (.tup [.ref b])) := same_one (Same.refl X18) h19
    have e19 : (upd X18 p19 (.tup [.ref b])) p19 = some (.tup [.ref b]) := upd_same
    have ne19 : p19 ≠ l := (Aft.refl (st_same hS S18)).ne h19
    generalize upd X18 p19 (.tup [.ref b]) = X19 at d19 e19 ⊢
    have S19 := Same.trans S18 d19
    have i19 := Good.snoc (Good.same d19 i18) (⟨_, .tup (sqt_del (st_same hS S19) (SqT.of e19)) (.cons (.tup (sqt_del (st_same hS S19) (sameT S19 hB)) (atoms_all (H := delH _ l) okA).choose_spec.1) .nil), rfl, (Sz.tup (k := 1) (n := 700) fun d hd => by rw [List.mem_singleton.mp hd]; exact (Sz.tup (atoms_all (H := delH _ l) okA).choose_spec.2.2).mono (by decide) (by rw [(atoms_all (H := delH _ l) okA).choose_spec.2.1]; omega)).mono (by decide) (by show (700 + 2) * 1 + 3 ≤ 4000; decide)⟩)
    refine ⟨(by show 0 ≤ sizeLine; decide), fun p20 h20 => ?_⟩
    have d20 : Same X19 (upd X19 p20 (.tup [])) := same_one (Same.refl X19) h20
    have e20 : (upd X19 p20 (.tup [])) p20 = some (.tup []) := upd_same
    have ne20 : p20 ≠ l := (Aft.refl (st_same hS S19)).ne h20
    generalize upd X19 p20 (.tup []) = X20 at d20 e20 ⊢
    have S20 := Same.trans S19 d20
    have i20 := Good.snoc (Good.same d20 i19) (good_tup (st_same hS S20) (SqT.of e20) (fun v hv => by cases hv) (by show 0 ≤ 30; decide))
    refine ⟨(by show 9 ≤ sizeLine; decide), fun p21 h21 => ?_⟩
    have d21 : Same X20 (upd X20 p21 (.lst [.ref p14, .ref q16, .non, .str "", .ref p17, .int 0, .ref q18, .ref p19, .ref p20])) := same_one (Same.refl X20) h21
    have e21 : (upd X20 p21 (.lst [.ref p14, .ref q16, .non, .str "", .ref p17, .int 0, .ref q18, .ref p19, .ref p20])) p21 = some (.lst [.ref p14, .ref q16, .non, .str "", .ref p17, .int 0, .ref q18, .ref p19, .ref p20]) := upd_same
    have ne21 : p21 ≠ l := (Aft.refl (st_same hS S20)).ne h21
    generalize upd X20 p21 (.lst [.ref p14, .ref q16, .non, .str "", .ref p17, .int 0, .ref q18, .ref p19, .ref p20]) = X21 at d21 e21 ⊢
    have S21 := Same.trans S20 d21
    have i21 := Good.same d21 i20
    have sL := (Same.trans (Same.trans (Same.trans (Same.trans (Same.trans (Same.trans (Same.trans d14 d15) b16) d17) b18) d19) d20) d21)
    have eL : X21 p13 = some (.lst [.ref b, .ref b, .ref p3, .ref q4, .ref q5, .ref q7, .ref q9, .ref q11, .ref p12]) := sL _ _ e13
    refine ⟨p13, p21, _, _, rfl, rfl, eL, e21, (by show 18 ≤ sizeLine; decide), fun pN hN => ?_⟩
    have dN : Same X21 (upd X21 pN (.lst ([.ref b, .ref b, .ref p3, .ref q4, .ref q5, .ref q7, .ref q9, .ref q11, .ref p12] ++ [.ref p14, .ref q16, .non, .str "", .ref p17, .int 0, .ref q18, .ref p19, .ref p20]))) := same_one (Same.refl X21) hN
    have iN := Good.same dN i21
    have AN : Aft l H (upd X21 pN (.lst ([.ref b, .ref b, .ref p3, .ref q4, .ref q5, .ref q7, .ref q9, .ref q11, .ref p12] ++ [.ref p14, .ref q16, .non, .str "", .ref p17, .int 0, .ref q18, .ref p19, .ref p20]))) := (Aft.refl hS).of (Same.trans S21 dN)
    refine ⟨l, pN, _, rfl, AN.st, (Aft.refl (st_same hS S21)).ne hN, .inl (SqL.of upd_same), (by show 0 < 18; decide), (by show 18 < 1000000; decide), fun v x y z hv => k v _ AN.draw ?_⟩
    obtain ⟨d, h1, h2⟩ := iN v hv
    exact ⟨d, DpX.same (Aft.refl AN.st).draw.same h1, h2⟩
end
end K01

set_option Elab.async false
set_option linter.all false
set_option maxRecDepth 100000
set_option maxHeartbeats 2000000
/-! repr of any datum; a call with keywords of a def without defaults. -/
namespace LW
open PySem PySem.Spec PyProof.Rows L2 RZ
/-- the text of a truth value -/
def boolT (b : Bool) : Str := if b then "True" else "False"
theorem boolT_dec (a b : Bool) : decide (V.str (boolT a) = V.str (boolT b)) = decide (a = b) := by cases a <;> cases b <;> decide
def rReprB : List V → Hp → VK → Prop := fun xs H Q => ∃ b, xs = [.bl b] ∧ Q (.str (boolT b)) H
theorem call_reprB {X : Cx} : CallR X (.builtin "repr") rReprB := by
  intro pins s σ H xs us Q I r h
  obtain ⟨b, rfl, q⟩ := h
  obtain ⟨u, rfl, ru⟩ := vals1 r
  cases ru
  exact PySem.P.repr_of_bool ⟨.str (boolT b), H, I.tok _, ⟨_, by cases b <;> rfl⟩, q⟩
/-- repr of a truth value, or of data -/
theorem call_reprE {X : Cx} (hg : X.A.guards = some []) (hu : X.A.units + 64 < cLine) : CallR X (.builtin "repr") (fun xs H Q => rReprB xs H Q ∨ rReprX X.K xs H Q) := call_reprB.or (call_reprX hg hu)
/-- two keywords, the second parameter's name first -/
def gSwap {α : Type} (vs zs : List α) : List α := match zs with
  | [t, s] => vs ++ [s, t]
  | _ => []
/-- two keywords in the parameters' order -/
def gKeep {α : Type} (vs zs : List α) : List α := match zs with
  | [s, t] => vs ++ [s, t]
  | _ => []
theorem gSwap_rel {vs zs : List V} {us ws : List Value} (h : Vals vs us) (g : Vals zs ws) : Vals (gSwap vs zs) (gSwap us ws) := by
  match zs, ws, g with
  | [], [], .nil => exact .nil
  | [_], [_], .cons _ .nil => exact .nil
  | [_, _], [_, _], .cons a (.cons b .nil) => exact h.append (.cons b (.cons a .nil))
  | _ :: _ :: _ :: _, _ :: _ :: _ :: _, .cons _ (.cons _ (.cons _ _)) => exact .nil
theorem gKeep_rel {vs zs : List V} {us ws : List Value} (h : Vals vs us) (g : Vals zs ws) : Vals (gKeep vs zs) (gKeep us ws) := by
  match zs, ws, g with
  | [], [], .nil => exact .nil
  | [_], [_], .cons _ .nil => exact .nil
  | [_, _], [_, _], .cons a (.cons b .nil) => exact h.append (.cons a (.cons b .nil))
  | _ :: _ :: _ :: _, _ :: _ :: _ :: _, .cons _ (.cons _ (.cons _ _)) => exact .nil
end LW

set_option Elab.async false
set_option linter.all false
set_option maxRecDepth 100000
set_option maxHeartbeats 4000000
namespace K01
open PySem PySem.Spec PyProof.Rows L2 LW RZ
abbrev sWaysRight : Stmt := top 31
structure TxtU (K : PySem.W.Frag) (mg : Str → Option Value) (fO fA fE fR fQ fL fW : Addr) (fdO fdA fdE fdR fdQ fdL fdW : FuncData) : Prop where
  gO : mg "_law_names_of" = some (.ref fO)
  kO : PySem.W.keepIn K (.ref fO) = true
  bO : Binds K fdO ["arcs"] []
  gA : mg "_law_walk" = some (.ref fA)
  kA : PySem.W.keepIn K (.ref fA) = true
  bA : Binds K fdA ["stream", "arcs", "most"] []
  gE : mg "_law_near_way" = some (.ref fE)
  kE : PySem.W.keepIn K (.ref fE) = true
  bE : Binds K fdE ["stream", "arcs", "way"] []
  gR : mg "is_ring" = some (.ref fR)
  kR : PySem.W.keepIn K (.ref fR) = true
  bR : Binds K fdR ["arcs", "value"] []
  gQ : mg "_law_is_ring" = some (.ref fQ)
  kQ : PySem.W.keepIn K (.ref fQ) = true
  bQ : Binds K fdQ ["arcs", "way"] []
  gL : mg "_law_leads" = some (.ref fL)
  kL : PySem.W.keepIn K (.ref fL) = true
  bL : Binds K fdL ["arcs", "way"] []
  gW : mg "is_way" = some (.ref fW)
  kW : PySem.W.keepIn K (.ref fW) = true
  bW : KBinds K fdW ["arcs", "value", "source", "target"] ["target", "source"] gSwap gSwap
  range : mg "range" = none
  repr : mg "repr" = none
theorem sz_name {x : Str} (h : nameB (.str x) = true) : Sz 0 82 (.str x) := by
  have h : (decide (1 ≤ x.length) && decide (x.length ≤ 8) && x.cps.toList.all signOk) = true := h
  rw [Bool.and_eq_true, Bool.and_eq_true, decide_eq_true_eq, decide_eq_true_eq] at h
  refine Sz.str (m := 8) (fun c hc => ?_) h.1.2
  have z : (decide (97 ≤ c) && decide (c ≤ 122)) = true := List.all_eq_true.mp h.2 c hc
  rw [Bool.and_eq_true, decide_eq_true_eq, decide_eq_true_eq] at z
  exact Nat.lt_of_le_of_lt z.2 (by decide +kernel)
theorem sz_arcs {as : List Arc} (h : okArcs as = true) (hn : ∀ r ∈ as, okNum r.2.2) (hl : as.length ≤ 100) : Sz 3 30000 (arcsD as) := by
  unfold okArcs at h
  rw [Bool.and_eq_true] at h
  have one : ∀ d ∈ as.map arcD, Sz 1 260 d := fun d hd => by
    obtain ⟨r, hr, rfl⟩ := List.mem_map.mp hd
    have z := List.all_eq_true.mp h.2 r hr
    rw [Bool.and_eq_true] at z
    refine (Sz.tup (k := 0) (n := 82) fun e he => ?_).mono (Nat.le_refl _) (by show (82 + 2) * 3 + 3 ≤ 260; decide)
    rcases List.mem_cons.mp he with rfl | he
    · exact sz_name z.1
    rcases List.mem_cons.mp he with rfl | he
    · exact sz_name z.2
    · rw [List.mem_singleton.mp he]
      exact (Sz.int (hn r hr)).mono (Nat.le_refl _) (by decide)
  refine (Sz.tup one).mono (by decide) ?_
  rw [List.length_map]
  omega
theorem sz_pair {d e : PyData} (h : Sz 3 30000 d) (g : Sz 3 4000 e) : Sz 4 60007 (.tuple [d, e]) := (Sz.tup (k := 3) (n := 30000) fun x hx => by
  rcases List.mem_cons.mp hx with rfl | hx
  · exact h
  · rw [List.mem_singleton.mp hx]
    exact g.mono (Nat.le_refl _) (by decide)).mono (Nat.le_refl _) (by show (30000 + 2) * 2 + 3 ≤ 60007; decide)
theorem strOk_name {x : Str} (h : nameB (.str x) = true) : PyData.strOk x = true := by
  have h : (decide (1 ≤ x.length) && decide (x.length ≤ 8) && x.cps.toList.all signOk) = true := h
  rw [Bool.and_eq_true, Bool.and_eq_true, decide_eq_true_eq, decide_eq_true_eq] at h
  unfold PyData.strOk
  rw [← Array.all_toList, List.all_eq_true]
  intro c hc
  have z : (decide (97 ≤ c) && decide (c ≤ 122)) = true := List.all_eq_true.mp h.2 c hc
  rw [Bool.and_eq_true, decide_eq_true_eq, decide_eq_true_eq] at z
  exact decide_eq_true (by omega)
theorem shaped_pair {a b : Str} (ha : nameB (.str a) = true) (hb : nameB (.str b) = true) : SeqAt.shaped (.tuple [.str a, .str b]) = true := by simp [SeqAt.shaped, PyData.canLay0, PyData.canLayAll0, PyData.depth, PyData.depthAll, strOk_name ha, strOk_name hb]
theorem name_good {as : List Arc} (h : okArcs as = true) {x : Str} (hx : x ∈ namesL as) : nameB (.str x) = true := by
  unfold okArcs at h
  rw [Bool.and_eq_true] at h
  obtain ⟨r, hr, e⟩ := List.mem_flatMap.mp hx
  have z := List.all_eq_true.mp h.2 r hr
  rw [Bool.and_eq_true] at z
  rcases List.mem_cons.mp e with rfl | e
  · exact z.1
  · rw [List.mem_singleton.mp e]
    exact z.2
theorem arc_names {as : List Arc} {i : Nat} (h : i < as.length) : (as.getD i arc0).1 ∈ namesL as ∧ (as.getD i arc0).2.1 ∈ namesL as := by
  have e : as.getD i arc0 = as[i] := by rw [List.getD_eq_getElem?_getD, List.getElem?_eq_getElem h]; rfl
  rw [e]
  exact ⟨List.mem_flatMap.mpr ⟨as[i], List.getElem_mem h, List.mem_cons_self⟩, List.mem_flatMap.mpr ⟨as[i], List.getElem_mem h, List.mem_cons_of_mem _ List.mem_cons_self⟩⟩
theorem eqv_pair (a b c d : Str) : PyData.eqv (.tuple [.str a, .str b]) (.tuple [.str c, .str d]) = (decide (c = a) && decide (d = b)) := by
  have h : ∀ x y : Str, (x == y) = decide (y = x) := fun x y => by
    by_cases e : x = y
    · subst e
      simp
    · rw [decide_eq_false (fun z => e z.symm)]
      simpa using e
  show ((a == c) && ((b == d) && true)) = _
  rw [h, h, Bool.and_true]
/-- _law_ways_right(stream, arcs) -/
def spWaysRight (K : PySem.W.Frag) : Sp := fun vs H Q _ => ∃ (l a : Addr) (as : List Arc), vs = [.ref l, .ref a] ∧ St3 H l ∧ ArcsAt K (delH H l) a as ∧ okArcs as = true ∧ as.length ≤ 100 ∧ (∀ r ∈ as, okNum r.2.2) ∧ ∀ H', Aft l H H' → Q (.bl true) H'
section
variable {P : Program} {w : World} {K : PySem.W.Frag} {mg : Str → Option Value} {base : Heap}
theorem scWR : FnScope ["stream", "arcs", "names", "turn", "way", "value", "kept", "one", "other", "due"] ["stream", "arcs"] (defScope sWaysRight) := ⟨rfl, rfl, rfl, by decide +kernel, rfl, by decide +kernel, by decide +kernel⟩
theorem ok_waysRight {f fO fA fE fR fQ fL fW : Addr} {fd fdO fdA fdE fdR fdQ fdL fdW : FuncData} (F : Fun K "_law_ways_right" "_law_ways_right" sWaysRight f fd) (GO : FnOk P w K mg base CX0 1 fO fdO ["arcs"] (spLawNames K)) (GA : FnOk P w K mg base CX0 3 fA fdA ["stream", "arcs", "most"] (spWalk K))
    (GE : FnOk P w K mg base CX0 3 fE fdE ["stream", "arcs", "way"] (spNear K)) (GR : FnOk P w K mg base CX0 5 fR fdR ["arcs", "value"] (spRing K)) (GQ : FnOk P w K mg base CX0 2 fQ fdQ ["arcs", "way"] (spLawRing K)) (GL : FnOk P w K mg base CX0 1 fL fdL ["arcs", "way"] (spLeads K))
    (GW : FnOk P w K mg base CX0 5 fW fdW ["arcs", "value", "source", "target"] (spWay K)) (T : TxtU K mg fO fA fE fR fQ fL fW fdO fdA fdE fdR fdQ fdL fdW) : FnG P w K mg base CX0 6 f fd ["stream", "arcs"] (spWaysRight K) := by
  refine okG F scWR (fun vs H Q E h => ?_) (fun cdv A outer s H vs Q E hgd hr h => ?_)
  · obtain ⟨l, a, as, rfl, _⟩ := h
    rfl
  · obtain ⟨l, a, as, rfl, hS, hA, good, few, num, k⟩ := h
    refine ⟨_, (pss_cons (ps_set (i := 2) scWR.nd rfl (.inl rfl) (pe_call GO (hr.mono (by decide)) rfl T.gO T.kO T.bO .nil pass0 (pa_cons (pv 1) pa_nil)))
      (pss_cons (ps_for PassesOwn.never rfl (pi_range1 (by rfl) T.range (pa_cons pe_int pa_nil)) (pg_name (i := 3) scWR.nd rfl (.inl rfl))
        (pss_cons (ps_set (i := 4) scWR.nd rfl (.inl rfl) (pe_call GA (hr.mono (by decide)) rfl T.gA T.kA T.bA .nil pass0 (pa_cons (pv 0) (pa_cons (pv 1) (pa_cons pe_int pa_nil)))))
        (pss_cons (ps_set (i := 5) scWR.nd rfl (.inl rfl) (pe_call GE (hr.mono (by decide)) rfl T.gE T.kE T.bE .nil pass0 (pa_cons (pv 0) (pa_cons (pv 1) (pa_cons (pv 4) pa_nil)))))
        (pss_cons (ps_set (i := 6) scWR.nd rfl (.inl rfl) (pe_callB (call_reprE hgd hr.units) (by rfl) T.repr (by decide +kernel) (pa_cons (pe_tup (pa_cons (pv 1) (pa_cons (pv 5) pa_nil))) pa_nil)))
        (pss_cons (ps_if (pt_cmpR op_ne (pe_callB (call_reprE hgd hr.units) (by rfl) T.repr (by decide +kernel) (pa_cons (pe_call GR hr rfl T.gR T.kR T.bR .nil pass0 (pa_cons (pv 1) (pa_cons (pv 5) pa_nil))) pa_nil)) (pe_callB (call_reprE hgd hr.units) (by rfl) T.repr (by decide +kernel) (pa_cons (pe_call GQ (hr.mono (by decide)) rfl T.gQ T.kQ T.bQ .nil pass0 (pa_cons (pv 1) (pa_cons (pv 5) pa_nil))) pa_nil)) (nomark _))
          (pss_one (ps_ret pe_bl))
          pss_nil)
        (pss_cons (ps_for PassesOwn.never rfl (pi_list (pv 2)) (pg_name (i := 7) scWR.nd rfl (.inl rfl))
          (pss_one (ps_for PassesOwn.never rfl (pi_list (pv 2)) (pg_name (i := 8) scWR.nd rfl (.inl rfl))
            (pss_cons (ps_set (i := 9) scWR.nd rfl (.inl rfl) (pe_and (pe_call GL (hr.mono (by decide)) rfl T.gL T.kL T.bL .nil pass0 (pa_cons (pv 1) (pa_cons (pv 5) pa_nil))) (pe_one (pe_or (pe_cmpR (op_neD hr.units) (pv 5) (pe_tup pa_nil) (nomark _)) (pe_one (pe_cmpR op_eq (pv 7) (pv 8) (nomark _)))))))
            (pss_cons (ps_if (PW.pt (pw_and (pt_val (pv 9)) (pw_and1 (pt_cmpR (op_neD hr.units) (pv 5) (pe_tup pa_nil) (nomark _)))))
              (pss_one (ps_set (i := 9) scWR.nd rfl (.inl rfl) (pe_cmpR (op_eqD hr.units) (pe_tup (pa_cons (pv 7) (pa_cons (pv 8) pa_nil))) (pe_tup (pa_cons (pe_ix ix_tup (pe_ix ix_tup (pv 1) (pe_ix ix_tup (pv 5) pe_int (fun _ _ => rfl)) (fun _ _ => rfl)) pe_int (fun _ _ => rfl)) (pa_cons (pe_ix ix_tup (pe_ix ix_tup (pv 1) (pe_ix ix_tup (pv 5) (pe_un un_neg pe_int) (fun _ _ => rfl)) (fun _ _ => rfl)) pe_int (fun _ _ => rfl)) pa_nil))) (nomark _))))
              pss_nil)
            (pss_one (ps_if (pt_cmpR op_ne (pe_callB (call_reprE hgd hr.units) (by rfl) T.repr (by decide +kernel) (pa_cons (pe_callK GW hr rfl T.gW T.kW T.bW pass0 (pa_cons (pv 1) (pa_cons (pv 5) pa_nil)) (pk_cons (pv 8) (pk_cons (pv 7) pk_nil))) pa_nil)) (pe_callB (call_reprE hgd hr.units) (by rfl) T.repr (by decide +kernel) (pa_cons (pv 9) pa_nil)) (nomark _))
              (pss_one (ps_ret pe_bl))
              pss_nil)))))))
        (pss_one (ps_if (pt_cmpR op_ne (pe_callB (call_reprE hgd hr.units) (by rfl) T.repr (by decide +kernel) (pa_cons (pe_tup (pa_cons (pv 1) (pa_cons (pv 5) pa_nil))) pa_nil)) (pv 6) (nomark _))
          (pss_one (ps_ret pe_bl))
          pss_nil))))))))
      (pss_one (ps_ret pe_bl)))), ?_⟩
    have hA0 : ArcsAt K H a as := hA.same delH_le
    refine ⟨_, rfl, a, as, rfl, hA0, by omega, fun pN Y ns sY fN eN subN => ?_⟩
    have AY : Aft l H Y := (Aft.refl hS).of sY
    have nN : pN ≠ l := (Aft.refl hS).ne fN
    have hAY := hA.same AY.same
    refine ⟨5, rfl, by decide, by decide, for_it (walk_range (lo := 0) (n := 5)) (fun i σ H1 => Aft l Y H1 ∧ ∃ u3 u4 u5 u6 u7 u8 u9, σ = [some (.ref l), some (.ref a), some (.ref pN), u3, u4, u5, u6, u7, u8, u9])
      ⟨Aft.refl AY.st, _, _, _, _, _, _, _, rfl⟩ (fun _ _ _ _ _ => trivial) (fun i v0 σ H1 H2 hi ⟨a1, u3, u4, u5, u6, u7, u8, u9, eσ⟩ ⟨e, ev⟩ => ?_) fun σ H1 ⟨a1, u3, u4, u5, u6, u7, u8, u9, eσ⟩ => k H1 (AY.trans a1)⟩
    subst e ev eσ
    refine ⟨_, rfl, _, rfl, l, a, as, 6, rfl, a1.st, hAY.same a1.same, by omega, by decide, by decide, fun pW H3 is a3 fW eW lW okW => ?_⟩
    have b3 := a1.trans a3
    refine ⟨_, rfl, _, rfl, _, rfl, l, a, pW, as, is, rfl, b3.st, hAY.same b3.same, by omega, eW, by omega, (fun i hi => by have := okW i hi; omega), fun v H4 a4 gv => ?_⟩
    obtain ⟨d, D, short, sz⟩ := gv
    have b4 := b3.trans a4
    have hA4 := hAY.same b4.same
    refine ⟨_, rfl, _, rfl, (by show 2 ≤ sizeLine; decide), fun p hp => ?_⟩
    have s5 : Same H4 (upd H4 p (.tup [.ref a, v])) := same_one (Same.refl H4) hp
    have e5 : (upd H4 p (.tup [.ref a, v])) p = some (.tup [.ref a, v]) := upd_same
    have b5 : Aft l Y (upd H4 p (.tup [.ref a, v])) := b4.of s5
    generalize upd H4 p (.tup [.ref a, v]) = X5 at s5 e5 b5 ⊢
    have hA5 : ArcsAt K X5 a as := (hA4.same delH_le).same s5
    have D5 : DpX K X5 v d := DpX.same s5 (DpX.same delH_le D)
    have szp := sz_pair (sz_arcs good num few) sz
    have line : sizeLine = 16777216 := sizeLine_eq
    refine .inr ⟨p, .tuple [arcsD as, d], rfl, .tup (SqT.of e5) (.cons hA5.dp (.cons D5 .nil)), szp.1, Nat.le_trans szp.2.1 (by decide), Nat.le_trans szp.2.2 (by omega), ?_⟩
    refine ⟨_, rfl, _, rfl, a, as, v, d, rfl, hA5, good, D5, short, fun X6 s6 => .inl ⟨_, rfl, ?_⟩⟩
    refine ⟨_, rfl, _, rfl, a, as, v, d, rfl, hA5.same s6, DpX.same s6 D5, short, fun X7 s7 => .inl ⟨_, rfl, rfl, _, rfl, ifF (by rw [decide_eq_true rfl]; rfl) ?_⟩⟩
    have s7 := s6.trans s7
    have hA7 := hA5.same s7
    have D7 := DpX.same s7 D5
    have b7 := b5.of s7
    have eN7 : X7 pN = some (.lst (ns.map V.str)) := b7.at eN nN
    refine ⟨_, rfl, pN, rfl, ⟨_, SqL.of eN7⟩, for_it (walk_list (xs := ns.map V.str)) (fun j σ H8 => Same X7 H8 ∧ ∃ u7 u8 u9, σ = [some (.ref l), some (.ref a), some (.ref pN), some (.int (0 + i)), some (.ref pW), some v, some (.str (PyData.tuple [arcsD as, d]).shown), u7, u8, u9])
      ⟨Same.refl X7, _, _, _, rfl⟩ (fun j σ H8 _ h => sameL h.1 (SqL.of eN7)) (fun j x σ H8 H9 hj ⟨s8, u7, u8, u9, eσ⟩ ⟨e, ex⟩ => ?_) fun σ H8 ⟨s8, u7, u8, u9, eσ⟩ => ?_⟩
    · subst e eσ
      obtain ⟨one, m1, rfl⟩ := List.mem_map.mp (List.mem_of_getElem? ex)
      refine ⟨_, rfl, pN, rfl, ⟨_, sameL s8 (SqL.of eN7)⟩, for_it (walk_list (xs := ns.map V.str)) (fun j σ H8 => Same X7 H8 ∧ ∃ u8 u9, σ = [some (.ref l), some (.ref a), some (.ref pN), some (.int (0 + i)), some (.ref pW), some v, some (.str (PyData.tuple [arcsD as, d]).shown), some (.str one), u8, u9])
        ⟨s8, _, _, rfl⟩ (fun j σ H8 _ h => sameL h.1 (SqL.of eN7)) (fun j y σ H9 H10 hj2 ⟨s9, u8', u9', eσ⟩ ⟨e, ey⟩ => ?_) fun σ H9 ⟨s9, u8', u9', eσ⟩ => ⟨s9, _, _, _, eσ⟩⟩
      subst e eσ
      obtain ⟨other, m2, rfl⟩ := List.mem_map.mp (List.mem_of_getElem? ey)
      refine ⟨_, rfl, _, rfl, a, as, v, d, rfl, hA7.same s9, DpX.same s9 D7, fun X10 s10 => ⟨_, rfl, ?_⟩⟩
      have s10 := s9.trans s10
      have hA10 := hA7.same s10
      have D10 := DpX.same s10 D7
      have w1 := subN one m1
      have w2 := subN other m2
      cases hj : joinB as d with
      | false =>
        have ew : wayB as d one other = false := by
          unfold wayB
          rw [hj, Bool.false_and]
        refine ⟨_, rfl, _, rfl, _, rfl, _, rfl, _, rfl, _, rfl, a, as, v, d, one, other, rfl, hA10, good, D10, short, w1, w2, fun X11 s11 => .inl ⟨_, rfl, _, rfl, .inl ⟨_, rfl, rfl, _, rfl, ifF ?_ ⟨s10.trans s11, _, _, rfl⟩⟩⟩⟩
        rw [ew, decide_eq_true rfl]
        rfl
      | true =>
        obtain ⟨b, rfl, hB, hin⟩ := joined_open D10 hj
        refine ⟨_, rfl, (by show 0 ≤ sizeLine; decide), fun p1 hp1 => ?_⟩
        have s11 := same_one s10 (o := .tup []) (s10.free hp1)
        have hB1 := sameT (same_one (Same.refl X10) hp1 (o := .tup [])) hB
        have e1 : (upd X10 p1 (.tup [])) p1 = some (.tup []) := upd_same
        generalize upd X10 p1 (.tup []) = X11 at s11 hB1 e1 ⊢
        refine ⟨_, _, .tup hB1 (dp_ints _), .tup (SqT.of e1) .nil, shaped_tupI _, rfl, ?_⟩
        rw [eqv_none]
        have hA11 := hA7.same s11
        have D11 := DpX.same s11 D7
        by_cases hl : idxs d = []
        · have ew : wayB as d one other = decide (one = other) := by
            unfold wayB
            rw [hj, Bool.true_and, if_pos hl]
          refine ⟨_, rfl, ifF (by rw [hl]; rfl) ⟨_, rfl, _, rfl, rfl, ?_⟩⟩
          rw [dec_str]
          refine ⟨_, rfl, _, rfl, ?_⟩
          cases q : decide (one = other) with
          | false =>
            refine ⟨_, rfl, _, rfl, _, rfl, _, rfl, a, as, _, d, one, other, rfl, hA11, good, D11, short, w1, w2, fun X12 s12 => .inl ⟨_, rfl, _, rfl, .inl ⟨_, rfl, rfl, _, rfl, ifF ?_ ⟨s11.trans s12, _, _, rfl⟩⟩⟩⟩
            rw [ew, q, decide_eq_true rfl]
            rfl
          | true =>
            refine ⟨_, rfl, (by show 0 ≤ sizeLine; decide), fun p2 hp2 => ?_⟩
            have s12 := same_one s11 (o := .tup []) (s11.free hp2)
            have hB2 := sameT (same_one (Same.refl X11) hp2 (o := .tup [])) hB1
            have e2 : (upd X11 p2 (.tup [])) p2 = some (.tup []) := upd_same
            generalize upd X11 p2 (.tup []) = X12 at s12 hB2 e2 ⊢
            refine ⟨_, _, .tup hB2 (dp_ints _), .tup (SqT.of e2) .nil, shaped_tupI _, rfl, _, rfl, ?_⟩
            rw [eqv_none]
            refine ifF (by rw [hl]; rfl) ⟨_, rfl, _, rfl, _, rfl, _, rfl, a, as, _, d, one, other, rfl, hA7.same s12, good, DpX.same s12 D7, short, w1, w2, fun X13 s13 => .inl ⟨_, rfl, _, rfl, .inl ⟨_, rfl, rfl, _, rfl, ifF ?_ ⟨s12.trans s13, _, _, rfl⟩⟩⟩⟩
            rw [ew, q, decide_eq_true rfl]
            rfl
        · obtain ⟨i0, rest, el⟩ : ∃ i0 rest, idxs d = i0 :: rest := by
            cases q : idxs d with
            | nil => exact absurd q hl
            | cons i0 rest => exact ⟨i0, rest, rfl⟩
          have ew : wayB as d one other = (decide ((as.getD i0 arc0).1 = one) && decide ((as.getD ((idxs d).getLastD 0) arc0).2.1 = other)) := by
            unfold wayB
            rw [hj, Bool.true_and, if_neg hl, el]
            rfl
          have g0 : i0 < as.length := hin i0 (by rw [el]; exact List.mem_cons_self)
          have g1 : (idxs d).getLastD 0 < as.length := hin _ (last_mem hl)
          refine ⟨_, rfl, ifT (by rw [el]; rfl) ?_⟩
          refine ⟨_, rfl, _, rfl, _, rfl, (by show 0 ≤ sizeLine; decide), fun p2 hp2 => ?_⟩
          have s12 := same_one s11 (o := .tup []) (s11.free hp2)
          have hB2 := sameT (same_one (Same.refl X11) hp2 (o := .tup [])) hB1
          have e2 : (upd X11 p2 (.tup [])) p2 = some (.tup []) := upd_same
          generalize upd X11 p2 (.tup []) = X12 at s12 hB2 e2 ⊢
          refine ⟨_, _, .tup hB2 (dp_ints _), .tup (SqT.of e2) .nil, shaped_tupI _, rfl, _, rfl, ?_⟩
          rw [eqv_none]
          refine ifT (by rw [el]; rfl) ?_
          obtain ⟨xs, c0, t0, a0, u0⟩ := arc_at (hA7.same s12) g0
          refine ⟨_, rfl, _, rfl, (by show 2 ≤ sizeLine; decide), fun p3 hp3 => ?_⟩
          have s13 := same_one s12 (o := .tup [.str one, .str other]) (s12.free hp3)
          have m3 := same_one (Same.refl X12) hp3 (o := .tup [.str one, .str other])
          have e3 : (upd X12 p3 (.tup [.str one, .str other])) p3 = some (.tup [.str one, .str other]) := upd_same
          generalize upd X12 p3 (.tup [.str one, .str other]) = X13 at s13 m3 e3 ⊢
          have hB3 := sameT m3 hB2
          obtain ⟨xs', c1, t1, a1', u1⟩ := arc_at (hA7.same s13) g1
          refine ⟨_, rfl, _, rfl, b, _, _, _, rfl, rfl, hB3, atI_nat (j := 0) (by rw [el]; rfl), a, xs, (i0 : Nat), _, rfl, rfl, sameT m3 t0, a0, c0, _, _, _, rfl, rfl, sameT m3 u0, rfl, ?_⟩
          refine ⟨_, rfl, _, rfl, 1, rfl, b, _, -1, _, rfl, rfl, hB3, at_last hl, a, xs', ((idxs d).getLastD 0 : Nat), _, rfl, rfl, t1, a1', c1, _, _, _, rfl, rfl, u1, rfl, (by show 2 ≤ sizeLine; decide), fun p4 hp4 => ?_⟩
          have s14 := same_one s13 (o := .tup [.str (as.getD i0 arc0).1, .str (as.getD ((idxs d).getLastD 0) arc0).2.1]) (s13.free hp4)
          have m4 := same_one (Same.refl X13) hp4 (o := .tup [.str (as.getD i0 arc0).1, .str (as.getD ((idxs d).getLastD 0) arc0).2.1])
          have e4 := m4 _ _ e3
          refine ⟨_, _, .tup (SqT.of e4) (.cons (.str one) (.cons (.str other) .nil)), .tup (SqT.of upd_same) (.cons (.str _) (.cons (.str _) .nil)), shaped_pair (name_good good w1) (name_good good w2), shaped_pair (name_good good (arc_names g0).1) (name_good good (arc_names g1).2), ?_⟩
          rw [eqv_pair, ← ew]
          refine ⟨_, rfl, _, rfl, _, rfl, _, rfl, a, as, _, d, one, other, rfl, hA7.same s14, good, DpX.same s14 D7, short, w1, w2, fun X15 s15 => .inl ⟨_, rfl, _, rfl, .inl ⟨_, rfl, rfl, _, rfl, ifF ?_ ⟨s14.trans s15, _, _, rfl⟩⟩⟩⟩
          rw [decide_eq_true rfl]
          rfl
    · subst eσ
      refine ⟨_, rfl, _, rfl, (by show 2 ≤ sizeLine; decide), fun p2 hp2 => .inr ⟨p2, .tuple [arcsD as, d], rfl, ?_, szp.1, Nat.le_trans szp.2.1 (by decide), Nat.le_trans szp.2.2 (by omega), _, rfl, rfl, _, rfl, ifF (by rw [decide_eq_true rfl]; rfl) ⟨(b7.of s8).of (same_one (Same.refl _) hp2), _, _, _, _, _, _, _, rfl⟩⟩⟩
      have s9 := same_one s8 (o := .tup [.ref a, v]) (s8.free hp2)
      exact .tup (SqT.of upd_same) (.cons (hA7.same s9).dp (.cons (DpX.same s9 D7) .nil))
end
end K01

set_option Elab.async false
set_option linter.all false
set_option maxRecDepth 100000
set_option maxHeartbeats 4000000
namespace K01
open PySem PySem.Spec PyProof.Rows L2 LW RZ
abbrev sFormsRight : Stmt := top 32
structure TxtG (K : PySem.W.Frag) (mg : Str → Option Value) (fP fN fI fA : Addr) (fdP fdN fdI fdA : FuncData) : Prop where
  gP : mg "_law_pick" = some (.ref fP)
  kP : PySem.W.keepIn K (.ref fP) = true
  bP : Binds K fdP ["stream", "items"] []
  gN : mg "_law_names" = some (.ref fN)
  kN : PySem.W.keepIn K (.ref fN) = true
  bN : Binds K fdN ["stream", "total"] []
  gI : mg "is_name" = some (.ref fI)
  kI : PySem.W.keepIn K (.ref fI) = true
  bI : Binds K fdI ["value"] []
  gA : mg "is_arcs" = some (.ref fA)
  kA : PySem.W.keepIn K (.ref fA) = true
  bA : Binds K fdA ["value"] []
  repr : mg "repr" = none
  list : mg "list" = none
/-- _law_forms_right(stream, arcs) -/
def spForms (K : PySem.W.Frag) : Sp := fun vs H Q _ => ∃ (l a : Addr) (as : List Arc), vs = [.ref l, .ref a] ∧ St3 H l ∧ ArcsAt K (delH H l) a as ∧ okArcs as = true ∧ as.length ≤ 100 ∧ ∀ H', Aft l H H' → Q (.bl true) H'
theorem dpx_app {K : PySem.W.Frag} {H : Hp} : ∀ {xs ys : List V} {ds es : List PyData}, DpXAll K H xs ds → DpXAll K H ys es → DpXAll K H (xs ++ ys) (ds ++ es)
  | _, _, _, _, .nil, h => h
  | _, _, _, _, .cons h t, g => .cons h (dpx_app t g)
/-- no name -/
def BadV (K : PySem.W.Frag) (l : Addr) (H : Hp) (v : V) : Prop := ∃ d, DpX K (delH H l) v d ∧ nameB d = false ∧ shortS d = true
/-- no arc -/
def OddV (K : PySem.W.Frag) (l : Addr) (H : Hp) (v : V) : Prop := ∃ d, DpX K (delH H l) v d ∧ arcB d = false ∧ shortA d = true
section
variable {P : Program} {w : World} {K : PySem.W.Frag} {mg : Str → Option Value} {base : Heap}
theorem scFR : FnScope ["stream", "arcs", "bad", "name", "other", "odd", "spoilt", "told"] ["stream", "arcs"] (defScope sFormsRight) := ⟨rfl, rfl, rfl, by decide +kernel, rfl, by decide +kernel, by decide +kernel⟩
theorem ok_formsRight {f fP fN fI fA : Addr} {fd fdP fdN fdI fdA : FuncData} (F : Fun K "_law_forms_right" "_law_forms_right" sFormsRight f fd) (GP : FnOk P w K mg base CX0 2 fP fdP ["stream", "items"] (spPick K)) (GN : FnOk P w K mg base CX0 3 fN fdN ["stream", "total"] (spLNames K))
    (GI : FnOk P w K mg base CX0 1 fI fdI ["value"] (spD K shortS nameB)) (GA : FnOk P w K mg base CX0 3 fA fdA ["value"] (spD K shortAs arcsB)) (T : TxtG K mg fP fN fI fA fdP fdN fdI fdA) : FnG P w K mg base CX0 4 f fd ["stream", "arcs"] (spForms K) := by
  refine okG F scFR (fun vs H Q E h => ?_) (fun cdv A outer s H vs Q E hgd hr h => ?_)
  · obtain ⟨l, a, as, rfl, _⟩ := h
    rfl
  · obtain ⟨l, a, as, rfl, hS, hA, good, few, k⟩ := h
    refine ⟨_, (pss_cons (ps_set (i := 2) scFR.nd rfl (.inl rfl) (pe_lst (pa_cons pe_non (pa_cons pe_int (pa_cons pe_bl (pa_cons pe_str (pa_cons pe_str (pa_cons pe_str (pa_cons pe_str (pa_cons pe_str (pa_cons pe_str (pa_cons (pe_tup (pa_cons pe_str pa_nil)) (pa_cons (pe_lstN (pa_cons pe_str pa_nil)) (pa_cons pe_dnewK (pa_cons pe_str (pa_cons pe_str (pa_cons pe_str (pa_cons pe_str (pa_cons pe_str pa_nil)))))))))))))))))))
      (pss_cons (ps_par (i := 3) (j := 4) rfl scFR.nd rfl rfl (by decide) rfl rfl (pa_cons (pe_call GP (hr.mono (by decide)) rfl T.gP T.kP T.bP .nil pass0 (pa_cons (pv 0) (pa_cons (pv 2) pa_nil))) (pa_cons (pe_call GP (hr.mono (by decide)) rfl T.gP T.kP T.bP .nil pass0 (pa_cons (pv 0) (pa_cons (pe_call GN hr rfl T.gN T.kN T.bN .nil pass0 (pa_cons (pv 0) (pa_cons pe_int pa_nil))) pa_nil))) pa_nil)) (by rfl))
      (pss_cons (ps_set (i := 5) scFR.nd rfl (.inl rfl) (pe_lst (pa_cons (pe_tup (pa_cons (pv 3) (pa_cons (pv 4) (pa_cons pe_int pa_nil)))) (pa_cons (pe_tup (pa_cons (pv 4) (pa_cons (pv 3) (pa_cons pe_int pa_nil)))) (pa_cons (pe_tup (pa_cons (pv 4) (pa_cons (pv 4) (pa_cons pe_bl pa_nil)))) (pa_cons (pe_tup (pa_cons (pv 4) (pa_cons (pv 4) (pa_cons pe_str pa_nil)))) (pa_cons (pe_tup (pa_cons (pv 4) (pa_cons (pv 4) pa_nil))) (pa_cons (pv 4) (pa_cons pe_non pa_nil)))))))))
      (pss_cons (ps_set (i := 5) scFR.nd rfl (.inl rfl) (pe_op op_cat (pv 5) (pe_lst (pa_cons (pe_tup (pa_cons (pv 4) (pa_cons (pv 4) (pa_cons pe_int (pa_cons pe_int pa_nil))))) (pa_cons (pe_lstN (pa_cons (pv 4) (pa_cons (pv 4) (pa_cons pe_int pa_nil)))) (pa_cons (pe_tup (pa_cons (pv 4) (pa_cons (pv 4) (pa_cons pe_non pa_nil)))) pa_nil))))))
      (pss_cons (ps_set (i := 6) scFR.nd rfl (.inl rfl) (pe_op op_catA (pv 1) (pe_tup (pa_cons (pe_call GP (hr.mono (by decide)) rfl T.gP T.kP T.bP .nil pass0 (pa_cons (pv 0) (pa_cons (pv 5) pa_nil))) pa_nil))))
      (pss_cons (ps_set (i := 7) scFR.nd rfl (.inl rfl) (pe_lstN (pa_cons (pe_call GI (hr.mono (by decide)) rfl T.gI T.kI T.bI .nil pass0 (pa_cons (pv 3) pa_nil)) (pa_cons (pe_call GI (hr.mono (by decide)) rfl T.gI T.kI T.bI .nil pass0 (pa_cons (pv 4) pa_nil)) (pa_cons (pe_call GI (hr.mono (by decide)) rfl T.gI T.kI T.bI .nil pass0 (pa_cons pe_str pa_nil)) (pa_cons (pe_call GA hr rfl T.gA T.kA T.bA .nil pass0 (pa_cons (pv 1) pa_nil)) (pa_cons (pe_call GA hr rfl T.gA T.kA T.bA .nil pass0 (pa_cons (pv 6) pa_nil)) (pa_cons (pe_call GA hr rfl T.gA T.kA T.bA .nil pass0 (pa_cons (pe_callTy call_listT (by rfl) T.list (by decide +kernel) (pa_cons (pv 1) pa_nil)) pa_nil)) pa_nil))))))))
      (pss_one (ps_ret (pe_cmpR op_eq (pe_callB (call_reprE hgd hr.units) (by rfl) T.repr (by decide +kernel) (pa_cons (pv 7) pa_nil)) (pe_callB (call_reprE hgd hr.units) (by rfl) T.repr (by decide +kernel) (pa_cons (pe_lstN (pa_cons pe_bl (pa_cons pe_bl (pa_cons pe_bl (pa_cons pe_bl (pa_cons pe_bl (pa_cons pe_bl pa_nil))))))) pa_nil)) (nomark _)))))))))), ?_⟩
    have A0 : Aft l H H := Aft.refl hS
    refine ⟨(by show 1 ≤ sizeLine; decide), fun p1 h1 => ?_⟩
    have A1 := A0.put (o := .tup [.str "a"]) h1 (A0.ne h1)
    have s1 := same_one (Same.refl H) h1 (o := .tup [.str "a"])
    have e1 : (upd H p1 (.tup [.str "a"])) p1 = some (.tup [.str "a"]) := upd_same
    have n1 := A0.ne h1
    generalize upd H p1 (.tup [.str "a"]) = X1 at A1 s1 e1 ⊢
    refine ⟨(by show 1 ≤ sizeLine; decide), fun p2 h2 y2 => ?_⟩
    have n2 := A1.ne h2
    have A2 := A1.put (o := .lst [.str "a"]) (A1.free h2) n2
    have s2 := same_one s1 (A1.free h2) (o := .lst [.str "a"])
    have e1 : (upd X1 p2 (.lst [.str "a"])) p1 = some (.tup [.str "a"]) := same_one (Same.refl X1) h2 _ _ e1
    have e2 : (upd X1 p2 (.lst [.str "a"])) p2 = some (.lst [.str "a"]) := upd_same
    generalize upd X1 p2 (.lst [.str "a"]) = X2 at A2 s2 e1 e2 ⊢
    refine fun p3 h3 => ?_
    have n3 := A2.ne h3
    have A3 := A2.put (o := .dK []) (A2.free h3) n3
    have e1 : (upd X2 p3 (.dK [])) p1 = some (.tup [.str "a"]) := same_one (Same.refl X2) h3 _ _ e1
    have e2 : (upd X2 p3 (.dK [])) p2 = some (.lst [.str "a"]) := same_one (Same.refl X2) h3 _ _ e2
    have e3 : (upd X2 p3 (.dK [])) p3 = some (.dK []) := upd_same
    generalize upd X2 p3 (.dK []) = X3 at A3 e1 e2 e3 ⊢
    refine ⟨(by show 17 ≤ sizeLine; decide), fun p4 h4 => ?_⟩
    have n4 := A3.ne h4
    have A4 := A3.put (o := .lst [.non, .int 0, .bl true, .str "", .str "A", .str "a1", .str "a b", .str "abcdefghi", .str "a\n", .ref p1, .ref p2, .ref p3, .str "start ", .str " a", .str "a-", .str "a_", .str "aB"]) (A3.free h4) n4
    have m4 := same_one (Same.refl X3) h4 (o := .lst [.non, .int 0, .bl true, .str "", .str "A", .str "a1", .str "a b", .str "abcdefghi", .str "a\n", .ref p1, .ref p2, .ref p3, .str "start ", .str " a", .str "a-", .str "a_", .str "aB"])
    have e4 : (upd X3 p4 (.lst [.non, .int 0, .bl true, .str "", .str "A", .str "a1", .str "a b", .str "abcdefghi", .str "a\n", .ref p1, .ref p2, .ref p3, .str "start ", .str " a", .str "a-", .str "a_", .str "aB"])) p4 = some (.lst [.non, .int 0, .bl true, .str "", .str "A", .str "a1", .str "a b", .str "abcdefghi", .str "a\n", .ref p1, .ref p2, .ref p3, .str "start ", .str " a", .str "a-", .str "a_", .str "aB"]) := upd_same
    generalize upd X3 p4 (.lst [.non, .int 0, .bl true, .str "", .str "A", .str "a1", .str "a b", .str "abcdefghi", .str "a\n", .ref p1, .ref p2, .ref p3, .str "start ", .str " a", .str "a-", .str "a_", .str "aB"]) = X4 at A4 m4 e4 ⊢
    have bads : ∀ v ∈ ([.non, .int 0, .bl true, .str "", .str "A", .str "a1", .str "a b", .str "abcdefghi", .str "a\n", .ref p1, .ref p2, .ref p3, .str "start ", .str " a", .str "a-", .str "a_", .str "aB"] : List V), BadV K l X4 v := fun v hv => by
      have g1 : SqT K (delH X4 l) p1 [.str "a"] := SqT.of (by rw [delH_ne n1]; exact m4 _ _ e1)
      have g2 : SqL K (delH X4 l) p2 [.str "a"] := SqL.of (by rw [delH_ne n2]; exact m4 _ _ e2)
      have g3 : delH X4 l p3 = some (.dK []) := by rw [delH_ne n3]; exact m4 _ _ e3
      simp only [List.mem_cons, List.not_mem_nil, or_false] at hv
      rcases hv with rfl | rfl | rfl | rfl | rfl | rfl | rfl | rfl | rfl | rfl | rfl | rfl | rfl | rfl | rfl | rfl | rfl
      · exact ⟨.none, .non, rfl, rfl⟩
      · exact ⟨.int 0, .int 0, rfl, rfl⟩
      · exact ⟨.bool true, .bl true, rfl, rfl⟩
      · exact ⟨_, .str _, by decide +kernel, by decide +kernel⟩
      · exact ⟨_, .str _, by decide +kernel, by decide +kernel⟩
      · exact ⟨_, .str _, by decide +kernel, by decide +kernel⟩
      · exact ⟨_, .str _, by decide +kernel, by decide +kernel⟩
      · exact ⟨_, .str _, by decide +kernel, by decide +kernel⟩
      · exact ⟨_, .str _, by decide +kernel, by decide +kernel⟩
      · exact ⟨_, .tup g1 (.cons (.str _) .nil), rfl, rfl⟩
      · exact ⟨_, .lst y2 g2 (.cons (.str _) .nil), rfl, rfl⟩
      · exact ⟨_, .dK g3 .nil, rfl, rfl⟩
      · exact ⟨_, .str _, by decide +kernel, by decide +kernel⟩
      · exact ⟨_, .str _, by decide +kernel, by decide +kernel⟩
      · exact ⟨_, .str _, by decide +kernel, by decide +kernel⟩
      · exact ⟨_, .str _, by decide +kernel, by decide +kernel⟩
      · exact ⟨_, .str _, by decide +kernel, by decide +kernel⟩
    refine ⟨_, rfl, _, rfl, l, p4, _, rfl, A4.st, n4, .inl (SqL.of e4), (by show 0 < 17; decide), (by show 17 < 1000000; decide), fun v x y z hv => ?_⟩
    obtain ⟨d, D, dbad, dsh⟩ := bads v hv
    have A5 : Aft l H (upd X4 l (.lst [.int x, .int y, .int z])) := A4.draw
    have D5 := DpX.same (Aft.draw (x := x) (y := y) (z := z) (Aft.refl A4.st)).same D
    clear e4 e1 e2 e3 m4 bads D hv
    generalize upd X4 l (.lst [.int x, .int y, .int z]) = X5 at A5 D5 ⊢
    refine ⟨_, rfl, _, rfl, l, 20, rfl, A5.st, by decide, by decide, fun pN X6 ns a6 f6 eN l1 l20 goodN => ?_⟩
    have A6 := A5.trans a6
    have nN : pN ≠ l := by
      obtain ⟨x, y, z, q⟩ := A5.st
      rintro rfl
      rw [q] at f6
      cases f6
    refine ⟨l, pN, _, rfl, A6.st, nN, .inl (SqL.of eN), by rw [List.length_map]; omega, by rw [List.length_map]; omega, fun u x y z hu => ?_⟩
    obtain ⟨other, mo, rfl⟩ := List.mem_map.mp hu
    have og := goodN other mo
    have A7 : Aft l H (upd X6 l (.lst [.int x, .int y, .int z])) := A6.draw
    have D7 := DpX.same (Aft.draw (x := x) (y := y) (z := z) a6).same D5
    generalize upd X6 l (.lst [.int x, .int y, .int z]) = X7 at A7 D7 ⊢
    clear A6 a6 eN hu
    refine ⟨_, _, rfl, ?_⟩
    refine ⟨_, rfl, _, rfl, (by show 3 ≤ sizeLine; decide), fun p8 h8 => ?_⟩
    have n8 := A7.ne h8
    have A8 := A7.put (o := (.tup [v, .str other, .int 1])) (A7.free h8) n8
    have m8 : Same X7 (upd X7 p8 (.tup [v, .str other, .int 1])) := same_one (Same.refl X7) h8
    have e8 : (upd X7 p8 (.tup [v, .str other, .int 1])) p8 = some (.tup [v, .str other, .int 1]) := upd_same
    generalize upd X7 p8 (.tup [v, .str other, .int 1]) = X8 at A8 m8 e8 ⊢
    refine ⟨_, rfl, _, rfl, (by show 3 ≤ sizeLine; decide), fun p9 h9 => ?_⟩
    have n9 := A8.ne h9
    have A9 := A8.put (o := (.tup [.str other, v, .int 1])) (A8.free h9) n9
    have m9 : Same X8 (upd X8 p9 (.tup [.str other, v, .int 1])) := same_one (Same.refl X8) h9
    have e9 : (upd X8 p9 (.tup [.str other, v, .int 1])) p9 = some (.tup [.str other, v, .int 1]) := upd_same
    generalize upd X8 p9 (.tup [.str other, v, .int 1]) = X9 at A9 m9 e9 ⊢
    have e8 := m9 _ _ e8
    refine ⟨_, rfl, _, rfl, (by show 3 ≤ sizeLine; decide), fun p10 h10 => ?_⟩
    have n10 := A9.ne h10
    have A10 := A9.put (o := (.tup [.str other, .str other, .bl true])) (A9.free h10) n10
    have m10 : Same X9 (upd X9 p10 (.tup [.str other, .str other, .bl true])) := same_one (Same.refl X9) h10
    have e10 : (upd X9 p10 (.tup [.str other, .str other, .bl true])) p10 = some (.tup [.str other, .str other, .bl true]) := upd_same
    generalize upd X9 p10 (.tup [.str other, .str other, .bl true]) = X10 at A10 m10 e10 ⊢
    have e8 := m10 _ _ e8
    have e9 := m10 _ _ e9
    refine ⟨_, rfl, _, rfl, (by show 3 ≤ sizeLine; decide), fun p11 h11 => ?_⟩
    have n11 := A10.ne h11
    have A11 := A10.put (o := (.tup [.str other, .str other, .str "1"])) (A10.free h11) n11
    have m11 : Same X10 (upd X10 p11 (.tup [.str other, .str other, .str "1"])) := same_one (Same.refl X10) h11
    have e11 : (upd X10 p11 (.tup [.str other, .str other, .str "1"])) p11 = some (.tup [.str other, .str other, .str "1"]) := upd_same
    generalize upd X10 p11 (.tup [.str other, .str other, .str "1"]) = X11 at A11 m11 e11 ⊢
    have e8 := m11 _ _ e8
    have e9 := m11 _ _ e9
    have e10 := m11 _ _ e10
    refine ⟨_, rfl, _, rfl, (by show 2 ≤ sizeLine; decide), fun p12 h12 => ?_⟩
    have n12 := A11.ne h12
    have A12 := A11.put (o := (.tup [.str other, .str other])) (A11.free h12) n12
    have m12 : Same X11 (upd X11 p12 (.tup [.str other, .str other])) := same_one (Same.refl X11) h12
    have e12 : (upd X11 p12 (.tup [.str other, .str other])) p12 = some (.tup [.str other, .str other]) := upd_same
    generalize upd X11 p12 (.tup [.str other, .str other]) = X12 at A12 m12 e12 ⊢
    have e8 := m12 _ _ e8
    have e9 := m12 _ _ e9
    have e10 := m12 _ _ e10
    have e11 := m12 _ _ e11
    refine ⟨_, rfl, (by show 7 ≤ sizeLine; decide), fun p13 h13 => ?_⟩
    have n13 := A12.ne h13
    have A13 := A12.put (o := (.lst [.ref p8, .ref p9, .ref p10, .ref p11, .ref p12, .str other, .non])) (A12.free h13) n13
    have m13 : Same X12 (upd X12 p13 (.lst [.ref p8, .ref p9, .ref p10, .ref p11, .ref p12, .str other, .non])) := same_one (Same.refl X12) h13
    have e13 : (upd X12 p13 (.lst [.ref p8, .ref p9, .ref p10, .ref p11, .ref p12, .str other, .non])) p13 = some (.lst [.ref p8, .ref p9, .ref p10, .ref p11, .ref p12, .str other, .non]) := upd_same
    generalize upd X12 p13 (.lst [.ref p8, .ref p9, .ref p10, .ref p11, .ref p12, .str other, .non]) = X13 at A13 m13 e13 ⊢
    have e8 := m13 _ _ e8
    have e9 := m13 _ _ e9
    have e10 := m13 _ _ e10
    have e11 := m13 _ _ e11
    have e12 := m13 _ _ e12
    refine ⟨_, rfl, _, rfl, _, rfl, (by show 4 ≤ sizeLine; decide), fun p14 h14 => ?_⟩
    have n14 := A13.ne h14
    have A14 := A13.put (o := (.tup [.str other, .str other, .int 1, .int 1])) (A13.free h14) n14
    have m14 : Same X13 (upd X13 p14 (.tup [.str other, .str other, .int 1, .int 1])) := same_one (Same.refl X13) h14
    have e14 : (upd X13 p14 (.tup [.str other, .str other, .int 1, .int 1])) p14 = some (.tup [.str other, .str other, .int 1, .int 1]) := upd_same
    generalize upd X13 p14 (.tup [.str other, .str other, .int 1, .int 1]) = X14 at A14 m14 e14 ⊢
    have e8 := m14 _ _ e8
    have e9 := m14 _ _ e9
    have e10 := m14 _ _ e10
    have e11 := m14 _ _ e11
    have e12 := m14 _ _ e12
    have e13 := m14 _ _ e13
    refine ⟨_, rfl, _, rfl, (by show 3 ≤ sizeLine; decide), fun p15 h15 y7 => ?_⟩
    have n15 := A14.ne h15
    have A15 := A14.put (o := (.lst [.str other, .str other, .int 1])) (A14.free h15) n15
    have m15 : Same X14 (upd X14 p15 (.lst [.str other, .str other, .int 1])) := same_one (Same.refl X14) h15
    have e15 : (upd X14 p15 (.lst [.str other, .str other, .int 1])) p15 = some (.lst [.str other, .str other, .int 1]) := upd_same
    generalize upd X14 p15 (.lst [.str other, .str other, .int 1]) = X15 at A15 m15 e15 ⊢
    have e8 := m15 _ _ e8
    have e9 := m15 _ _ e9
    have e10 := m15 _ _ e10
    have e11 := m15 _ _ e11
    have e12 := m15 _ _ e12
    have e13 := m15 _ _ e13
    have e14 := m15 _ _ e14
    refine ⟨_, rfl, _, rfl, (by show 3 ≤ sizeLine; decide), fun p16 h16 => ?_⟩
    have n16 := A15.ne h16
    have A16 := A15.put (o := (.tup [.str other, .str other, .non])) (A15.free h16) n16
    have m16 : Same X15 (upd X15 p16 (.tup [.str other, .str other, .non])) := same_one (Same.refl X15) h16
    have e16 : (upd X15 p16 (.tup [.str other, .str other, .non])) p16 = some (.tup [.str other, .str other, .non]) := upd_same
    generalize upd X15 p16 (.tup [.str other, .str other, .non]) = X16 at A16 m16 e16 ⊢
    have e8 := m16 _ _ e8
    have e9 := m16 _ _ e9
    have e10 := m16 _ _ e10
    have e11 := m16 _ _ e11
    have e12 := m16 _ _ e12
    have e13 := m16 _ _ e13
    have e14 := m16 _ _ e14
    have e15 := m16 _ _ e15
    refine ⟨(by show 3 ≤ sizeLine; decide), fun p17 h17 => ?_⟩
    have n17 := A16.ne h17
    have A17 := A16.put (o := (.lst [.ref p14, .ref p15, .ref p16])) (A16.free h17) n17
    have m17 : Same X16 (upd X16 p17 (.lst [.ref p14, .ref p15, .ref p16])) := same_one (Same.refl X16) h17
    have e17 : (upd X16 p17 (.lst [.ref p14, .ref p15, .ref p16])) p17 = some (.lst [.ref p14, .ref p15, .ref p16]) := upd_same
    generalize upd X16 p17 (.lst [.ref p14, .ref p15, .ref p16]) = X17 at A17 m17 e17 ⊢
    have e8 := m17 _ _ e8
    have e9 := m17 _ _ e9
    have e10 := m17 _ _ e10
    have e11 := m17 _ _ e11
    have e12 := m17 _ _ e12
    have e13 := m17 _ _ e13
    have e14 := m17 _ _ e14
    have e15 := m17 _ _ e15
    have e16 := m17 _ _ e16
    refine ⟨p13, p17, _, _, rfl, rfl, e13, e17, (by show 10 ≤ sizeLine; decide), fun p18 h18 => ?_⟩
    have n18 := A17.ne h18
    have A18 := A17.put (o := (.lst ([.ref p8, .ref p9, .ref p10, .ref p11, .ref p12, .str other, .non] ++ [.ref p14, .ref p15, .ref p16]))) (A17.free h18) n18
    have m18 : Same X17 (upd X17 p18 (.lst ([.ref p8, .ref p9, .ref p10, .ref p11, .ref p12, .str other, .non] ++ [.ref p14, .ref p15, .ref p16]))) := same_one (Same.refl X17) h18
    have e18 : (upd X17 p18 (.lst ([.ref p8, .ref p9, .ref p10, .ref p11, .ref p12, .str other, .non] ++ [.ref p14, .ref p15, .ref p16]))) p18 = some (.lst ([.ref p8, .ref p9, .ref p10, .ref p11, .ref p12, .str other, .non] ++ [.ref p14, .ref p15, .ref p16])) := upd_same
    generalize upd X17 p18 (.lst ([.ref p8, .ref p9, .ref p10, .ref p11, .ref p12, .str other, .non] ++ [.ref p14, .ref p15, .ref p16])) = X18 at A18 m18 e18 ⊢
    have e8 := m18 _ _ e8
    have e9 := m18 _ _ e9
    have e10 := m18 _ _ e10
    have e11 := m18 _ _ e11
    have e12 := m18 _ _ e12
    have e13 := m18 _ _ e13
    have e14 := m18 _ _ e14
    have e15 := m18 _ _ e15
    have e16 := m18 _ _ e16
    have e17 := m18 _ _ e17
    have mm := (Same.trans (Same.trans (Same.trans (Same.trans (Same.trans (Same.trans (Same.trans (Same.trans (Same.trans (Same.trans m8 m9) m10) m11) m12) m13) m14) m15) m16) m17) m18)
    have DN := DpX.same (sameD mm) D7
    have os : shortS (.str other) = true := by
      have q : (decide (1 ≤ other.length) && decide (other.length ≤ 8) && _) = true := og
      rw [Bool.and_eq_true, Bool.and_eq_true, decide_eq_true_eq, decide_eq_true_eq] at q
      exact decide_eq_true (by omega)
    have odds : ∀ o ∈ ([.ref p8, .ref p9, .ref p10, .ref p11, .ref p12, .str other, .non] ++ [.ref p14, .ref p15, .ref p16] : List V), OddV K l X18 o := fun o ho => by
      have g8 : SqT K (delH X18 l) p8 _ := SqT.of (by rw [delH_ne n8]; exact e8)
      have g9 : SqT K (delH X18 l) p9 _ := SqT.of (by rw [delH_ne n9]; exact e9)
      have g10 : SqT K (delH X18 l) p10 _ := SqT.of (by rw [delH_ne n10]; exact e10)
      have g11 : SqT K (delH X18 l) p11 _ := SqT.of (by rw [delH_ne n11]; exact e11)
      have g12 : SqT K (delH X18 l) p12 _ := SqT.of (by rw [delH_ne n12]; exact e12)
      have g14 : SqT K (delH X18 l) p14 _ := SqT.of (by rw [delH_ne n14]; exact e14)
      have g16 : SqT K (delH X18 l) p16 _ := SqT.of (by rw [delH_ne n16]; exact e16)
      have g15 : SqL K (delH X18 l) p15 _ := SqL.of (by rw [delH_ne n15]; exact e15)
      simp only [List.cons_append, List.nil_append, List.mem_cons, List.not_mem_nil, or_false] at ho
      rcases ho with rfl | rfl | rfl | rfl | rfl | rfl | rfl | rfl | rfl | rfl
      · exact ⟨_, .tup g8 (.cons DN (.cons (.str _) (.cons (.int _) .nil))), by show (nameB d && _ && _) = false; rw [dbad]; rfl, by show (shortS d && (shortS _ && true)) = true; rw [dsh, os]; rfl⟩
      · exact ⟨_, .tup g9 (.cons (.str _) (.cons DN (.cons (.int _) .nil))), by show (_ && nameB d && _) = false; rw [dbad, Bool.and_false]; rfl, by show (shortS _ && (shortS d && true)) = true; rw [dsh, os]; rfl⟩
      · exact ⟨_, .tup g10 (.cons (.str _) (.cons (.str _) (.cons (.bl _) .nil))), Bool.and_false _, by show (shortS _ && (shortS _ && true)) = true; rw [os]; rfl⟩
      · exact ⟨_, .tup g11 (.cons (.str _) (.cons (.str _) (.cons (.str _) .nil))), Bool.and_false _, by show (shortS _ && (shortS _ && (shortS _ && true))) = true; rw [os]; decide +kernel⟩
      · exact ⟨_, .tup g12 (.cons (.str _) (.cons (.str _) .nil)), rfl, by show (shortS _ && (shortS _ && true)) = true; rw [os]; rfl⟩
      · exact ⟨_, .str _, rfl, rfl⟩
      · exact ⟨_, .non, rfl, rfl⟩
      · exact ⟨_, .tup g14 (.cons (.str _) (.cons (.str _) (.cons (.int _) (.cons (.int _) .nil)))), rfl, by show (shortS _ && (shortS _ && true)) = true; rw [os]; rfl⟩
      · exact ⟨_, .lst y7 g15 (.cons (.str _) (.cons (.str _) (.cons (.int _) .nil))), rfl, rfl⟩
      · exact ⟨_, .tup g16 (.cons (.str _) (.cons (.str _) (.cons .non .nil))), Bool.and_false _, by show (shortS _ && (shortS _ && true)) = true; rw [os]; rfl⟩
    refine ⟨_, rfl, _, rfl, _, rfl, l, p18, _, rfl, A18.st, n18, .inl (SqL.of e18), (by show 0 < 10; decide), (by show 10 < 1000000; decide), fun o x y z ho => ?_⟩
    obtain ⟨od, OD, obad, osh⟩ := odds o ho
    have B1 : Aft l H (upd X18 l (.lst [.int x, .int y, .int z])) := A18.draw
    have OD := DpX.same (Aft.draw (x := x) (y := y) (z := z) (Aft.refl A18.st)).same OD
    have DN := DpX.same (Aft.draw (x := x) (y := y) (z := z) (Aft.refl A18.st)).same DN
    generalize upd X18 l (.lst [.int x, .int y, .int z]) = Z1 at B1 OD DN ⊢
    refine ⟨(by show 1 ≤ sizeLine; decide), fun t ht => ?_⟩
    have B2 := B1.put (o := .tup [o]) (B1.free ht) (B1.ne ht)
    have z2 : Same Z1 (upd Z1 t (.tup [o])) := same_one (Same.refl Z1) ht
    have et : SqT K (upd Z1 t (.tup [o])) t [o] := SqT.of upd_same
    have OD := DpX.same (sameD z2) OD
    have DN := DpX.same (sameD z2) DN
    generalize upd Z1 t (.tup [o]) = Z2 at B2 et OD DN ⊢
    obtain ⟨xs, hT, hX⟩ := (hA.same B2.same).same delH_le
    have hx : xs.length = as.length := by rw [hX.len, List.length_map]
    have line : sizeLine = 16777216 := sizeLine_eq
    refine cat_read hT et (by show _ + 1 ≤ _; omega) fun r Z3 z3 tr => ?_
    have OD3 := DpX.same z3 (DpX.same delH_le OD)
    have DN3 := DpX.same z3 (DpX.same delH_le DN)
    have hX3 := DpXAll.same z3 hX
    have hA3 : ArcsAt K Z3 a as := ⟨xs, sameT z3 hT, hX3⟩
    have B3 := B2.of z3
    have spd : DpX K Z3 (.ref r) (.tuple (as.map arcD ++ [od])) := .tup tr (dpx_app hX3 (.cons OD3 .nil))
    have sps : shortAs (.tuple (as.map arcD ++ [od])) = true := by
      have q : (as.map arcD).all shortA = true := ok_short good
      show (as.map arcD ++ [od]).all shortA = true
      rw [List.all_append, q, Bool.true_and]
      show (shortA od && true) = true
      rw [osh]
      rfl
    have spb : arcsB (.tuple (as.map arcD ++ [od])) = false := by
      show (_ && (as.map arcD ++ [od]).all arcB) = false
      rw [List.all_append]
      show (_ && (_ && (arcB od && true))) = false
      rw [obad, Bool.false_and, Bool.and_false, Bool.and_false]
    have stb : nameB (.str "start") = true := by decide +kernel
    refine ⟨_, rfl, v, d, rfl, DN3, dsh, fun Z4 z4 => ?_⟩
    refine ⟨_, rfl, _, .str other, rfl, .str other, os, fun Z5 z5 => ?_⟩
    have z5 := z4.trans z5
    refine ⟨_, .str "start", rfl, .str _, (by decide +kernel), fun Z6 z6 => ?_⟩
    have z6 := z5.trans z6
    refine ⟨_, rfl, _, arcsD as, rfl, (hA3.same z6).dp, ok_short good, fun Z7 z7 => ?_⟩
    have z7 := z6.trans z7
    refine ⟨_, rfl, _, _, rfl, DpX.same z7 spd, sps, fun Z8 z8 => ?_⟩
    have z8 := z7.trans z8
    refine ⟨_, rfl, a, xs, rfl, sameT (z3.trans z8) hT, fun pL hL yL => ?_⟩
    have z9 := same_one z8 (o := .lst xs) (z8.free hL)
    refine ⟨_, .list (as.map arcD), rfl, .lst yL (SqL.of upd_same) (DpXAll.same z9 hX3), rfl, fun Z9 w9 => ?_⟩
    have z9 := z9.trans w9
    have lb : arcsB (.list (as.map arcD)) = false := rfl
    rw [dbad, og, stb, ok_good good, spb, lb]
    refine ⟨(by show 6 ≤ sizeLine; decide), fun pT hTn yT => ?_⟩
    have z10 := same_one z9 (o := .lst [.bl false, .bl true, .bl true, .bl true, .bl false, .bl false]) (z9.free hTn)
    have e10 : (upd Z9 pT (.lst [.bl false, .bl true, .bl true, .bl true, .bl false, .bl false])) pT = some (.lst [.bl false, .bl true, .bl true, .bl true, .bl false, .bl false]) := upd_same
    generalize upd Z9 pT (.lst [.bl false, .bl true, .bl true, .bl true, .bl false, .bl false]) = Z10 at z10 e10 ⊢
    have six : Sz 60 1000 (.list [.bool false, .bool true, .bool true, .bool true, .bool false, .bool false]) := (Sz.lst (k := 0) (n := 10) fun d hd => by
      simp only [List.mem_cons, List.not_mem_nil, or_false] at hd
      rcases hd with rfl | rfl | rfl | rfl | rfl | rfl <;> exact Sz.bool _).mono (by decide) (by show (10 + 2) * 6 + 3 ≤ 1000; decide)
    have all6 : ∀ H', DpXAll K H' [.bl false, .bl true, .bl true, .bl true, .bl false, .bl false] [.bool false, .bool true, .bool true, .bool true, .bool false, .bool false] := fun H' => .cons (.bl _) (.cons (.bl _) (.cons (.bl _) (.cons (.bl _) (.cons (.bl _) (.cons (.bl _) .nil)))))
    refine ⟨_, rfl, .inr ⟨pT, _, rfl, .lst yT (SqL.of e10) (all6 _), six.1, six.2.1, Nat.le_trans six.2.2 (by omega), (by show 6 ≤ sizeLine; decide), fun pU hU yU => .inr ⟨pU, _, rfl, .lst yU (SqL.of upd_same) (all6 _), six.1, six.2.1, Nat.le_trans six.2.2 (by omega), rfl, ?_⟩⟩⟩
    rw [decide_eq_true rfl]
    exact k _ ((B3.of z10).of (same_one (Same.refl _) hU))
end
end K01

set_option Elab.async false
set_option linter.all false
set_option maxRecDepth 100000
set_option maxHeartbeats 4000000
namespace K01
open PySem PySem.Spec PyProof.Rows L2 LW RZ
abbrev sLaw : Stmt := top 33
structure TxtJ (K : PySem.W.Frag) (mg : Str → Option Value) (fS fC fY fF fR fI fA fW : Addr) (fdS fdC fdY fdF fdR fdI fdA fdW : FuncData) : Prop where
  gS : mg "_law_stream" = some (.ref fS)
  kS : PySem.W.keepIn K (.ref fS) = true
  bS : Binds K fdS ["script", "at"] []
  gC : mg "_law_arcs" = some (.ref fC)
  kC : PySem.W.keepIn K (.ref fC) = true
  bC : Binds K fdC ["stream", "total", "most"] []
  gY : mg "_law_ways_right" = some (.ref fY)
  kY : PySem.W.keepIn K (.ref fY) = true
  bY : Binds K fdY ["stream", "arcs"] []
  gF : mg "_law_forms_right" = some (.ref fF)
  kF : PySem.W.keepIn K (.ref fF) = true
  bF : Binds K fdF ["stream", "arcs"] []
  gR : mg "is_ring" = some (.ref fR)
  kR : PySem.W.keepIn K (.ref fR) = true
  bR : Binds K fdR ["arcs", "value"] []
  gI : mg "is_name" = some (.ref fI)
  kI : PySem.W.keepIn K (.ref fI) = true
  bI : Binds K fdI ["value"] []
  gA : mg "is_arcs" = some (.ref fA)
  kA : PySem.W.keepIn K (.ref fA) = true
  bA : Binds K fdA ["value"] []
  gW : mg "is_way" = some (.ref fW)
  kW : PySem.W.keepIn K (.ref fW) = true
  bW : KBinds K fdW ["arcs", "value", "source", "target"] ["source", "target"] gKeep gKeep
  range : mg "range" = none
  max : mg "max" = none
  min : mg "min" = none
  len : mg "len" = none
def spLaw (K : PySem.W.Frag) : Sp := fun vs H Q _ => ∃ (a : Addr) (ns : List Int), vs = [.ref a] ∧ SqL K H a (ns.map V.int) ∧ ns.length ≤ 63 ∧ ∀ H', Q (.bl true) H'
def some5 : List Arc := [("a", "b", 3), ("b", "c", -5), ("c", "a", 1), ("a", "a", -1), ("a", "a", 0)]
theorem some5_ok : okArcs some5 = true := by decide +kernel
theorem some5_a : ("a" : Str) ∈ namesL some5 := by decide +kernel
def iD (l : List Int) : PyData := .tuple (l.map .int)
def valD : List PyData := [.tuple [.int 0, .int 1, .int 2], .tuple [.int 1, .int 2, .int 0], .tuple [.int 3], .tuple [.int 4], .tuple [.int 4, .int 3], .tuple [.int 0, .int 1], .tuple [.int 2, .int 3, .int 0, .int 1], .tuple []]
theorem valD_short : valD.all shortT = true := by decide +kernel
def told1 : List V := [.bl true, .bl true, .bl true, .bl false, .bl true, .bl false, .bl true, .bl false]
theorem told1_eq : ((List.range 8).map fun i => V.bl (ringB some5 (valD.getD i .none))) = told1 := by decide +kernel
def nameL : List Str := ["abcdefgh", "z", "zzzzzzzzz"]
theorem nameL_short : nameL.all (fun x => shortS (.str x)) = true := by decide +kernel
def namesB : List V := [.bl true, .bl true, .bl false]
theorem namesB_eq : ((List.range 3).map fun i => V.bl (nameB (.str (nameL.getD i "")))) = namesB := by decide +kernel
theorem dpx_app2 {K : PySem.W.Frag} {H : Hp} {xs ys : List V} {ds es : List PyData} (h : DpXAll K H xs ds) (g : DpXAll K H ys es) : DpXAll K H (xs ++ ys) (ds ++ es) := dpx_app h g
theorem dpx_rep {K : PySem.W.Frag} {H : Hp} {xs : List V} {ds : List PyData} (h : DpXAll K H xs ds) : ∀ n : Nat, DpXAll K H (List.replicate n xs).flatten (List.replicate n ds).flatten
  | 0 => .nil
  | n + 1 => by
    rw [List.replicate_succ, List.replicate_succ, List.flatten_cons, List.flatten_cons]
    exact dpx_app h (dpx_rep h n)
abbrev dMany1 : PyData := .tuple (List.replicate (400 : Int).toNat [PyData.tuple [.str "a", .str "b", .int (10 ^ (39 : Int).toNat)]]).flatten
abbrev dMany2 : PyData := .tuple (List.replicate (401 : Int).toNat [PyData.tuple [.str "a", .str "b", .int 0]]).flatten
abbrev dRing6 : PyData := .tuple (List.replicate (200 : Int).toNat [PyData.int 0, .int 1, .int 2]).flatten
abbrev dRing5 : PyData := .tuple (List.replicate (500 : Int).toNat [PyData.int 4]).flatten
theorem many1_short : shortAs dMany1 = true := by decide +kernel
theorem many2_short : shortAs dMany2 = true := by decide +kernel
theorem many1_eq : arcsB dMany1 = true := by decide +kernel
theorem many2_eq : arcsB dMany2 = false := by decide +kernel
theorem many3_eq : arcsB (.tuple []) = true := by decide +kernel
theorem ring6_short : shortT dRing6 = true := by decide +kernel
theorem ring5_short : shortT dRing5 = true := by decide +kernel
theorem ring6_eq : ringB some5 dRing6 = true := by decide +kernel
theorem ring5_eq : ringB some5 dRing5 = false := by decide +kernel
theorem way5_eq : wayB some5 dRing5 "a" "a" = true := by decide +kernel
theorem dp_bools {K : PySem.W.Frag} {H : Hp} : ∀ l : List Bool, DpAll K H (l.map V.bl) (l.map PyData.bool)
  | [] => .nil
  | b :: l => .cons (.bl b) (dp_bools l)
theorem turns6 (k : Nat) : 0 ≤ (if (if ((k : Int) < 6) then (k : Int) else 6) > 1 then (if ((k : Int) < 6) then (k : Int) else 6) else 1) ∧ (if (if ((k : Int) < 6) then (k : Int) else 6) > 1 then (if ((k : Int) < 6) then (k : Int) else 6) else 1) ≤ 6 := by
  constructor
  · split <;> split <;> omega
  · split <;> split <;> omega
section
variable {P : Program} {w : World} {K : PySem.W.Frag} {mg : Str → Option Value} {base : Heap}
theorem scLaw : FnScope ["script", "at", "stream", "turn", "arcs", "some", "told", "names", "many", "due", "value"] ["script"] (defScope sLaw) := ⟨rfl, rfl, rfl, by decide +kernel, rfl, by decide +kernel, by decide +kernel⟩
theorem ok_law {f fS fC fY fF fR fI fA fW : Addr} {fd fdS fdC fdY fdF fdR fdI fdA fdW : FuncData} (F : Fun K "law" "law" sLaw f fd) (GS : FnOk P w K mg base CX0 1 fS fdS ["script", "at"] (spStream K)) (GC : FnOk P w K mg base CX0 4 fC fdC ["stream", "total", "most"] (spLArcs K))
    (GY : FnG P w K mg base CX0 6 fY fdY ["stream", "arcs"] (spWaysRight K)) (GF : FnG P w K mg base CX0 4 fF fdF ["stream", "arcs"] (spForms K)) (GR : FnOk P w K mg base CX0 5 fR fdR ["arcs", "value"] (spRing K)) (GI : FnOk P w K mg base CX0 1 fI fdI ["value"] (spD K shortS nameB))
    (GA : FnOk P w K mg base CX0 3 fA fdA ["value"] (spD K shortAs arcsB)) (GW : FnOk P w K mg base CX0 5 fW fdW ["arcs", "value", "source", "target"] (spWay K)) (T : TxtJ K mg fS fC fY fF fR fI fA fW fdS fdC fdY fdF fdR fdI fdA fdW) : FnG P w K mg base CX0 7 f fd ["script"] (spLaw K) := by
  refine okG F scLaw (fun vs H Q E h => ?_) (fun cdv A outer s H vs Q E hgd hr h => ?_)
  · obtain ⟨a, ns, rfl, _⟩ := h
    rfl
  · obtain ⟨a, ns, rfl, hS, hl, k⟩ := h
    refine ⟨_, (pss_cons (ps_for PassesOwn.never rfl (pi_range1 (by rfl) T.range (pa_cons (pe_callB (call_max2 rfl) (by rfl) T.max (by decide +kernel) (pa_cons pe_int (pa_cons (pe_callB (call_min2 rfl) (by rfl) T.min (by decide +kernel) (pa_cons pe_int (pa_cons (pe_callB call_len_seq (by rfl) T.len (by decide +kernel) (pa_cons (pv 0) pa_nil)) pa_nil))) pa_nil))) pa_nil)) (pg_name (i := 1) scLaw.nd rfl (.inl rfl))
        (pss_cons (ps_set (i := 2) scLaw.nd rfl (.inl rfl) (pe_call GS (hr.mono (by decide)) rfl T.gS T.kS T.bS .nil pass0 (pa_cons (pv 0) (pa_cons (pv 1) pa_nil))))
        (pss_one (ps_for PassesOwn.never rfl (pi_range1 (by rfl) T.range (pa_cons pe_int pa_nil)) (pg_name (i := 3) scLaw.nd rfl (.inl rfl))
          (pss_cons (ps_set (i := 4) scLaw.nd rfl (.inl rfl) (pe_call GC (hr.mono (by decide)) rfl T.gC T.kC T.bC .nil pass0 (pa_cons (pv 2) (pa_cons pe_int (pa_cons pe_int pa_nil)))))
          (pss_one (ps_if (PW.pt (pw_or (pt_not (pt_val (pe_callG GY hgd hr rfl T.gY T.kY T.bY .nil pass0 (pa_cons (pv 2) (pa_cons (pv 4) pa_nil))))) (pw_or1 (pt_not (pt_val (pe_callG GF hgd (hr.mono (by decide)) rfl T.gF T.kF T.bF .nil pass0 (pa_cons (pv 2) (pa_cons (pv 4) pa_nil))))))))
            (pss_one (ps_ret pe_bl))
            pss_nil)))))))
      (pss_cons (ps_set (i := 5) scLaw.nd rfl (.inr rfl) (pe_tup (pa_cons (pe_tup (pa_cons pe_str (pa_cons pe_str (pa_cons pe_int pa_nil)))) (pa_cons (pe_tup (pa_cons pe_str (pa_cons pe_str (pa_cons (pe_un un_neg pe_int) pa_nil)))) (pa_cons (pe_tup (pa_cons pe_str (pa_cons pe_str (pa_cons pe_int pa_nil)))) (pa_cons (pe_tup (pa_cons pe_str (pa_cons pe_str (pa_cons (pe_un un_neg pe_int) pa_nil)))) (pa_cons (pe_tup (pa_cons pe_str (pa_cons pe_str (pa_cons pe_int pa_nil)))) pa_nil)))))))
      (pss_cons (ps_setLc (i := 6) (own := [("value", 10)]) (g := gName 10) (tt := tYes) rfl scLaw.nd rfl rfl (sw_true rfl rfl rfl (by decide +kernel)) (pi_tup (pe_tup (pa_cons (pe_tup (pa_cons pe_int (pa_cons pe_int (pa_cons pe_int pa_nil)))) (pa_cons (pe_tup (pa_cons pe_int (pa_cons pe_int (pa_cons pe_int pa_nil)))) (pa_cons (pe_tup (pa_cons pe_int pa_nil)) (pa_cons (pe_tup (pa_cons pe_int pa_nil)) (pa_cons (pe_tup (pa_cons pe_int (pa_cons pe_int pa_nil))) (pa_cons (pe_tup (pa_cons pe_int (pa_cons pe_int pa_nil))) (pa_cons (pe_tup (pa_cons pe_int (pa_cons pe_int (pa_cons pe_int (pa_cons pe_int pa_nil))))) (pa_cons (pe_tup pa_nil) pa_nil)))))))))) (blkOk_by (own := [("value", 10)]) (N := ["script", "at", "stream", "turn", "arcs", "some", "told", "names", "many", "due", "value"]) (sc := defScope sLaw) (by decide +kernel)) (fun _ _ _ _ _ => (pg_name (i := 10) scLaw.nd rfl (.inl rfl))) (fun _ _ _ _ _ => pts_nil) (fun _ _ _ _ _ => (pe_call GR (hr.mono (by decide)) rfl T.gR T.kR T.bR .nil pass0 (pa_cons (pv 5) (pa_cons (pv 10) pa_nil)))))
      (pss_cons (ps_setLc (i := 7) (own := [("value", 10)]) (g := gName 10) (tt := tYes) rfl scLaw.nd rfl rfl (sw_true rfl rfl rfl (by decide +kernel)) (pi_tup (pe_tup (pa_cons pe_str (pa_cons pe_str (pa_cons pe_str pa_nil))))) (blkOk_by (own := [("value", 10)]) (N := ["script", "at", "stream", "turn", "arcs", "some", "told", "names", "many", "due", "value"]) (sc := defScope sLaw) (by decide +kernel)) (fun _ _ _ _ _ => (pg_name (i := 10) scLaw.nd rfl (.inl rfl))) (fun _ _ _ _ _ => pts_nil) (fun _ _ _ _ _ => (pe_call GI (hr.mono (by decide)) rfl T.gI T.kI T.bI .nil pass0 (pa_cons (pv 10) pa_nil))))
      (pss_cons (ps_set (i := 8) scLaw.nd rfl (.inl rfl) (pe_lst (pa_cons (pe_call GA (hr.mono (by decide)) rfl T.gA T.kA T.bA .nil pass0 (pa_cons (pe_op op_repT (pe_tup (pa_cons (pe_tup (pa_cons pe_str (pa_cons pe_str (pa_cons (pe_op op_pow pe_int pe_int) pa_nil)))) pa_nil)) pe_int) pa_nil)) (pa_cons (pe_call GA (hr.mono (by decide)) rfl T.gA T.kA T.bA .nil pass0 (pa_cons (pe_op op_repT (pe_tup (pa_cons (pe_tup (pa_cons pe_str (pa_cons pe_str (pa_cons pe_int pa_nil)))) pa_nil)) pe_int) pa_nil)) (pa_cons (pe_call GA (hr.mono (by decide)) rfl T.gA T.kA T.bA .nil pass0 (pa_cons (pe_tup pa_nil) pa_nil)) pa_nil)))))
      (pss_cons (ps_set (i := 9) scLaw.nd rfl (.inl rfl) (pe_lst (pa_cons pe_bl (pa_cons pe_bl (pa_cons pe_bl (pa_cons pe_bl (pa_cons pe_bl (pa_cons pe_bl (pa_cons pe_bl (pa_cons pe_bl pa_nil))))))))))
      (pss_cons (ps_set (i := 6) scLaw.nd rfl (.inl rfl) (pe_op op_cat (pv 6) (pe_lst (pa_cons (pe_call GR (hr.mono (by decide)) rfl T.gR T.kR T.bR .nil pass0 (pa_cons (pv 5) (pa_cons (pe_op op_repT (pe_tup (pa_cons pe_int (pa_cons pe_int (pa_cons pe_int pa_nil)))) pe_int) pa_nil))) (pa_cons (pe_call GR (hr.mono (by decide)) rfl T.gR T.kR T.bR .nil pass0 (pa_cons (pv 5) (pa_cons (pe_op op_repT (pe_tup (pa_cons pe_int pa_nil)) pe_int) pa_nil))) pa_nil)))))
      (pss_cons (ps_expr (pe_bm PySem.F.plainAttrs_list PySem.F.slot_list_append PySem.F.type_list_append mt_append (pv 6) (pa_cons (pe_callK GW (hr.mono (by decide)) rfl T.gW T.kW T.bW pass0 (pa_cons (pv 5) (pa_cons (pe_op op_repT (pe_tup (pa_cons pe_int pa_nil)) pe_int) pa_nil)) (pk_cons pe_str (pk_cons pe_str pk_nil))) pa_nil)))
      (pss_cons (ps_set (i := 9) scLaw.nd rfl (.inl rfl) (pe_op op_cat (pv 9) (pe_lst (pa_cons pe_bl (pa_cons pe_bl (pa_cons pe_bl pa_nil))))))
      (pss_one (ps_ret (pe_and (pe_cmpR (op_eqD hr.units) (pv 6) (pv 9) (nomark _)) (pe_one (pe_cmpR (op_eqD hr.units) (pe_op op_cat (pv 7) (pv 8)) (pe_lst (pa_cons pe_bl (pa_cons pe_bl (pa_cons pe_bl (pa_cons pe_bl (pa_cons pe_bl (pa_cons pe_bl pa_nil))))))) (nomark _))))))))))))))), ?_⟩
    obtain ⟨b0, b6⟩ := turns6 (ns.map V.int).length
    refine ⟨_, rfl, a, _, rfl, .inl hS, _, _, rfl, _, _, rfl, _, rfl, by omega, by omega, ?_⟩
    refine for_it (walk_range (lo := 0)) (fun i σ B => Same H B ∧ ∃ u1 u2 u3 u4 u5 u6 u7 u8 u9, σ = [some (.ref a), u1, u2, u3, u4, u5, u6, u7, u8, u9, none]) ⟨Same.refl H, _, _, _, _, _, _, _, _, _, rfl⟩ (fun _ _ _ _ _ => trivial) ?turn ?rest
    case turn =>
      rintro i v0 σ B B' hi ⟨sB, u1, u2, u3, u4, u5, u6, u7, u8, u9, eσ⟩ ⟨e, ev⟩
      subst e ev eσ
      refine ⟨_, rfl, _, rfl, a, ns, _, rfl, sameL sB hS, fun l x y z nl => ?_⟩
      have st : St3 (upd B' l (.lst [.int x, .int y, .int z])) l := ⟨x, y, z, upd_same⟩
      have sl : Same B' (upd B' l (.lst [.int x, .int y, .int z])) := same_one (Same.refl B') nl
      generalize upd B' l (.lst [.int x, .int y, .int z]) = B1 at st sl ⊢
      refine ⟨3, rfl, by decide, by decide, for_it (walk_range (lo := 0) (n := 3)) (fun j σ H1 => Aft l B1 H1 ∧ ∃ u3 u4 u5 u6 u7 u8 u9, σ = [some (.ref a), some (.int (0 + i)), some (.ref l), u3, u4, u5, u6, u7, u8, u9, none])
        ⟨Aft.refl st, _, _, _, _, _, _, _, rfl⟩ (fun _ _ _ _ _ => trivial) (fun j v1 σ H1 H2 hj ⟨a1, u3, u4, u5, u6, u7, u8, u9, eσ⟩ ⟨e, ev⟩ => ?_) fun σ H1 ⟨a1, u3, u4, u5, u6, u7, u8, u9, eσ⟩ => ⟨?_, _, _, _, _, _, _, _, _, _, eσ⟩⟩
      · subst e ev eσ
        refine ⟨_, rfl, l, 4, 8, rfl, a1.st, by decide, by decide, by decide, by decide, fun p H3 as a3 fp hA ok hl num => ?_⟩
        refine ⟨_, rfl, _, rfl, l, p, as, rfl, a3.st, hA, ok, by omega, num, fun H4 a4 => ⟨_, rfl, ?_⟩⟩
        exact ⟨_, rfl, _, rfl, l, p, as, rfl, a4.st, hA.same a4.same, ok, by omega, fun H5 a5 => ⟨_, rfl, a1.trans (a3.trans (a4.trans a5)), _, _, _, _, _, _, _, rfl⟩⟩
      · intro b o e
        have nb : b ≠ l := by
          rintro rfl
          have q := sB _ _ e
          rw [nl] at q
          cases q
        exact a1.at (sl _ _ (sB _ _ e)) nb
    case rest =>
      rintro σ B ⟨sB, u1, u2, u3, u4, u5, u6, u7, u8, u9, eσ⟩
      subst eσ
      refine ⟨(by show 3 ≤ sizeLine; decide), fun p1 h1 => ?_⟩
      have m1 : Same B (upd B p1 (.tup [.str "a", .str "b", .int 3])) := same_one (Same.refl B) h1
      have e1 : (upd B p1 (.tup [.str "a", .str "b", .int 3])) p1 = some (.tup [.str "a", .str "b", .int 3]) := upd_same
      generalize upd B p1 (.tup [.str "a", .str "b", .int 3]) = X1 at m1 e1 ⊢
      refine ⟨5, rfl, (by show 3 ≤ sizeLine; decide), fun p2 h2 => ?_⟩
      have m2 : Same X1 (upd X1 p2 (.tup [.str "b", .str "c", .int (-5)])) := same_one (Same.refl X1) h2
      have e2 : (upd X1 p2 (.tup [.str "b", .str "c", .int (-5)])) p2 = some (.tup [.str "b", .str "c", .int (-5)]) := upd_same
      generalize upd X1 p2 (.tup [.str "b", .str "c", .int (-5)]) = X2 at m2 e2 ⊢
      have e1 := m2 _ _ e1
      refine ⟨(by show 3 ≤ sizeLine; decide), fun p3 h3 => ?_⟩
      have m3 : Same X2 (upd X2 p3 (.tup [.str "c", .str "a", .int 1])) := same_one (Same.refl X2) h3
      have e3 : (upd X2 p3 (.tup [.str "c", .str "a", .int 1])) p3 = some (.tup [.str "c", .str "a", .int 1]) := upd_same
      generalize upd X2 p3 (.tup [.str "c", .str "a", .int 1]) = X3 at m3 e3 ⊢
      have e1 := m3 _ _ e1
      have e2 := m3 _ _ e2
      refine ⟨1, rfl, (by show 3 ≤ sizeLine; decide), fun p4 h4 => ?_⟩
      have m4 : Same X3 (upd X3 p4 (.tup [.str "a", .str "a", .int (-1)])) := same_one (Same.refl X3) h4
      have e4 : (upd X3 p4 (.tup [.str "a", .str "a", .int (-1)])) p4 = some (.tup [.str "a", .str "a", .int (-1)]) := upd_same
      generalize upd X3 p4 (.tup [.str "a", .str "a", .int (-1)]) = X4 at m4 e4 ⊢
      have e1 := m4 _ _ e1
      have e2 := m4 _ _ e2
      have e3 := m4 _ _ e3
      refine ⟨(by show 3 ≤ sizeLine; decide), fun p5 h5 => ?_⟩
      have m5 : Same X4 (upd X4 p5 (.tup [.str "a", .str "a", .int 0])) := same_one (Same.refl X4) h5
      have e5 : (upd X4 p5 (.tup [.str "a", .str "a", .int 0])) p5 = some (.tup [.str "a", .str "a", .int 0]) := upd_same
      generalize upd X4 p5 (.tup [.str "a", .str "a", .int 0]) = X5 at m5 e5 ⊢
      have e1 := m5 _ _ e1
      have e2 := m5 _ _ e2
      have e3 := m5 _ _ e3
      have e4 := m5 _ _ e4
      refine ⟨(by show 5 ≤ sizeLine; decide), fun p6 h6 => ?_⟩
      have m6 : Same X5 (upd X5 p6 (.tup [.ref p1, .ref p2, .ref p3, .ref p4, .ref p5])) := same_one (Same.refl X5) h6
      have e6 : (upd X5 p6 (.tup [.ref p1, .ref p2, .ref p3, .ref p4, .ref p5])) p6 = some (.tup [.ref p1, .ref p2, .ref p3, .ref p4, .ref p5]) := upd_same
      generalize upd X5 p6 (.tup [.ref p1, .ref p2, .ref p3, .ref p4, .ref p5]) = X6 at m6 e6 ⊢
      have e1 := m6 _ _ e1
      have e2 := m6 _ _ e2
      have e3 := m6 _ _ e3
      have e4 := m6 _ _ e4
      have e5 := m6 _ _ e5
      have hA : ArcsAt K X6 p6 some5 := ⟨_, SqT.of e6, .cons (.tup (SqT.of e1) (.cons (.str _) (.cons (.str _) (.cons (.int _) .nil)))) (.cons (.tup (SqT.of e2) (.cons (.str _) (.cons (.str _) (.cons (.int _) .nil)))) (.cons (.tup (SqT.of e3) (.cons (.str _) (.cons (.str _) (.cons (.int _) .nil)))) (.cons (.tup (SqT.of e4) (.cons (.str _) (.cons (.str _) (.cons (.int _) .nil)))) (.cons (.tup (SqT.of e5) (.cons (.str _) (.cons (.str _) (.cons (.int _) .nil)))) .nil))))⟩
      clear e1 e2 e3 e4 e5 e6
      refine ⟨(by show 3 ≤ sizeLine; decide), fun p7 h7 => ?_⟩
      have m7 : Same X6 (upd X6 p7 (.tup [.int 0, .int 1, .int 2])) := same_one (Same.refl X6) h7
      have e7 : (upd X6 p7 (.tup [.int 0, .int 1, .int 2])) p7 = some (.tup [.int 0, .int 1, .int 2]) := upd_same
      generalize upd X6 p7 (.tup [.int 0, .int 1, .int 2]) = X7 at m7 e7 ⊢
      have hA := ArcsAt.same hA m7
      refine ⟨(by show 3 ≤ sizeLine; decide), fun p8 h8 => ?_⟩
      have m8 : Same X7 (upd X7 p8 (.tup [.int 1, .int 2, .int 0])) := same_one (Same.refl X7) h8
      have e8 : (upd X7 p8 (.tup [.int 1, .int 2, .int 0])) p8 = some (.tup [.int 1, .int 2, .int 0]) := upd_same
      generalize upd X7 p8 (.tup [.int 1, .int 2, .int 0]) = X8 at m8 e8 ⊢
      have hA := ArcsAt.same hA m8
      have e7 := m8 _ _ e7
      refine ⟨(by show 1 ≤ sizeLine; decide), fun p9 h9 => ?_⟩
      have m9 : Same X8 (upd X8 p9 (.tup [.int 3])) := same_one (Same.refl X8) h9
      have e9 : (upd X8 p9 (.tup [.int 3])) p9 = some (.tup [.int 3]) := upd_same
      generalize upd X8 p9 (.tup [.int 3]) = X9 at m9 e9 ⊢
      have hA := ArcsAt.same hA m9
      have e7 := m9 _ _ e7
      have e8 := m9 _ _ e8
      refine ⟨(by show 1 ≤ sizeLine; decide), fun p10 h10 => ?_⟩
      have m10 : Same X9 (upd X9 p10 (.tup [.int 4])) := same_one (Same.refl X9) h10
      have e10 : (upd X9 p10 (.tup [.int 4])) p10 = some (.tup [.int 4]) := upd_same
      generalize upd X9 p10 (.tup [.int 4]) = X10 at m10 e10 ⊢
      have hA := ArcsAt.same hA m10
      have e7 := m10 _ _ e7
      have e8 := m10 _ _ e8
      have e9 := m10 _ _ e9
      refine ⟨(by show 2 ≤ sizeLine; decide), fun p11 h11 => ?_⟩
      have m11 : Same X10 (upd X10 p11 (.tup [.int 4, .int 3])) := same_one (Same.refl X10) h11
      have e11 : (upd X10 p11 (.tup [.int 4, .int 3])) p11 = some (.tup [.int 4, .int 3]) := upd_same
      generalize upd X10 p11 (.tup [.int 4, .int 3]) = X11 at m11 e11 ⊢
      have hA := ArcsAt.same hA m11
      have e7 := m11 _ _ e7
      have e8 := m11 _ _ e8
      have e9 := m11 _ _ e9
      have e10 := m11 _ _ e10
      refine ⟨(by show 2 ≤ sizeLine; decide), fun p12 h12 => ?_⟩
      have m12 : Same X11 (upd X11 p12 (.tup [.int 0, .int 1])) := same_one (Same.refl X11) h12
      have e12 : (upd X11 p12 (.tup [.int 0, .int 1])) p12 = some (.tup [.int 0, .int 1]) := upd_same
      generalize upd X11 p12 (.tup [.int 0, .int 1]) = X12 at m12 e12 ⊢
      have hA := ArcsAt.same hA m12
      have e7 := m12 _ _ e7
      have e8 := m12 _ _ e8
      have e9 := m12 _ _ e9
      have e10 := m12 _ _ e10
      have e11 := m12 _ _ e11
      refine ⟨(by show 4 ≤ sizeLine; decide), fun p13 h13 => ?_⟩
      have m13 : Same X12 (upd X12 p13 (.tup [.int 2, .int 3, .int 0, .int 1])) := same_one (Same.refl X12) h13
      have e13 : (upd X12 p13 (.tup [.int 2, .int 3, .int 0, .int 1])) p13 = some (.tup [.int 2, .int 3, .int 0, .int 1]) := upd_same
      generalize upd X12 p13 (.tup [.int 2, .int 3, .int 0, .int 1]) = X13 at m13 e13 ⊢
      have hA := ArcsAt.same hA m13
      have e7 := m13 _ _ e7
      have e8 := m13 _ _ e8
      have e9 := m13 _ _ e9
      have e10 := m13 _ _ e10
      have e11 := m13 _ _ e11
      have e12 := m13 _ _ e12
      refine ⟨(by show 0 ≤ sizeLine; decide), fun p14 h14 => ?_⟩
      have m14 : Same X13 (upd X13 p14 (.tup [])) := same_one (Same.refl X13) h14
      have e14 : (upd X13 p14 (.tup [])) p14 = some (.tup []) := upd_same
      generalize upd X13 p14 (.tup []) = X14 at m14 e14 ⊢
      have hA := ArcsAt.same hA m14
      have e7 := m14 _ _ e7
      have e8 := m14 _ _ e8
      have e9 := m14 _ _ e9
      have e10 := m14 _ _ e10
      have e11 := m14 _ _ e11
      have e12 := m14 _ _ e12
      have e13 := m14 _ _ e13
      refine ⟨(by show 8 ≤ sizeLine; decide), fun pV hVn => ?_⟩
      have mV : Same X14 (upd X14 pV (.tup [.ref p7, .ref p8, .ref p9, .ref p10, .ref p11, .ref p12, .ref p13, .ref p14])) := same_one (Same.refl X14) hVn
      have eV : (upd X14 pV (.tup [.ref p7, .ref p8, .ref p9, .ref p10, .ref p11, .ref p12, .ref p13, .ref p14])) pV = some (.tup [.ref p7, .ref p8, .ref p9, .ref p10, .ref p11, .ref p12, .ref p13, .ref p14]) := upd_same
      have hV : DpXAll K X14 [.ref p7, .ref p8, .ref p9, .ref p10, .ref p11, .ref p12, .ref p13, .ref p14] valD := (.cons (.tup (SqT.of e7) (.cons (.int _) (.cons (.int _) (.cons (.int _) .nil)))) (.cons (.tup (SqT.of e8) (.cons (.int _) (.cons (.int _) (.cons (.int _) .nil)))) (.cons (.tup (SqT.of e9) (.cons (.int _) .nil)) (.cons (.tup (SqT.of e10) (.cons (.int _) .nil)) (.cons (.tup (SqT.of e11) (.cons (.int _) (.cons (.int _) .nil))) (.cons (.tup (SqT.of e12) (.cons (.int _) (.cons (.int _) .nil))) (.cons (.tup (SqT.of e13) (.cons (.int _) (.cons (.int _) (.cons (.int _) (.cons (.int _) .nil))))) (.cons (.tup (SqT.of e14) .nil) .nil))))))))
      have hV := DpXAll.same mV hV
      generalize upd X14 pV (.tup [.ref p7, .ref p8, .ref p9, .ref p10, .ref p11, .ref p12, .ref p13, .ref p14]) = XV at mV eV hV ⊢
      have hA := ArcsAt.same hA mV
      clear e7 e8 e9 e10 e11 e12 e13 e14
      refine ⟨pV, rfl, ⟨_, SqT.of eV⟩, fun D1 hD1 => lc_pure (walk_tup (xs := [.ref p7, .ref p8, .ref p9, .ref p10, .ref p11, .ref p12, .ref p13, .ref p14])) (fun i => .bl (ringB some5 (valD.getD i .none))) (by show 8 ≤ sizeLine; decide) hD1 (fun G s => sameT s (SqT.of eV)) (fun i v G G' C hi s ⟨eg, ev⟩ q => ?_) fun G1 mD1 eD1 => ?_⟩
      · subst eg
        have hid : i < valD.length := hi
        have ed : valD[i]? = some valD[i] := List.getElem?_eq_getElem hid
        obtain ⟨v', ev', Dv⟩ := DpXAll.get hV ed
        obtain rfl : v = v' := Option.some.inj (ev.symm.trans ev')
        rw [List.getD_eq_getElem?_getD, ed] at q
        exact ⟨rfl, _, rfl, _, rfl, p6, some5, v, valD[i], rfl, ArcsAt.same hA s, some5_ok, DpX.same s Dv, List.all_eq_true.mp valD_short _ (List.getElem_mem hid), q⟩
      have eD1 : G1 D1 = some (.lst told1) := eD1.trans (congrArg (fun l => some (HO.lst l)) told1_eq)
      have hA := ArcsAt.same hA mD1
      refine ⟨(by show 3 ≤ sizeLine; decide), fun p15 h15 => ?_⟩
      have m15 : Same G1 (upd G1 p15 (.tup [.str "abcdefgh", .str "z", .str "zzzzzzzzz"])) := same_one (Same.refl G1) h15
      have e15 : (upd G1 p15 (.tup [.str "abcdefgh", .str "z", .str "zzzzzzzzz"])) p15 = some (.tup [.str "abcdefgh", .str "z", .str "zzzzzzzzz"]) := upd_same
      generalize upd G1 p15 (.tup [.str "abcdefgh", .str "z", .str "zzzzzzzzz"]) = X15 at m15 e15 ⊢
      have hA := ArcsAt.same hA m15
      have eD1 := m15 _ _ eD1
      refine ⟨p15, rfl, ⟨_, SqT.of e15⟩, fun D2 hD2 => lc_pure (walk_tup (xs := [.str "abcdefgh", .str "z", .str "zzzzzzzzz"])) (fun i => .bl (nameB (.str (nameL.getD i "")))) (by show 3 ≤ sizeLine; decide) hD2 (fun G s => sameT s (SqT.of e15)) (fun i v G G' C hi s ⟨eg, ev⟩ q => ?_) fun G2 mD2 eD2 => ?_⟩
      · subst eg
        have hid : i < nameL.length := hi
        have ed : nameL[i]? = some nameL[i] := List.getElem?_eq_getElem hid
        have ev : (nameL.map V.str)[i]? = some v := ev
        rw [List.getElem?_map, ed] at ev
        obtain rfl : V.str nameL[i] = v := Option.some.inj ev
        rw [List.getD_eq_getElem?_getD, ed] at q
        exact ⟨rfl, _, rfl, _, .str nameL[i], rfl, .str _, List.all_eq_true.mp nameL_short _ (List.getElem_mem hid), q⟩
      have eD2 : G2 D2 = some (.lst namesB) := eD2.trans (congrArg (fun l => some (HO.lst l)) namesB_eq)
      have hA := ArcsAt.same hA mD2
      have eD1 := mD2 _ _ eD1
      refine ⟨_, _, rfl, rfl, ⟨by decide, by decide, by decide⟩, (by show 3 ≤ sizeLine; decide), fun p16 h16 => ?_⟩
      have m16 : Same G2 (upd G2 p16 (.tup [.str "a", .str "b", .int (10 ^ (39 : Int).toNat)])) := same_one (Same.refl G2) h16
      have e16 : (upd G2 p16 (.tup [.str "a", .str "b", .int (10 ^ (39 : Int).toNat)])) p16 = some (.tup [.str "a", .str "b", .int (10 ^ (39 : Int).toNat)]) := upd_same
      generalize upd G2 p16 (.tup [.str "a", .str "b", .int (10 ^ (39 : Int).toNat)]) = X16 at m16 e16 ⊢
      have hA := ArcsAt.same hA m16
      have eD1 := m16 _ _ eD1
      have eD2 := m16 _ _ eD2
      refine ⟨(by show 1 ≤ sizeLine; decide), fun p17 h17 => ?_⟩
      have m17 : Same X16 (upd X16 p17 (.tup [.ref p16])) := same_one (Same.refl X16) h17
      have e17 : (upd X16 p17 (.tup [.ref p16])) p17 = some (.tup [.ref p16]) := upd_same
      generalize upd X16 p17 (.tup [.ref p16]) = X17 at m17 e17 ⊢
      have hA := ArcsAt.same hA m17
      have eD1 := m17 _ _ eD1
      have eD2 := m17 _ _ eD2
      have e16 := m17 _ _ e16
      refine ⟨p17, 400, _, rfl, rfl, SqT.of e17, by simp, by decide, by decide, (by show 1 ≤ 1000; decide), fun p18 h18 => ?_⟩
      have m18 : Same X17 (upd X17 p18 (.tup (List.replicate (400 : Int).toNat [.ref p16]).flatten)) := same_one (Same.refl X17) h18
      have e18 : (upd X17 p18 (.tup (List.replicate (400 : Int).toNat [.ref p16]).flatten)) p18 = some (.tup (List.replicate (400 : Int).toNat [.ref p16]).flatten) := upd_same
      generalize upd X17 p18 (.tup (List.replicate (400 : Int).toNat [.ref p16]).flatten) = X18 at m18 e18 ⊢
      have hA := ArcsAt.same hA m18
      have eD1 := m18 _ _ eD1
      have eD2 := m18 _ _ eD2
      have e16 := m18 _ _ e16
      have e17 := m18 _ _ e17
      refine ⟨_, _, rfl, .tup (SqT.of e18) (dpx_rep (.cons (.tup (SqT.of e16) (.cons (.str _) (.cons (.str _) (.cons (.int _) .nil)))) .nil) _), many1_short, fun M1 mM1 => ?_⟩
      have hA := ArcsAt.same hA mM1
      have eD1 := mM1 _ _ eD1
      have eD2 := mM1 _ _ eD2
      refine ⟨(by show 3 ≤ sizeLine; decide), fun p19 h19 => ?_⟩
      have m19 : Same M1 (upd M1 p19 (.tup [.str "a", .str "b", .int 0])) := same_one (Same.refl M1) h19
      have e19 : (upd M1 p19 (.tup [.str "a", .str "b", .int 0])) p19 = some (.tup [.str "a", .str "b", .int 0]) := upd_same
      generalize upd M1 p19 (.tup [.str "a", .str "b", .int 0]) = X19 at m19 e19 ⊢
      have hA := ArcsAt.same hA m19
      have eD1 := m19 _ _ eD1
      have eD2 := m19 _ _ eD2
      refine ⟨(by show 1 ≤ sizeLine; decide), fun p20 h20 => ?_⟩
      have m20 : Same X19 (upd X19 p20 (.tup [.ref p19])) := same_one (Same.refl X19) h20
      have e20 : (upd X19 p20 (.tup [.ref p19])) p20 = some (.tup [.ref p19]) := upd_same
      generalize upd X19 p20 (.tup [.ref p19]) = X20 at m20 e20 ⊢
      have hA := ArcsAt.same hA m20
      have eD1 := m20 _ _ eD1
      have eD2 := m20 _ _ eD2
      have e19 := m20 _ _ e19
      refine ⟨p20, 401, _, rfl, rfl, SqT.of e20, by simp, by decide, by decide, (by show 1 ≤ 1000; decide), fun p21 h21 => ?_⟩
      have m21 : Same X20 (upd X20 p21 (.tup (List.replicate (401 : Int).toNat [.ref p19]).flatten)) := same_one (Same.refl X20) h21
      have e21 : (upd X20 p21 (.tup (List.replicate (401 : Int).toNat [.ref p19]).flatten)) p21 = some (.tup (List.replicate (401 : Int).toNat [.ref p19]).flatten) := upd_same
      generalize upd X20 p21 (.tup (List.replicate (401 : Int).toNat [.ref p19]).flatten) = X21 at m21 e21 ⊢
      have hA := ArcsAt.same hA m21
      have eD1 := m21 _ _ eD1
      have eD2 := m21 _ _ eD2
      have e19 := m21 _ _ e19
      have e20 := m21 _ _ e20
      refine ⟨_, _, rfl, .tup (SqT.of e21) (dpx_rep (.cons (.tup (SqT.of e19) (.cons (.str _) (.cons (.str _) (.cons (.int _) .nil)))) .nil) _), many2_short, fun M2 mM2 => ?_⟩
      have hA := ArcsAt.same hA mM2
      have eD1 := mM2 _ _ eD1
      have eD2 := mM2 _ _ eD2
      refine ⟨(by show 0 ≤ sizeLine; decide), fun p22 h22 => ?_⟩
      have m22 : Same M2 (upd M2 p22 (.tup [])) := same_one (Same.refl M2) h22
      have e22 : (upd M2 p22 (.tup [])) p22 = some (.tup []) := upd_same
      generalize upd M2 p22 (.tup []) = X22 at m22 e22 ⊢
      have hA := ArcsAt.same hA m22
      have eD1 := m22 _ _ eD1
      have eD2 := m22 _ _ eD2
      refine ⟨_, _, rfl, .tup (SqT.of e22) .nil, rfl, fun M3 mM3 => ?_⟩
      have hA := ArcsAt.same hA mM3
      have eD1 := mM3 _ _ eD1
      have eD2 := mM3 _ _ eD2
      rw [many1_eq, many2_eq, many3_eq]
      refine ⟨(by show 3 ≤ sizeLine; decide), fun p23 h23 => ?_⟩
      have m23 : Same M3 (upd M3 p23 (.lst [.bl true, .bl false, .bl true])) := same_one (Same.refl M3) h23
      have e23 : (upd M3 p23 (.lst [.bl true, .bl false, .bl true])) p23 = some (.lst [.bl true, .bl false, .bl true]) := upd_same
      generalize upd M3 p23 (.lst [.bl true, .bl false, .bl true]) = X23 at m23 e23 ⊢
      have hA := ArcsAt.same hA m23
      have eD1 := m23 _ _ eD1
      have eD2 := m23 _ _ eD2
      refine ⟨(by show 8 ≤ sizeLine; decide), fun p24 h24 => ?_⟩
      have m24 : Same X23 (upd X23 p24 (.lst [.bl true, .bl true, .bl true, .bl false, .bl true, .bl false, .bl true, .bl false])) := same_one (Same.refl X23) h24
      have e24 : (upd X23 p24 (.lst [.bl true, .bl true, .bl true, .bl false, .bl true, .bl false, .bl true, .bl false])) p24 = some (.lst [.bl true, .bl true, .bl true, .bl false, .bl true, .bl false, .bl true, .bl false]) := upd_same
      generalize upd X23 p24 (.lst [.bl true, .bl true, .bl true, .bl false, .bl true, .bl false, .bl true, .bl false]) = X24 at m24 e24 ⊢
      have hA := ArcsAt.same hA m24
      have eD1 := m24 _ _ eD1
      have eD2 := m24 _ _ eD2
      have e23 := m24 _ _ e23
      refine ⟨_, rfl, _, rfl, (by show 3 ≤ sizeLine; decide), fun p25 h25 => ?_⟩
      have m25 : Same X24 (upd X24 p25 (.tup [.int 0, .int 1, .int 2])) := same_one (Same.refl X24) h25
      have e25 : (upd X24 p25 (.tup [.int 0, .int 1, .int 2])) p25 = some (.tup [.int 0, .int 1, .int 2]) := upd_same
      generalize upd X24 p25 (.tup [.int 0, .int 1, .int 2]) = X25 at m25 e25 ⊢
      have hA := ArcsAt.same hA m25
      have eD1 := m25 _ _ eD1
      have eD2 := m25 _ _ eD2
      have e23 := m25 _ _ e23
      have e24 := m25 _ _ e24
      refine ⟨p25, 200, _, rfl, rfl, SqT.of e25, by simp, by decide, by decide, (by show 3 ≤ 1000; decide), fun p26 h26 => ?_⟩
      have m26 : Same X25 (upd X25 p26 (.tup (List.replicate (200 : Int).toNat [.int 0, .int 1, .int 2]).flatten)) := same_one (Same.refl X25) h26
      have e26 : (upd X25 p26 (.tup (List.replicate (200 : Int).toNat [.int 0, .int 1, .int 2]).flatten)) p26 = some (.tup (List.replicate (200 : Int).toNat [.int 0, .int 1, .int 2]).flatten) := upd_same
      generalize upd X25 p26 (.tup (List.replicate (200 : Int).toNat [.int 0, .int 1, .int 2]).flatten) = X26 at m26 e26 ⊢
      have hA := ArcsAt.same hA m26
      have eD1 := m26 _ _ eD1
      have eD2 := m26 _ _ eD2
      have e23 := m26 _ _ e23
      have e24 := m26 _ _ e24
      have e25 := m26 _ _ e25
      refine ⟨p6, some5, _, _, rfl, hA, some5_ok, .tup (SqT.of e26) (dpx_rep (.cons (.int _) (.cons (.int _) (.cons (.int _) .nil))) _), ring6_short, fun R1 mR1 => ?_⟩
      have hA := ArcsAt.same hA mR1
      have eD1 := mR1 _ _ eD1
      have eD2 := mR1 _ _ eD2
      have e23 := mR1 _ _ e23
      have e24 := mR1 _ _ e24
      refine ⟨_, rfl, (by show 1 ≤ sizeLine; decide), fun p27 h27 => ?_⟩
      have m27 : Same R1 (upd R1 p27 (.tup [.int 4])) := same_one (Same.refl R1) h27
      have e27 : (upd R1 p27 (.tup [.int 4])) p27 = some (.tup [.int 4]) := upd_same
      generalize upd R1 p27 (.tup [.int 4]) = X27 at m27 e27 ⊢
      have hA := ArcsAt.same hA m27
      have eD1 := m27 _ _ eD1
      have eD2 := m27 _ _ eD2
      have e23 := m27 _ _ e23
      have e24 := m27 _ _ e24
      refine ⟨p27, 500, _, rfl, rfl, SqT.of e27, by simp, by decide, by decide, (by show 1 ≤ 1000; decide), fun p28 h28 => ?_⟩
      have m28 : Same X27 (upd X27 p28 (.tup (List.replicate (500 : Int).toNat [.int 4]).flatten)) := same_one (Same.refl X27) h28
      have e28 : (upd X27 p28 (.tup (List.replicate (500 : Int).toNat [.int 4]).flatten)) p28 = some (.tup (List.replicate (500 : Int).toNat [.int 4]).flatten) := upd_same
      generalize upd X27 p28 (.tup (List.replicate (500 : Int).toNat [.int 4]).flatten) = X28 at m28 e28 ⊢
      have hA := ArcsAt.same hA m28
      have eD1 := m28 _ _ eD1
      have eD2 := m28 _ _ eD2
      have e23 := m28 _ _ e23
      have e24 := m28 _ _ e24
      have e27 := m28 _ _ e27
      refine ⟨p6, some5, _, _, rfl, hA, some5_ok, .tup (SqT.of e28) (dpx_rep (.cons (.int _) .nil) _), ring5_short, fun R2 mR2 => ?_⟩
      have hA := ArcsAt.same hA mR2
      have eD1 := mR2 _ _ eD1
      have eD2 := mR2 _ _ eD2
      have e23 := mR2 _ _ e23
      have e24 := mR2 _ _ e24
      rw [ring6_eq, ring5_eq]
      refine ⟨(by show 2 ≤ sizeLine; decide), fun p29 h29 => ?_⟩
      have m29 : Same R2 (upd R2 p29 (.lst [.bl true, .bl false])) := same_one (Same.refl R2) h29
      have e29 : (upd R2 p29 (.lst [.bl true, .bl false])) p29 = some (.lst [.bl true, .bl false]) := upd_same
      generalize upd R2 p29 (.lst [.bl true, .bl false]) = X29 at m29 e29 ⊢
      have hA := ArcsAt.same hA m29
      have eD1 := m29 _ _ eD1
      have eD2 := m29 _ _ eD2
      have e23 := m29 _ _ e23
      have e24 := m29 _ _ e24
      refine ⟨D1, p29, _, _, rfl, rfl, eD1, e29, (by show 10 ≤ sizeLine; decide), fun p30 h30 => ?_⟩
      have m30 : Same X29 (upd X29 p30 (.lst (told1 ++ [.bl true, .bl false]))) := same_one (Same.refl X29) h30
      have e30 : (upd X29 p30 (.lst (told1 ++ [.bl true, .bl false]))) p30 = some (.lst (told1 ++ [.bl true, .bl false])) := upd_same
      generalize upd X29 p30 (.lst (told1 ++ [.bl true, .bl false])) = X30 at m30 e30 ⊢
      have hA := ArcsAt.same hA m30
      have eD1 := m30 _ _ eD1
      have eD2 := m30 _ _ eD2
      have e23 := m30 _ _ e23
      have e24 := m30 _ _ e24
      have e29 := m30 _ _ e29
      refine ⟨_, rfl, .inl ⟨rfl, _, SqL.of e30⟩, _, rfl, ?_⟩
      refine ⟨(by show 1 ≤ sizeLine; decide), fun p31 h31 => ?_⟩
      have m31 : Same X30 (upd X30 p31 (.tup [.int 4])) := same_one (Same.refl X30) h31
      have e31 : (upd X30 p31 (.tup [.int 4])) p31 = some (.tup [.int 4]) := upd_same
      generalize upd X30 p31 (.tup [.int 4]) = X31 at m31 e31 ⊢
      have hA := ArcsAt.same hA m31
      have eD1 := m31 _ _ eD1
      have eD2 := m31 _ _ eD2
      have e23 := m31 _ _ e23
      have e24 := m31 _ _ e24
      have e29 := m31 _ _ e29
      have e30 := m31 _ _ e30
      refine ⟨p31, 500, _, rfl, rfl, SqT.of e31, by simp, by decide, by decide, (by show 1 ≤ 1000; decide), fun p32 h32 => ?_⟩
      have m32 : Same X31 (upd X31 p32 (.tup (List.replicate (500 : Int).toNat [.int 4]).flatten)) := same_one (Same.refl X31) h32
      have e32 : (upd X31 p32 (.tup (List.replicate (500 : Int).toNat [.int 4]).flatten)) p32 = some (.tup (List.replicate (500 : Int).toNat [.int 4]).flatten) := upd_same
      generalize upd X31 p32 (.tup (List.replicate (500 : Int).toNat [.int 4]).flatten) = X32 at m32 e32 ⊢
      have hA := ArcsAt.same hA m32
      have eD1 := m32 _ _ eD1
      have eD2 := m32 _ _ eD2
      have e23 := m32 _ _ e23
      have e24 := m32 _ _ e24
      have e29 := m32 _ _ e29
      have e30 := m32 _ _ e30
      have e31 := m32 _ _ e31
      refine ⟨p6, some5, _, _, "a", "a", rfl, hA, some5_ok, .tup (SqT.of e32) (dpx_rep (.cons (.int _) .nil) _), ring5_short, some5_a, some5_a, fun R3 mR3 => ?_⟩
      have hA := ArcsAt.same hA mR3
      have eD1 := mR3 _ _ eD1
      have eD2 := mR3 _ _ eD2
      have e23 := mR3 _ _ e23
      have e24 := mR3 _ _ e24
      have e29 := mR3 _ _ e29
      have e30 := mR3 _ _ e30
      rw [way5_eq]
      refine ⟨p30, _, _, rfl, rfl, e30, (by show 10 < sizeLine; decide), ?_⟩
      have xeD2 : (upd R3 p30 (.lst (told1 ++ [.bl true, .bl false] ++ [.bl true]))) D2 = _ := (upd_ne (by rintro rfl; rw [e30] at eD2; exact absurd (congrArg List.length (HO.lst.inj (Option.some.inj eD2))) (by decide))).trans eD2
      have xe23 : (upd R3 p30 (.lst (told1 ++ [.bl true, .bl false] ++ [.bl true]))) p23 = _ := (upd_ne (by rintro rfl; rw [e30] at e23; exact absurd (congrArg List.length (HO.lst.inj (Option.some.inj e23))) (by decide))).trans e23
      have xe24 : (upd R3 p30 (.lst (told1 ++ [.bl true, .bl false] ++ [.bl true]))) p24 = _ := (upd_ne (by rintro rfl; rw [e30] at e24; exact absurd (congrArg List.length (HO.lst.inj (Option.some.inj e24))) (by decide))).trans e24
      have eT : (upd R3 p30 (.lst (told1 ++ [.bl true, .bl false] ++ [.bl true]))) p30 = some (.lst (told1 ++ [.bl true, .bl false] ++ [.bl true])) := upd_same
      generalize upd R3 p30 (.lst (told1 ++ [.bl true, .bl false] ++ [.bl true])) = W at eT xeD2 xe23 xe24 ⊢
      refine ⟨_, rfl, (by show 3 ≤ sizeLine; decide), fun p33 h33 => ?_⟩
      have m33 : Same W (upd W p33 (.lst [.bl true, .bl false, .bl true])) := same_one (Same.refl W) h33
      have e33 : (upd W p33 (.lst [.bl true, .bl false, .bl true])) p33 = some (.lst [.bl true, .bl false, .bl true]) := upd_same
      generalize upd W p33 (.lst [.bl true, .bl false, .bl true]) = X33 at m33 e33 ⊢
      have eT := m33 _ _ eT
      have xeD2 := m33 _ _ xeD2
      have xe23 := m33 _ _ xe23
      have xe24 := m33 _ _ xe24
      refine ⟨p24, p33, _, _, rfl, rfl, xe24, e33, (by show 11 ≤ sizeLine; decide), fun p34 h34 => ?_⟩
      have m34 : Same X33 (upd X33 p34 (.lst ([.bl true, .bl true, .bl true, .bl false, .bl true, .bl false, .bl true, .bl false] ++ [.bl true, .bl false, .bl true]))) := same_one (Same.refl X33) h34
      have e34 : (upd X33 p34 (.lst ([.bl true, .bl true, .bl true, .bl false, .bl true, .bl false, .bl true, .bl false] ++ [.bl true, .bl false, .bl true]))) p34 = some (.lst ([.bl true, .bl true, .bl true, .bl false, .bl true, .bl false, .bl true, .bl false] ++ [.bl true, .bl false, .bl true])) := upd_same
      generalize upd X33 p34 (.lst ([.bl true, .bl true, .bl true, .bl false, .bl true, .bl false, .bl true, .bl false] ++ [.bl true, .bl false, .bl true])) = X34 at m34 e34 ⊢
      have eT := m34 _ _ eT
      have xeD2 := m34 _ _ xeD2
      have xe23 := m34 _ _ xe23
      have xe24 := m34 _ _ xe24
      have e33 := m34 _ _ e33
      refine ⟨_, rfl, _, rfl, _, _, .lst (SqL.of eT) (dp_bools [true, true, true, false, true, false, true, false, true, false, true]), .lst (SqL.of e34) (dp_bools [true, true, true, false, true, false, true, false, true, false, true]), (by decide +kernel), (by decide +kernel), _, rfl, ?_⟩
      refine ifT (by decide +kernel) ?_
      refine ⟨_, rfl, _, rfl, D2, p23, _, _, rfl, rfl, xeD2, xe23, (by show 6 ≤ sizeLine; decide), fun p35 h35 => ?_⟩
      have m35 : Same X34 (upd X34 p35 (.lst (namesB ++ [.bl true, .bl false, .bl true]))) := same_one (Same.refl X34) h35
      have e35 : (upd X34 p35 (.lst (namesB ++ [.bl true, .bl false, .bl true]))) p35 = some (.lst (namesB ++ [.bl true, .bl false, .bl true])) := upd_same
      generalize upd X34 p35 (.lst (namesB ++ [.bl true, .bl false, .bl true])) = X35 at m35 e35 ⊢
      have eT := m35 _ _ eT
      have xeD2 := m35 _ _ xeD2
      have xe23 := m35 _ _ xe23
      have xe24 := m35 _ _ xe24
      have e33 := m35 _ _ e33
      have e34 := m35 _ _ e34
      refine ⟨(by show 6 ≤ sizeLine; decide), fun p36 h36 => ?_⟩
      have m36 : Same X35 (upd X35 p36 (.lst [.bl true, .bl true, .bl false, .bl true, .bl false, .bl true])) := same_one (Same.refl X35) h36
      have e36 : (upd X35 p36 (.lst [.bl true, .bl true, .bl false, .bl true, .bl false, .bl true])) p36 = some (.lst [.bl true, .bl true, .bl false, .bl true, .bl false, .bl true]) := upd_same
      generalize upd X35 p36 (.lst [.bl true, .bl true, .bl false, .bl true, .bl false, .bl true]) = X36 at m36 e36 ⊢
      have eT := m36 _ _ eT
      have xeD2 := m36 _ _ xeD2
      have xe23 := m36 _ _ xe23
      have xe24 := m36 _ _ xe24
      have e33 := m36 _ _ e33
      have e34 := m36 _ _ e34
      have e35 := m36 _ _ e35
      refine ⟨_, _, .lst (SqL.of e35) (dp_bools [true, true, false, true, false, true]), .lst (SqL.of e36) (dp_bools [true, true, false, true, false, true]), (by decide +kernel), (by decide +kernel), ?_⟩
      have fin : PyData.eqv (.list ([true, true, false, true, false, true].map PyData.bool)) (.list ([true, true, false, true, false, true].map PyData.bool)) = true := by decide +kernel
      rw [fin]
      exact k _
end
end K01

set_option Elab.async false
set_option linter.all false
set_option maxRecDepth 100000
set_option maxHeartbeats 4000000
namespace K01
open PySem PySem.Spec PyProof.Rows L2 LW RZ
open PySem.W (Frag)
theorem kb_swap {K : Frag} {dc pm cd ct : Value} {an : Option Addr} : KBinds K (PySem.W.fnOf "is_way" "is_way" (defArgs sIsWay) (defBody sIsWay) (defScope sIsWay) .none .none dc pm an cd ct) ["arcs", "value", "source", "target"] ["target", "source"] gSwap gSwap :=
  ⟨fun s us ws X hl => by
    match ws, us, hl with
    | [t, s'], [a, b], _ => exact .of_eq rfl
    | [], _, hl => cases hl
    | [_], _, hl => cases hl
    | _ :: _ :: _ :: _, _, hl => cases hl
    | [_, _], [], hl => cases hl
    | [_, _], [_], hl => cases hl
    | [_, _], _ :: _ :: _ :: us, hl => simp [gSwap] at hl, fun h g => gSwap_rel h g⟩
theorem kb_keep {K : Frag} {dc pm cd ct : Value} {an : Option Addr} : KBinds K (PySem.W.fnOf "is_way" "is_way" (defArgs sIsWay) (defBody sIsWay) (defScope sIsWay) .none .none dc pm an cd ct) ["arcs", "value", "source", "target"] ["source", "target"] gKeep gKeep :=
  ⟨fun s us ws X hl => by
    match ws, us, hl with
    | [t, s'], [a, b], _ => exact .of_eq rfl
    | [], _, hl => cases hl
    | [_], _, hl => cases hl
    | _ :: _ :: _ :: _, _, hl => cases hl
    | [_, _], [], hl => cases hl
    | [_, _], [_], hl => cases hl
    | [_, _], _ :: _ :: _ :: us, hl => simp [gKeep] at hl, fun h g => gKeep_rel h g⟩
theorem all_mk {P : Program} {w : World} {K : Frag} {h : Heap} {mg : Str → Option Value} {fa : Addr} (X : K.In h) (G : h.Ns mainGlobals mg) (hfa : mg "law" = some (.ref fa))
    {f1 f2 f3 f4 f5 f6 f7 f8 f9 f10 f11 f12 f13 f14 f15 f16 f17 f18 f19 f20 f21 f22 f23 f24 f25 : Addr} {tM : Tok} {od1 an1 : Option Addr} {sl1 : Array (Option Value)} {oc1 kv1 dc1 pm1 cd1 ct1 : Value} {od2 an2 : Option Addr} {sl2 : Array (Option Value)} {oc2 kv2 dc2 pm2 cd2 ct2 : Value} {od3 an3 : Option Addr} {sl3 : Array (Option Value)} {oc3 kv3 dc3 pm3 cd3 ct3 : Value} {od4 an4 : Option Addr} {sl4 : Array (Option Value)} {oc4 kv4 dc4 pm4 cd4 ct4 : Value} {od5 an5 : Option Addr} {sl5 : Array (Option Value)} {oc5 dc5 pm5 cd5 ct5 : Value} {od6 an6 : Option Addr} {sl6 : Array (Option Value)} {oc6 kv6 dc6 pm6 cd6 ct6 : Value} {od7 an7 : Option Addr} {sl7 : Array (Option Value)} {oc7 kv7 dc7 pm7 cd7 ct7 : Value} {od8 an8 : Option Addr} {sl8 : Array (Option Value)} {oc8 kv8 dc8 pm8 cd8 ct8 : Value} {od9 an9 : Option Addr} {sl9 : Array (Option Value)} {oc9 kv9 dc9 pm9 cd9 ct9 : Value} {od10 an10 : Option Addr} {sl10 : Array (Option Value)} {oc10 kv10 dc10 pm10 cd10 ct10 : Value} {od11 an11 : Option Addr} {sl11 : Array (Option Value)} {oc11 kv11 dc11 pm11 cd11 ct11 : Value} {od12 an12 : Option Addr} {sl12 : Array (Option Value)} {oc12 kv12 dc12 pm12 cd12 ct12 : Value} {od13 an13 : Option Addr} {sl13 : Array (Option Value)} {oc13 kv13 dc13 pm13 cd13 ct13 : Value} {od14 an14 : Option Addr} {sl14 : Array (Option Value)} {oc14 kv14 dc14 pm14 cd14 ct14 : Value} {od15 an15 : Option Addr} {sl15 : Array (Option Value)} {oc15 kv15 dc15 pm15 cd15 ct15 : Value} {od16 an16 : Option Addr} {sl16 : Array (Option Value)} {oc16 kv16 dc16 pm16 cd16 ct16 : Value} {od17 an17 : Option Addr} {sl17 : Array (Option Value)} {oc17 kv17 dc17 pm17 cd17 ct17 : Value} {od18 an18 : Option Addr} {sl18 : Array (Option Value)} {oc18 kv18 dc18 pm18 cd18 ct18 : Value} {od19 an19 : Option Addr} {sl19 : Array (Option Value)} {oc19 kv19 dc19 pm19 cd19 ct19 : Value} {od20 an20 : Option Addr} {sl20 : Array (Option Value)} {oc20 kv20 dc20 pm20 cd20 ct20 : Value} {od21 an21 : Option Addr} {sl21 : Array (Option Value)} {oc21 kv21 dc21 pm21 cd21 ct21 : Value} {od22 an22 : Option Addr} {sl22 : Array (Option Value)} {oc22 kv22 dc22 pm22 cd22 ct22 : Value} {od23 an23 : Option Addr} {sl23 : Array (Option Value)} {oc23 kv23 dc23 pm23 cd23 ct23 : Value} {od24 an24 : Option Addr} {sl24 : Array (Option Value)} {oc24 kv24 dc24 pm24 cd24 ct24 : Value} {od25 an25 : Option Addr} {sl25 : Array (Option Value)} {oc25 kv25 dc25 pm25 cd25 ct25 : Value}
    (a1 : PySem.W.nsIn K mainGlobals "is_integer" = some (some (.ref f1)))
    (l1 : K.lookup f1 = some ⟨oc1, od1, .func (PySem.W.fnOf "is_integer" "is_integer" (defArgs sIsInteger) (defBody sIsInteger) (defScope sIsInteger) .none kv1 dc1 pm1 an1 cd1 ct1), sl1⟩)
    (c1 : PySem.W.codeIn K cd1 "is_integer" = true)
    (k1 : PySem.W.keepIn K (.ref f1) = true)
    (a2 : PySem.W.nsIn K mainGlobals "is_between" = some (some (.ref f2)))
    (l2 : K.lookup f2 = some ⟨oc2, od2, .func (PySem.W.fnOf "is_between" "is_between" (defArgs sIsBetween) (defBody sIsBetween) (defScope sIsBetween) .none kv2 dc2 pm2 an2 cd2 ct2), sl2⟩)
    (c2 : PySem.W.codeIn K cd2 "is_between" = true)
    (k2 : PySem.W.keepIn K (.ref f2) = true)
    (a3 : PySem.W.nsIn K mainGlobals "is_name" = some (some (.ref f3)))
    (l3 : K.lookup f3 = some ⟨oc3, od3, .func (PySem.W.fnOf "is_name" "is_name" (defArgs sIsName) (defBody sIsName) (defScope sIsName) .none kv3 dc3 pm3 an3 cd3 ct3), sl3⟩)
    (c3 : PySem.W.codeIn K cd3 "is_name" = true)
    (k3 : PySem.W.keepIn K (.ref f3) = true)
    (a4 : PySem.W.nsIn K mainGlobals "is_arcs" = some (some (.ref f4)))
    (l4 : K.lookup f4 = some ⟨oc4, od4, .func (PySem.W.fnOf "is_arcs" "is_arcs" (defArgs sIsArcs) (defBody sIsArcs) (defScope sIsArcs) .none kv4 dc4 pm4 an4 cd4 ct4), sl4⟩)
    (c4 : PySem.W.codeIn K cd4 "is_arcs" = true)
    (k4 : PySem.W.keepIn K (.ref f4) = true)
    (a5 : PySem.W.nsIn K mainGlobals "is_way" = some (some (.ref f5)))
    (l5 : K.lookup f5 = some ⟨oc5, od5, .func (PySem.W.fnOf "is_way" "is_way" (defArgs sIsWay) (defBody sIsWay) (defScope sIsWay) .none .none dc5 pm5 an5 cd5 ct5), sl5⟩)
    (c5 : PySem.W.codeIn K cd5 "is_way" = true)
    (k5 : PySem.W.keepIn K (.ref f5) = true)
    (a6 : PySem.W.nsIn K mainGlobals "is_ring" = some (some (.ref f6)))
    (l6 : K.lookup f6 = some ⟨oc6, od6, .func (PySem.W.fnOf "is_ring" "is_ring" (defArgs sIsRing) (defBody sIsRing) (defScope sIsRing) .none kv6 dc6 pm6 an6 cd6 ct6), sl6⟩)
    (c6 : PySem.W.codeIn K cd6 "is_ring" = true)
    (k6 : PySem.W.keepIn K (.ref f6) = true)
    (a7 : PySem.W.nsIn K mainGlobals "_is_arc" = some (some (.ref f7)))
    (l7 : K.lookup f7 = some ⟨oc7, od7, .func (PySem.W.fnOf "_is_arc" "_is_arc" (defArgs sIsArc) (defBody sIsArc) (defScope sIsArc) .none kv7 dc7 pm7 an7 cd7 ct7), sl7⟩)
    (c7 : PySem.W.codeIn K cd7 "_is_arc" = true)
    (k7 : PySem.W.keepIn K (.ref f7) = true)
    (a8 : PySem.W.nsIn K mainGlobals "_check_arcs" = some (some (.ref f8)))
    (l8 : K.lookup f8 = some ⟨oc8, od8, .func (PySem.W.fnOf "_check_arcs" "_check_arcs" (defArgs sCheckArcs) (defBody sCheckArcs) (defScope sCheckArcs) .none kv8 dc8 pm8 an8 cd8 ct8), sl8⟩)
    (c8 : PySem.W.codeIn K cd8 "_check_arcs" = true)
    (k8 : PySem.W.keepIn K (.ref f8) = true)
    (a9 : PySem.W.nsIn K mainGlobals "_check_name" = some (some (.ref f9)))
    (l9 : K.lookup f9 = some ⟨oc9, od9, .func (PySem.W.fnOf "_check_name" "_check_name" (defArgs sCheckName) (defBody sCheckName) (defScope sCheckName) .none kv9 dc9 pm9 an9 cd9 ct9), sl9⟩)
    (c9 : PySem.W.codeIn K cd9 "_check_name" = true)
    (k9 : PySem.W.keepIn K (.ref f9) = true)
    (a10 : PySem.W.nsIn K mainGlobals "_names_of" = some (some (.ref f10)))
    (l10 : K.lookup f10 = some ⟨oc10, od10, .func (PySem.W.fnOf "_names_of" "_names_of" (defArgs sNamesOf) (defBody sNamesOf) (defScope sNamesOf) .none kv10 dc10 pm10 an10 cd10 ct10), sl10⟩)
    (c10 : PySem.W.codeIn K cd10 "_names_of" = true)
    (k10 : PySem.W.keepIn K (.ref f10) = true)
    (a11 : PySem.W.nsIn K mainGlobals "_is_joined" = some (some (.ref f11)))
    (l11 : K.lookup f11 = some ⟨oc11, od11, .func (PySem.W.fnOf "_is_joined" "_is_joined" (defArgs sIsJoined) (defBody sIsJoined) (defScope sIsJoined) .none kv11 dc11 pm11 an11 cd11 ct11), sl11⟩)
    (c11 : PySem.W.codeIn K cd11 "_is_joined" = true)
    (k11 : PySem.W.keepIn K (.ref f11) = true)
    (a12 : PySem.W.nsIn K mainGlobals "_law_stream" = some (some (.ref f12)))
    (l12 : K.lookup f12 = some ⟨oc12, od12, .func (PySem.W.fnOf "_law_stream" "_law_stream" (defArgs sStream) (defBody sStream) (defScope sStream) .none kv12 dc12 pm12 an12 cd12 ct12), sl12⟩)
    (c12 : PySem.W.codeIn K cd12 "_law_stream" = true)
    (k12 : PySem.W.keepIn K (.ref f12) = true)
    (a13 : PySem.W.nsIn K mainGlobals "_law_draw" = some (some (.ref f13)))
    (l13 : K.lookup f13 = some ⟨oc13, od13, .func (PySem.W.fnOf "_law_draw" "_law_draw" (defArgs sDraw) (defBody sDraw) (defScope sDraw) .none kv13 dc13 pm13 an13 cd13 ct13), sl13⟩)
    (c13 : PySem.W.codeIn K cd13 "_law_draw" = true)
    (k13 : PySem.W.keepIn K (.ref f13) = true)
    (a14 : PySem.W.nsIn K mainGlobals "_law_pick" = some (some (.ref f14)))
    (l14 : K.lookup f14 = some ⟨oc14, od14, .func (PySem.W.fnOf "_law_pick" "_law_pick" (defArgs sPick) (defBody sPick) (defScope sPick) .none kv14 dc14 pm14 an14 cd14 ct14), sl14⟩)
    (c14 : PySem.W.codeIn K cd14 "_law_pick" = true)
    (k14 : PySem.W.keepIn K (.ref f14) = true)
    (a15 : PySem.W.nsIn K mainGlobals "_law_mixed" = some (some (.ref f15)))
    (l15 : K.lookup f15 = some ⟨oc15, od15, .func (PySem.W.fnOf "_law_mixed" "_law_mixed" (defArgs sMixed) (defBody sMixed) (defScope sMixed) .none kv15 dc15 pm15 an15 cd15 ct15), sl15⟩)
    (c15 : PySem.W.codeIn K cd15 "_law_mixed" = true)
    (k15 : PySem.W.keepIn K (.ref f15) = true)
    (a16 : PySem.W.nsIn K mainGlobals "_law_names" = some (some (.ref f16)))
    (l16 : K.lookup f16 = some ⟨oc16, od16, .func (PySem.W.fnOf "_law_names" "_law_names" (defArgs sNames) (defBody sNames) (defScope sNames) .none kv16 dc16 pm16 an16 cd16 ct16), sl16⟩)
    (c16 : PySem.W.codeIn K cd16 "_law_names" = true)
    (k16 : PySem.W.keepIn K (.ref f16) = true)
    (a17 : PySem.W.nsIn K mainGlobals "_law_arcs" = some (some (.ref f17)))
    (l17 : K.lookup f17 = some ⟨oc17, od17, .func (PySem.W.fnOf "_law_arcs" "_law_arcs" (defArgs sArcs) (defBody sArcs) (defScope sArcs) .none kv17 dc17 pm17 an17 cd17 ct17), sl17⟩)
    (c17 : PySem.W.codeIn K cd17 "_law_arcs" = true)
    (k17 : PySem.W.keepIn K (.ref f17) = true)
    (a18 : PySem.W.nsIn K mainGlobals "_law_names_of" = some (some (.ref f18)))
    (l18 : K.lookup f18 = some ⟨oc18, od18, .func (PySem.W.fnOf "_law_names_of" "_law_names_of" (defArgs sLawNamesOf) (defBody sLawNamesOf) (defScope sLawNamesOf) .none kv18 dc18 pm18 an18 cd18 ct18), sl18⟩)
    (c18 : PySem.W.codeIn K cd18 "_law_names_of" = true)
    (k18 : PySem.W.keepIn K (.ref f18) = true)
    (a19 : PySem.W.nsIn K mainGlobals "_law_walk" = some (some (.ref f19)))
    (l19 : K.lookup f19 = some ⟨oc19, od19, .func (PySem.W.fnOf "_law_walk" "_law_walk" (defArgs sWalk) (defBody sWalk) (defScope sWalk) .none kv19 dc19 pm19 an19 cd19 ct19), sl19⟩)
    (c19 : PySem.W.codeIn K cd19 "_law_walk" = true)
    (k19 : PySem.W.keepIn K (.ref f19) = true)
    (a20 : PySem.W.nsIn K mainGlobals "_law_leads" = some (some (.ref f20)))
    (l20 : K.lookup f20 = some ⟨oc20, od20, .func (PySem.W.fnOf "_law_leads" "_law_leads" (defArgs sLeads) (defBody sLeads) (defScope sLeads) .none kv20 dc20 pm20 an20 cd20 ct20), sl20⟩)
    (c20 : PySem.W.codeIn K cd20 "_law_leads" = true)
    (k20 : PySem.W.keepIn K (.ref f20) = true)
    (a21 : PySem.W.nsIn K mainGlobals "_law_is_ring" = some (some (.ref f21)))
    (l21 : K.lookup f21 = some ⟨oc21, od21, .func (PySem.W.fnOf "_law_is_ring" "_law_is_ring" (defArgs sLawRing) (defBody sLawRing) (defScope sLawRing) .none kv21 dc21 pm21 an21 cd21 ct21), sl21⟩)
    (c21 : PySem.W.codeIn K cd21 "_law_is_ring" = true)
    (k21 : PySem.W.keepIn K (.ref f21) = true)
    (a22 : PySem.W.nsIn K mainGlobals "_law_near_way" = some (some (.ref f22)))
    (l22 : K.lookup f22 = some ⟨oc22, od22, .func (PySem.W.fnOf "_law_near_way" "_law_near_way" (defArgs sNear) (defBody sNear) (defScope sNear) .none kv22 dc22 pm22 an22 cd22 ct22), sl22⟩)
    (c22 : PySem.W.codeIn K cd22 "_law_near_way" = true)
    (k22 : PySem.W.keepIn K (.ref f22) = true)
    (a23 : PySem.W.nsIn K mainGlobals "_law_ways_right" = some (some (.ref f23)))
    (l23 : K.lookup f23 = some ⟨oc23, od23, .func (PySem.W.fnOf "_law_ways_right" "_law_ways_right" (defArgs sWaysRight) (defBody sWaysRight) (defScope sWaysRight) .none kv23 dc23 pm23 an23 cd23 ct23), sl23⟩)
    (c23 : PySem.W.codeIn K cd23 "_law_ways_right" = true)
    (k23 : PySem.W.keepIn K (.ref f23) = true)
    (a24 : PySem.W.nsIn K mainGlobals "_law_forms_right" = some (some (.ref f24)))
    (l24 : K.lookup f24 = some ⟨oc24, od24, .func (PySem.W.fnOf "_law_forms_right" "_law_forms_right" (defArgs sFormsRight) (defBody sFormsRight) (defScope sFormsRight) .none kv24 dc24 pm24 an24 cd24 ct24), sl24⟩)
    (c24 : PySem.W.codeIn K cd24 "_law_forms_right" = true)
    (k24 : PySem.W.keepIn K (.ref f24) = true)
    (a25 : PySem.W.nsIn K mainGlobals "law" = some (some (.ref f25)))
    (l25 : K.lookup f25 = some ⟨oc25, od25, .func (PySem.W.fnOf "law" "law" (defArgs sLaw) (defBody sLaw) (defScope sLaw) .none kv25 dc25 pm25 an25 cd25 ct25), sl25⟩)
    (c25 : PySem.W.codeIn K cd25 "law" = true)
    (k25 : PySem.W.keepIn K (.ref f25) = true)
    (aM : PySem.W.nsIn K mainGlobals "MAX_ARCS" = some (some (.int 400 tM)))
    (z0 : PySem.W.nsIn K mainGlobals "len" = some none)
    (z1 : PySem.W.nsIn K mainGlobals "int" = some none)
    (z2 : PySem.W.nsIn K mainGlobals "abs" = some none)
    (z3 : PySem.W.nsIn K mainGlobals "max" = some none)
    (z4 : PySem.W.nsIn K mainGlobals "min" = some none)
    (z5 : PySem.W.nsIn K mainGlobals "isinstance" = some none)
    (z6 : PySem.W.nsIn K mainGlobals "bool" = some none)
    (z7 : PySem.W.nsIn K mainGlobals "str" = some none)
    (z8 : PySem.W.nsIn K mainGlobals "tuple" = some none)
    (z9 : PySem.W.nsIn K mainGlobals "all" = some none)
    (z10 : PySem.W.nsIn K mainGlobals "sum" = some none)
    (z11 : PySem.W.nsIn K mainGlobals "sorted" = some none)
    (z12 : PySem.W.nsIn K mainGlobals "set" = some none)
    (z13 : PySem.W.nsIn K mainGlobals "zip" = some none)
    (z14 : PySem.W.nsIn K mainGlobals "range" = some none)
    (z15 : PySem.W.nsIn K mainGlobals "enumerate" = some none)
    (z16 : PySem.W.nsIn K mainGlobals "repr" = some none)
    (z17 : PySem.W.nsIn K mainGlobals "list" = some none)
    : ∃ fd : FuncData, (∀ (s : Shared) (v : Value), BindsTo s fd ⟨[v], []⟩ [("script", v)]) ∧ ∀ base : Heap, K.In base → base.Ns mainGlobals mg → FnG P w K mg base CX0 7 fa fd ["script"] (spLaw K) := by
  have e := hfa.symm.trans (PySem.W.mg_of X G a25)
  cases e
  have F1 := fun_mk (st := sIsInteger) l1 c1 k1
  have b1 := F1.binds (ps := ["value"]) fun _ _ _ _ _ _ us hl => match us, hl with | [_], _ => rfl
  have F2 := fun_mk (st := sIsBetween) l2 c2 k2
  have b2 := F2.binds (ps := ["value", "least", "most"]) fun _ _ _ _ _ _ us hl => match us, hl with | [_, _, _], _ => rfl
  have F3 := fun_mk (st := sIsName) l3 c3 k3
  have b3 := F3.binds (ps := ["value"]) fun _ _ _ _ _ _ us hl => match us, hl with | [_], _ => rfl
  have F4 := fun_mk (st := sIsArcs) l4 c4 k4
  have b4 := F4.binds (ps := ["value"]) fun _ _ _ _ _ _ us hl => match us, hl with | [_], _ => rfl
  have F5 := fun_mk (st := sIsWay) l5 c5 k5
  have b5 := kb_swap (K := K) (dc := dc5) (pm := pm5) (cd := cd5) (ct := ct5) (an := an5)
  have b5k := kb_keep (K := K) (dc := dc5) (pm := pm5) (cd := cd5) (ct := ct5) (an := an5)
  have F6 := fun_mk (st := sIsRing) l6 c6 k6
  have b6 := F6.binds (ps := ["arcs", "value"]) fun _ _ _ _ _ _ us hl => match us, hl with | [_, _], _ => rfl
  have F7 := fun_mk (st := sIsArc) l7 c7 k7
  have b7 := F7.binds (ps := ["value"]) fun _ _ _ _ _ _ us hl => match us, hl with | [_], _ => rfl
  have F8 := fun_mk (st := sCheckArcs) l8 c8 k8
  have b8 := F8.binds (ps := ["arcs"]) fun _ _ _ _ _ _ us hl => match us, hl with | [_], _ => rfl
  have F9 := fun_mk (st := sCheckName) l9 c9 k9
  have b9 := F9.binds (ps := ["arcs", "name"]) fun _ _ _ _ _ _ us hl => match us, hl with | [_, _], _ => rfl
  have F10 := fun_mk (st := sNamesOf) l10 c10 k10
  have b10 := F10.binds (ps := ["arcs"]) fun _ _ _ _ _ _ us hl => match us, hl with | [_], _ => rfl
  have F11 := fun_mk (st := sIsJoined) l11 c11 k11
  have b11 := F11.binds (ps := ["arcs", "value"]) fun _ _ _ _ _ _ us hl => match us, hl with | [_, _], _ => rfl
  have F12 := fun_mk (st := sStream) l12 c12 k12
  have b12 := F12.binds (ps := ["script", "at"]) fun _ _ _ _ _ _ us hl => match us, hl with | [_, _], _ => rfl
  have F13 := fun_mk (st := sDraw) l13 c13 k13
  have b13 := F13.binds (ps := ["stream", "total"]) fun _ _ _ _ _ _ us hl => match us, hl with | [_, _], _ => rfl
  have F14 := fun_mk (st := sPick) l14 c14 k14
  have b14 := F14.binds (ps := ["stream", "items"]) fun _ _ _ _ _ _ us hl => match us, hl with | [_, _], _ => rfl
  have F15 := fun_mk (st := sMixed) l15 c15 k15
  have b15 := F15.binds (ps := ["stream", "items"]) fun _ _ _ _ _ _ us hl => match us, hl with | [_, _], _ => rfl
  have F16 := fun_mk (st := sNames) l16 c16 k16
  have b16 := F16.binds (ps := ["stream", "total"]) fun _ _ _ _ _ _ us hl => match us, hl with | [_, _], _ => rfl
  have F17 := fun_mk (st := sArcs) l17 c17 k17
  have b17 := F17.binds (ps := ["stream", "total", "most"]) fun _ _ _ _ _ _ us hl => match us, hl with | [_, _, _], _ => rfl
  have F18 := fun_mk (st := sLawNamesOf) l18 c18 k18
  have b18 := F18.binds (ps := ["arcs"]) fun _ _ _ _ _ _ us hl => match us, hl with | [_], _ => rfl
  have F19 := fun_mk (st := sWalk) l19 c19 k19
  have b19 := F19.binds (ps := ["stream", "arcs", "most"]) fun _ _ _ _ _ _ us hl => match us, hl with | [_, _, _], _ => rfl
  have F20 := fun_mk (st := sLeads) l20 c20 k20
  have b20 := F20.binds (ps := ["arcs", "way"]) fun _ _ _ _ _ _ us hl => match us, hl with | [_, _], _ => rfl
  have F21 := fun_mk (st := sLawRing) l21 c21 k21
  have b21 := F21.binds (ps := ["arcs", "way"]) fun _ _ _ _ _ _ us hl => match us, hl with | [_, _], _ => rfl
  have F22 := fun_mk (st := sNear) l22 c22 k22
  have b22 := F22.binds (ps := ["stream", "arcs", "way"]) fun _ _ _ _ _ _ us hl => match us, hl with | [_, _, _], _ => rfl
  have F23 := fun_mk (st := sWaysRight) l23 c23 k23
  have b23 := F23.binds (ps := ["stream", "arcs"]) fun _ _ _ _ _ _ us hl => match us, hl with | [_, _], _ => rfl
  have F24 := fun_mk (st := sFormsRight) l24 c24 k24
  have b24 := F24.binds (ps := ["stream", "arcs"]) fun _ _ _ _ _ _ us hl => match us, hl with | [_, _], _ => rfl
  have F25 := fun_mk (st := sLaw) l25 c25 k25
  refine ⟨PySem.W.fnOf "law" "law" (defArgs sLaw) (defBody sLaw) (defScope sLaw) .none kv25 dc25 pm25 an25 cd25 ct25, fun s v => .of_eq rfl, fun base _ _ => ?_⟩
  have B : TxtB mg := ⟨PySem.W.mg_none_of X G z0, PySem.W.mg_none_of X G z1, PySem.W.mg_none_of X G z2, PySem.W.mg_none_of X G z3⟩
  have C : TxtC mg := ⟨PySem.W.mg_none_of X G z5, PySem.W.mg_none_of X G z1, PySem.W.mg_none_of X G z6, PySem.W.mg_none_of X G z7, PySem.W.mg_none_of X G z8, PySem.W.mg_none_of X G z9, PySem.W.mg_none_of X G z0⟩
  have Z : TxtZ mg := ⟨PySem.W.mg_none_of X G z5, PySem.W.mg_none_of X G z8, PySem.W.mg_none_of X G z9, PySem.W.mg_none_of X G z0, PySem.W.mg_none_of X G z13, PySem.W.mg_none_of X G z10⟩
  have L : TxtL mg := ⟨PySem.W.mg_none_of X G z5, PySem.W.mg_none_of X G z1, PySem.W.mg_none_of X G z6, PySem.W.mg_none_of X G z8, PySem.W.mg_none_of X G z0, PySem.W.mg_none_of X G z15, PySem.W.mg_none_of X G z12, PySem.W.mg_none_of X G z11, PySem.W.mg_none_of X G z10⟩
  have G12 := ok_stream (P := P) (w := w) (base := base) F12 B
  have G13 := ok_draw (P := P) (w := w) (base := base) F13 B
  have G14 := ok_pick F14 B G13 ⟨PySem.W.mg_of X G a13, k13, b13⟩
  have G1 := ok_isInteger (P := P) (w := w) (base := base) F1 C
  have G2 := ok_isBetween F2 G1 ⟨PySem.W.mg_of X G a1, k1, b1⟩
  have G3 := ok_isName (P := P) (w := w) (base := base) F3 C
  have G7 := ok_isArc F7 C G1 ⟨PySem.W.mg_of X G a1, k1, b1⟩ G3 ⟨PySem.W.mg_of X G a3, k3, b3⟩
  have G4 := ok_isArcs F4 C G7 ⟨PySem.W.mg_of X G a7, k7, b7, PySem.W.mg_of X G aM⟩
  have G8 := ok_checkArcs F8 G4 ⟨PySem.W.mg_of X G a4, k4, b4⟩
  have G10 := ok_namesOf (P := P) (w := w) (base := base) F10 ⟨PySem.W.mg_none_of X G z11⟩
  have G9 := ok_checkName F9 G10 ⟨PySem.W.mg_of X G a10, k10, b10⟩
  have G11 := ok_isJoined F11 Z G2 ⟨PySem.W.mg_of X G a2, k2, b2⟩
  have Y : TxtY K mg f8 f9 f11 _ _ _ := ⟨PySem.W.mg_of X G a8, k8, b8, PySem.W.mg_of X G a9, k9, b9, PySem.W.mg_of X G a11, k11, b11⟩
  have G5 := ok_isWay F5 Z G8 G9 G11 Y
  have G6 := ok_isRing F6 Z G8 G11 Y
  have G20 := ok_leads (P := P) (w := w) (base := base) F20 L
  have G18 := ok_lawNamesOf (P := P) (w := w) (base := base) F18 L
  have G21 := ok_lawRing F21 L G20 ⟨PySem.W.mg_of X G a20, k20, b20⟩
  have G15 := ok_mixed F15 ⟨PySem.W.mg_of X G a13, k13, b13, PySem.W.mg_none_of X G z17, PySem.W.mg_none_of X G z0, PySem.W.mg_none_of X G z14, PySem.W.mg_none_of X G z8⟩ G13
  have G16 := ok_lnames F16 G15 ⟨PySem.W.mg_of X G a15, k15, b15⟩
  have G17 := ok_larcs F17 G13 G16 G14 ⟨PySem.W.mg_of X G a13, k13, b13, PySem.W.mg_of X G a16, k16, b16, PySem.W.mg_of X G a14, k14, b14, PySem.W.mg_none_of X G z14, PySem.W.mg_none_of X G z8⟩
  have G19 := ok_walk F19 G13 G14 ⟨PySem.W.mg_of X G a13, k13, b13, PySem.W.mg_of X G a14, k14, b14, PySem.W.mg_none_of X G z14, PySem.W.mg_none_of X G z8, PySem.W.mg_none_of X G z15⟩
  have G22 := ok_near F22 G14 ⟨PySem.W.mg_of X G a14, k14, b14, PySem.W.mg_none_of X G z0, PySem.W.mg_none_of X G z17⟩
  have G23 := ok_waysRight F23 G18 G19 G22 G6 G21 G20 G5 ⟨PySem.W.mg_of X G a18, k18, b18, PySem.W.mg_of X G a19, k19, b19, PySem.W.mg_of X G a22, k22, b22, PySem.W.mg_of X G a6, k6, b6, PySem.W.mg_of X G a21, k21, b21, PySem.W.mg_of X G a20, k20, b20, PySem.W.mg_of X G a5, k5, b5, PySem.W.mg_none_of X G z14, PySem.W.mg_none_of X G z16⟩
  have G24 := ok_formsRight F24 G14 G16 G3 G4 ⟨PySem.W.mg_of X G a14, k14, b14, PySem.W.mg_of X G a16, k16, b16, PySem.W.mg_of X G a3, k3, b3, PySem.W.mg_of X G a4, k4, b4, PySem.W.mg_none_of X G z16, PySem.W.mg_none_of X G z17⟩
  exact ok_law F25 G12 G17 G23 G24 G6 G3 G4 G5 ⟨PySem.W.mg_of X G a12, k12, b12, PySem.W.mg_of X G a17, k17, b17, PySem.W.mg_of X G a23, k23, b23, PySem.W.mg_of X G a24, k24, b24, PySem.W.mg_of X G a6, k6, b6, PySem.W.mg_of X G a3, k3, b3, PySem.W.mg_of X G a4, k4, b4, PySem.W.mg_of X G a5, k5, b5k, PySem.W.mg_none_of X G z14, PySem.W.mg_none_of X G z3, PySem.W.mg_none_of X G z4, PySem.W.mg_none_of X G z0⟩
end K01

set_option Elab.async false
open PySem PySem.W PyProof.Rows in
set_option maxRecDepth 100000 in
set_option maxHeartbeats 0 in
theorem PySem.Challenge.cw_heardlate_k01_ways_and_rings_holds : PySem.Challenge.rw_heardlate_k01_ways_and_rings.Holds := by
  w_on; o_law; k_head; (case hw => w_witness2)
  k_fill
  refine LW.walk_ofG (l := PySem.Challenge.rw_heardlate_k01_ways_and_rings) (n := 63) (k := 7) (x := "script") (sp := K01.spLaw) rfl (by decide) rfl ⟨rfl, by decide, by decide⟩ (fun w h Y => PySem.W.kIn_of Y) ?F ?S
  case F =>
    intro w mg fa h KX G hmg
    refine' K01.all_mk KX G hmg ?a1 ?l1 ?c1 ?k1 ?a2 ?l2 ?c2 ?k2 ?a3 ?l3 ?c3 ?k3 ?a4 ?l4 ?c4 ?k4 ?a5 ?l5 ?c5 ?k5 ?a6 ?l6 ?c6 ?k6 ?a7 ?l7 ?c7 ?k7 ?a8 ?l8 ?c8 ?k8 ?a9 ?l9 ?c9 ?k9 ?a10 ?l10 ?c10 ?k10 ?a11 ?l11 ?c11 ?k11 ?a12 ?l12 ?c12 ?k12 ?a13 ?l13 ?c13 ?k13 ?a14 ?l14 ?c14 ?k14 ?a15 ?l15 ?c15 ?k15 ?a16 ?l16 ?c16 ?k16 ?a17 ?l17 ?c17 ?k17 ?a18 ?l18 ?c18 ?k18 ?a19 ?l19 ?c19 ?k19 ?a20 ?l20 ?c20 ?k20 ?a21 ?l21 ?c21 ?k21 ?a22 ?l22 ?c22 ?k22 ?a23 ?l23 ?c23 ?k23 ?a24 ?l24 ?c24 ?k24 ?a25 ?l25 ?c25 ?k25 ?aM ?z0 ?z1 ?z2 ?z3 ?z4 ?z5 ?z6 ?z7 ?z8 ?z9 ?z10 ?z11 ?z12 ?z13 ?z14 ?z15 ?z16 ?z17
    (case a1 => k_is)
    (case l1 => k_is)
    (case c1 => k_is)
    (case k1 => k_is)
    (case a2 => k_is)
    (case l2 => k_is)
    (case c2 => k_is)
    (case k2 => k_is)
    (case a3 => k_is)
    (case l3 => k_is)
    (case c3 => k_is)
    (case k3 => k_is)
    (case a4 => k_is)
    (case l4 => k_is)
    (case c4 => k_is)
    (case k4 => k_is)
    (case a5 => k_is)
    (case l5 => k_is)
    (case c5 => k_is)
    (case k5 => k_is)
    (case a6 => k_is)
    (case l6 => k_is)
    (case c6 => k_is)
    (case k6 => k_is)
    (case a7 => k_is)
    (case l7 => k_is)
    (case c7 => k_is)
    (case k7 => k_is)
    (case a8 => k_is)
    (case l8 => k_is)
    (case c8 => k_is)
    (case k8 => k_is)
    (case a9 => k_is)
    (case l9 => k_is)
    (case c9 => k_is)
    (case k9 => k_is)
    (case a10 => k_is)
    (case l10 => k_is)
    (case c10 => k_is)
    (case k10 => k_is)
    (case a11 => k_is)
    (case l11 => k_is)
    (case c11 => k_is)
    (case k11 => k_is)
    (case a12 => k_is)
    (case l12 => k_is)
    (case c12 => k_is)
    (case k12 => k_is)
    (case a13 => k_is)
    (case l13 => k_is)
    (case c13 => k_is)
    (case k13 => k_is)
    (case a14 => k_is)
    (case l14 => k_is)
    (case c14 => k_is)
    (case k14 => k_is)
    (case a15 => k_is)
    (case l15 => k_is)
    (case c15 => k_is)
    (case k15 => k_is)
    (case a16 => k_is)
    (case l16 => k_is)
    (case c16 => k_is)
    (case k16 => k_is)
    (case a17 => k_is)
    (case l17 => k_is)
    (case c17 => k_is)
    (case k17 => k_is)
    (case a18 => k_is)
    (case l18 => k_is)
    (case c18 => k_is)
    (case k18 => k_is)
    (case a19 => k_is)
    (case l19 => k_is)
    (case c19 => k_is)
    (case k19 => k_is)
    (case a20 => k_is)
    (case l20 => k_is)
    (case c20 => k_is)
    (case k20 => k_is)
    (case a21 => k_is)
    (case l21 => k_is)
    (case c21 => k_is)
    (case k21 => k_is)
    (case a22 => k_is)
    (case l22 => k_is)
    (case c22 => k_is)
    (case k22 => k_is)
    (case a23 => k_is)
    (case l23 => k_is)
    (case c23 => k_is)
    (case k23 => k_is)
    (case a24 => k_is)
    (case l24 => k_is)
    (case c24 => k_is)
    (case k24 => k_is)
    (case a25 => k_is)
    (case l25 => k_is)
    (case c25 => k_is)
    (case k25 => k_is)
    (case aM => k_is)
    (case z0 => k_is)
    (case z1 => k_is)
    (case z2 => k_is)
    (case z3 => k_is)
    (case z4 => k_is)
    (case z5 => k_is)
    (case z6 => k_is)
    (case z7 => k_is)
    (case z8 => k_is)
    (case z9 => k_is)
    (case z10 => k_is)
    (case z11 => k_is)
    (case z12 => k_is)
    (case z13 => k_is)
    (case z14 => k_is)
    (case z15 => k_is)
    (case z16 => k_is)
    (case z17 => k_is)
  case S =>
    intro K H a ns hl hO hS
    exact ⟨a, ns, rfl, hS, hl, fun _ => rfl⟩
#print axioms PySem.Challenge.cw_heardlate_k01_ways_and_rings_holds

